import PyProof.Rows.All
import Wide.All
import OpenK.AllK
import Wide.FinOn
import HandS.ListItems
import KE.KDictList
import HandS.DictTup
import KE.KDictWalk
import PyProof.StrBlock2
import HandS.Strs
import HandS.TryOnly
import HandS.ExcCtx
import HandS.Hot
import HandS.HotCalls
import HandS.SuiteRaise
import HandS.RaiseFrom
import HandS.ExcInitHot
import HandS.NestedHot
import HandS.Replace
import PyProof.MeetsStr3
import PyProof.FitsReplace
import PyProof.StrCalls6
import KE.KTryMore
import HandS.SetFor
import HandS.SortKw
import KE.DatumOrd
import PyProof.WalksMore
import HandS.WordsDict
import KE.KStateDown
import KE.KSuper
import HandS.Base
import HandS.Call
import HandS.Ends
import HandS.Words
import HandS.Exc
import HandS.Head0
import HandS.Head1
import HandS.Head2
import HandS.HeadEnd
import HandS.HeadHook1
import HandS.HeadHook2
import HandS.HeadHook3
import HandS.ForMost
import HandS.Evl
import HandS.IsInst
import HandS.TupAny
import HandS.SortInts
import HandS.Flow
import HandS.Wide
import HandS.Style
import HandS.StrMore
import KE.SortData
import HandS.DictComp
import PyProof.ListRange
import HandS.Conv
import HandS.Iter
import KE.GoesEnumKw
import KE.KxField
import HandS.FStr
import HandS.StrSplit
import HandS.Text
import KE.KExcSuper
import HandS.ExcInit
import HandS.ExcOwn
import HandS.ExcField
import HandS.TryMany
import HandS.WordsExc
import HandS.RaiseMore
import HandS.Small
import HandS.Nested
import HandS.ExcSuper
import HandS.Zip
import PyProof.StrLawsOcc
import PyProof.StrLawsChain
import HandS.Set
import PyProof.Rows.SortShellAny
import HandS.ExcIs
import HandS.SortOrd
import HandS.Sort
import HandS.SortRule
import HandS.Deep
import HandS.TupLe
import HandS.Property
import HandS.More
import PyProof.ReprText
import PyProof.StrLawsRepr
import PyProof.ReprLen
import PyProof.Rows.StrSplitMax
import KE.KIntText
import PySem.Challenge.RW_limitweave_k39_whole_records
set_option Elab.async false
set_option linter.all false
set_option maxRecDepth 100000
set_option maxHeartbeats 3900000
namespace HX
open PySem PySem.Spec PyProof.Rows L2
open PySem.W (Frag)
/-- what an object names -/
def refsX (o : Obj) : List Addr := match o.data with
  | .seq its _ => its.toList.flatMap He.refV
  | .dict es _ => es.toList.flatMap fun e => He.refV e.val
  | .func fd => He.refV fd.code ++ (He.refV fd.defaults ++ fd.closure.map (·.2))
  | .cls cd => [cd.ns]
  | .fields vs => (match decide (o.cls = .type "property") with
    | true => vs.toList.flatMap He.refV
    | false => [])
  | _ => []
def lev (g : Addr → Option Obj) : Nat → List Addr → List Addr
  | 0, as => as
  | n + 1, as => as ++ lev g n (as.flatMap fun a => match g a with
    | some o => refsX o
    | none => [])
def asX (g : Addr → Option Obj) (n : Nat) : List Addr := PySem.cStatics :: lev g n [mainGlobals]
def frX (g : Addr → Option Obj) : List Addr → Frag
  | [] => []
  | a :: r => HandSHeadRun.frNat a fun a => match g a with
    | some o => (a, o) :: frX g r
    | none => frX g r
theorem frX_at {g : Addr → Option Obj} {a : Addr} {o : Obj} : ∀ as : List Addr, (frX g as).lookup a = some o → g a = some o
  | [], e => nomatch (show (none : Option Obj) = some o from e)
  | b :: r, e => by
    rw [frX, HandSHeadRun.frNat_eq] at e
    cases hb : g b with
    | none =>
      rw [hb] at e
      exact frX_at r e
    | some ob =>
      rw [hb] at e
      have e2 : (match a == b with | true => some ob | false => (frX g r).lookup a) = some o := e
      cases q : (a == b) with
      | true =>
        rw [q] at e2
        have eo : ob = o := Option.some.inj e2
        rw [beq_iff_eq.mp q, hb, eo]
      | false =>
        rw [q] at e2
        exact frX_at r e2
theorem frX_in {as : List Addr} {h : Heap} : (frX h.get? as).In h := fun _ _ e => frX_at as e
def tk (K : Frag) (ns : Addr) (x : Str) : Tok := match PySem.W.nsIn K ns x with
  | some (some (.int _ t)) => t
  | some (some (.str _ t)) => t
  | _ => default
abbrev FV : Type := Option (Str × Str × Arguments × FuncBody × Scope × Addr × List Str × Value × Addr)
def fnO (K : Frag) (a : Addr) : FV := match K.lookup a with
  | some ⟨_, _, .func fd, _⟩ => some (fd.name, fd.qualname, fd.params, fd.body, fd.scope, fd.globals, fd.closure.map (·.1), fd.defaults, fd.builtins)
  | _ => none
structure FD where
  at_ : Frag → Addr
  name : Str
  qual : Str
  st : Stmt
  cl : List Str := []
def FD.val (d : FD) : FV := some (d.name, d.qual, defArgs d.st, .stmts (defBody d.st), defScope d.st, mainGlobals, d.cl, .none, builtinsNs)
def codeB (K : Frag) (a : Addr) (q : Str) : Bool := match K.lookup a with
  | some ⟨_, _, .func fd, _⟩ => PySem.W.codeIn K fd.code q && PySem.W.keepIn K (.ref a)
  | _ => false
def FnIn (K : Frag) (f : Addr) (x qual : Str) (st : Stmt) : Prop := ∃ (oc : Value) (od : Option Addr) (kV dc pm : Value) (an : Option Addr) (cd ct : Value) (sl : Array (Option Value)), K.lookup f = some ⟨oc, od, .func (PySem.W.fnOf x qual (defArgs st) (defBody st) (defScope st) .none kV dc pm an cd ct), sl⟩ ∧ PySem.W.codeIn K cd qual = true ∧ PySem.W.keepIn K (.ref f) = true
theorem fd_cases {K : Frag} {d : FD} (e : fnO K (d.at_ K) = d.val) (c : codeB K (d.at_ K) d.qual = true) :
    ∃ (oc : Value) (od : Option Addr) (fd : FuncData) (sl : Array (Option Value)), K.lookup (d.at_ K) = some ⟨oc, od, .func fd, sl⟩ ∧ fd.closure.map (·.1) = d.cl ∧ (∀ cl, fd.closure = cl → ∃ kV dc pm an ct, fd = PySem.W.fnX d.name d.qual (defArgs d.st) (defBody d.st) (defScope d.st) cl .none kV dc pm an fd.code ct) ∧ PySem.W.codeIn K fd.code d.qual = true ∧ PySem.W.keepIn K (.ref (d.at_ K)) = true := by
  unfold codeB at c
  unfold fnO at e
  cases q : K.lookup (d.at_ K) with
  | none =>
    rw [q] at c
    cases c
  | some o =>
    obtain ⟨oc, od, dt, osl⟩ := o
    rw [q] at c e
    cases dt with
    | func fd =>
      obtain ⟨c1, c2⟩ := Bool.and_eq_true_iff.mp (show (PySem.W.codeIn K fd.code d.qual && PySem.W.keepIn K (.ref (d.at_ K))) = true from c)
      obtain ⟨n1, n2, n3, n4, n5, n6, n7, n8, n9, n10, n11, n12, n13, n14, n15⟩ := fd
      have e2 : (some (n1, n2, n3, n4, n5, n6, n7.map (·.1), n8, n15) : FV) = some (d.name, d.qual, defArgs d.st, .stmts (defBody d.st), defScope d.st, mainGlobals, d.cl, .none, builtinsNs) := e
      simp only [Option.some.injEq, Prod.mk.injEq] at e2
      obtain ⟨h1, h2, h3, h4, h5, h6, h7, h8, h9⟩ := e2
      refine ⟨oc, od, _, osl, rfl, h7, fun cl hc => ⟨n9, n10, n11, n12, n14, ?_⟩, c1, c2⟩
      have hc2 : n7 = cl := hc
      subst h1 h2 h3 h4 h5 h6 h8 h9 hc2
      rfl
    | _ => cases c
theorem fd_in {K : Frag} {d : FD} (hcl : d.cl = []) (e : fnO K (d.at_ K) = d.val) (c : codeB K (d.at_ K) d.qual = true) : FnIn K (d.at_ K) d.name d.qual d.st := by
  obtain ⟨oc, od, fd, sl, h1, h2, h3, h4, h5⟩ := fd_cases e c
  rw [hcl] at h2
  obtain ⟨kV, dc, pm, an, ct, h6⟩ := h3 [] (List.map_eq_nil_iff.mp h2)
  exact ⟨oc, od, kV, dc, pm, an, fd.code, ct, sl, h1.trans (congrArg (fun z => some (⟨oc, od, .func z, sl⟩ : Obj)) h6), h4, h5⟩
abbrev Tab : Type := (Frag → Addr) × List Str
abbrev Al : Type := Bool × List FV × List (Option (List (Option (Str × Int))))
def obsK (bs : List (List (Frag → Bool))) (fs : List FD) (ts : List Tab) (K : Frag) : Al := ((bs.all fun b => b.all fun f => f K) && fs.all fun d => codeB K (d.at_ K) d.qual, fs.map fun d => fnO K (d.at_ K), ts.map fun t => He.dicW K (t.1 K))
def valK (fs : List FD) (ts : List Tab) (w : World) : Al := (true, fs.map FD.val, ts.map fun t => some (He.keysIn w.params t.2))
def obsG (n : Nat) (bs : List (List (Frag → Bool))) (fs : List FD) (ts : List Tab) (g : Addr → Option Obj) : Al := obsK bs fs ts (frX g (asX g n))
def Says (bs : List (List (Frag → Bool))) (fs : List FD) (ts : List Tab) (w : World) (K : Frag) : Prop := obsK bs fs ts K = valK fs ts w
def hook (n : Nat) (bs : List (List (Frag → Bool))) (fs : List FD) (ts : List Tab) : PySem.W.Hook where
  α := Al
  obs := fun s => obsG n bs fs ts s.heap.get?
  val := fun w => valK fs ts w
  says := fun w h => ∃ K : Frag, K.In h ∧ Says bs fs ts w K
  of := fun _ _ e => ⟨_, frX_in, e⟩
  keeps := fun _ _ _ ⟨K, hK, c⟩ k => ⟨K, PySem.W.Frag.In.keeps hK k, c⟩
theorem obsG_eq {n : Nat} {bs : List (List (Frag → Bool))} {fs : List FD} {ts : List Tab} {g : Addr → Option Obj} {s : Shared} (h : ∀ a, g a = s.heap.get? a) : obsG n bs fs ts g = (hook n bs fs ts).obs s := by
  have e : g = s.heap.get? := funext h
  rw [e] <;> rfl
section
variable {bs : List (List (Frag → Bool))} {fs : List FD} {ts : List Tab} {w : World} {K : Frag}
theorem Says.both (c : Says bs fs ts w K) : (bs.all fun b => b.all fun f => f K) = true ∧ (fs.all fun d => codeB K (d.at_ K) d.qual) = true :=
  Bool.and_eq_true_iff.mp (show ((bs.all fun b => b.all fun f => f K) && fs.all fun d => codeB K (d.at_ K) d.qual) = true from congrArg (fun z : Al => z.1) c)
theorem Says.b (c : Says bs fs ts w K) (i j : Nat) {b : List (Frag → Bool)} {f : Frag → Bool} (h : bs[i]? = some b) (h2 : b[j]? = some f) : f K = true :=
  List.all_eq_true.mp (List.all_eq_true.mp c.both.1 b (List.mem_of_getElem? h)) f (List.mem_of_getElem? h2)
theorem Says.fd (c : Says bs fs ts w K) (i : Nat) {d : FD} (h : fs[i]? = some d) : fnO K (d.at_ K) = d.val ∧ codeB K (d.at_ K) d.qual = true := by
  have e : fs.map (fun d => fnO K (d.at_ K)) = fs.map FD.val := congrArg (fun z : Al => z.2.1) c
  have e2 : (fs.map fun d => fnO K (d.at_ K))[i]? = (fs.map FD.val)[i]? := by rw [e]
  rw [List.getElem?_map, List.getElem?_map, h] at e2
  exact ⟨Option.some.inj e2, List.all_eq_true.mp c.both.2 d (List.mem_of_getElem? h)⟩
theorem Says.fn (c : Says bs fs ts w K) (i : Nat) {d : FD} (h : fs[i]? = some d) (hcl : d.cl = []) : FnIn K (d.at_ K) d.name d.qual d.st := fd_in hcl (c.fd i h).1 (c.fd i h).2
end
end HX

namespace Toy
open PySem PyProof.Rows L2
def top (i : Nat) : Stmt := PySem.Challenge.pw_limitweave_k39_whole_records.main.body.getD i (.Pass ⟨0, 0, 0, 0⟩)
end Toy

namespace Hd
open PySem PyProof.Rows L2
def bk0 : List (PySem.W.Frag → Bool) := [
  fun K => decide (PySem.W.nsIn K mainGlobals "parse_number" = some (some (.ref (He.ga K "parse_number")))),
  fun K => decide (PySem.W.nsIn K mainGlobals "check_digits" = some (some (.ref (He.ga K "check_digits")))),
  fun K => decide (PySem.W.nsIn K mainGlobals "record_line" = some (some (.ref (He.ga K "record_line")))),
  fun K => decide (PySem.W.nsIn K mainGlobals "record_text" = some (some (.ref (He.ga K "record_text")))),
  fun K => decide (PySem.W.nsIn K mainGlobals "is_body" = some (some (.ref (He.ga K "is_body")))),
  fun K => decide (PySem.W.nsIn K mainGlobals "read_record" = some (some (.ref (He.ga K "read_record")))),
  fun K => decide (PySem.W.nsIn K mainGlobals "whole_records" = some (some (.ref (He.ga K "whole_records")))),
  fun K => decide (PySem.W.nsIn K mainGlobals "whole_length" = some (some (.ref (He.ga K "whole_length")))),
  fun K => decide (PySem.W.nsIn K mainGlobals "_law_row" = some (some (.ref (He.ga K "_law_row")))),
  fun K => decide (PySem.W.nsIn K mainGlobals "_law_numbers" = some (some (.ref (He.ga K "_law_numbers")))),
  fun K => decide (PySem.W.nsIn K mainGlobals "_law_three" = some (some (.ref (He.ga K "_law_three")))),
  fun K => decide (PySem.W.nsIn K mainGlobals "_law_digits" = some (some (.ref (He.ga K "_law_digits")))),
  fun K => decide (PySem.W.nsIn K mainGlobals "_law_line" = some (some (.ref (He.ga K "_law_line")))),
  fun K => decide (PySem.W.nsIn K mainGlobals "_law_sign" = some (some (.ref (He.ga K "_law_sign")))),
  fun K => decide (PySem.W.nsIn K mainGlobals "_law_drawn" = some (some (.ref (He.ga K "_law_drawn")))),
  fun K => decide (PySem.W.nsIn K mainGlobals "_law_lines" = some (some (.ref (He.ga K "_law_lines")))),
  fun K => decide (PySem.W.nsIn K mainGlobals "law" = some (some (.ref (He.ga K "law")))),
  fun K => decide (PySem.W.nsIn K mainGlobals "len" = some none),
  fun K => decide (PySem.W.nsIn K mainGlobals "int" = some none),
  fun K => decide (PySem.W.nsIn K mainGlobals "abs" = some none),
  fun K => decide (PySem.W.nsIn K mainGlobals "range" = some none),
  fun K => decide (PySem.W.nsIn K mainGlobals "tuple" = some none),
  fun K => decide (PySem.W.nsIn K mainGlobals "list" = some none),
  fun K => decide (PySem.W.nsIn K mainGlobals "sorted" = some none),
  fun K => decide (PySem.W.nsIn K mainGlobals "set" = some none),
  fun K => decide (PySem.W.nsIn K mainGlobals "isinstance" = some none),
  fun K => decide (PySem.W.nsIn K mainGlobals "bool" = some none),
  fun K => decide (PySem.W.nsIn K mainGlobals "min" = some none),
  fun K => decide (PySem.W.nsIn K mainGlobals "max" = some none),
  fun K => decide (PySem.W.nsIn K mainGlobals "sum" = some none)]
def bk1 : List (PySem.W.Frag → Bool) := [
  fun K => decide (PySem.W.nsIn K mainGlobals "all" = some none),
  fun K => decide (PySem.W.nsIn K mainGlobals "any" = some none),
  fun K => decide (PySem.W.nsIn K mainGlobals "str" = some none),
  fun K => decide (PySem.W.nsIn K mainGlobals "zip" = some none),
  fun K => decide (PySem.W.nsIn K mainGlobals "enumerate" = some none),
  fun K => decide (PySem.W.nsIn K mainGlobals "DIGITS" = some (some (.str "0123456789" (HX.tk K mainGlobals "DIGITS")))),
  fun K => decide (PySem.W.nsIn K mainGlobals "LONGEST_BODY" = some (some (.int 700 (HX.tk K mainGlobals "LONGEST_BODY")))),
  fun K => decide (PySem.W.nsIn K mainGlobals "PRIME" = some (some (.int 997 (HX.tk K mainGlobals "PRIME")))),
  fun K => decide (PySem.W.nsIn K mainGlobals "SIZE_DIGITS" = some (some (.int 3 (HX.tk K mainGlobals "SIZE_DIGITS")))),
  fun K => decide (PySem.W.nsIn K mainGlobals "NUMBER_DIGITS" = some (some (.int 6 (HX.tk K mainGlobals "NUMBER_DIGITS")))),
  fun K => decide (PySem.W.nsIn K mainGlobals "END" = some (some (.int 7 (HX.tk K mainGlobals "END")))),
  fun K => decide (PySem.W.nsIn K mainGlobals "ord" = some none),
  fun K => decide (PySem.W.nsIn K mainGlobals "repr" = some none)]
def bss : List (List (PySem.W.Frag → Bool)) := [bk0, bk1]
def fk0 : List HX.FD := [
  ⟨fun K => (He.ga K "parse_number"), "parse_number", "parse_number", Toy.top 2, []⟩,
  ⟨fun K => (He.ga K "check_digits"), "check_digits", "check_digits", Toy.top 9, []⟩,
  ⟨fun K => (He.ga K "record_line"), "record_line", "record_line", Toy.top 10, []⟩,
  ⟨fun K => (He.ga K "record_text"), "record_text", "record_text", Toy.top 11, []⟩,
  ⟨fun K => (He.ga K "is_body"), "is_body", "is_body", Toy.top 12, []⟩,
  ⟨fun K => (He.ga K "read_record"), "read_record", "read_record", Toy.top 13, []⟩,
  ⟨fun K => (He.ga K "whole_records"), "whole_records", "whole_records", Toy.top 14, []⟩,
  ⟨fun K => (He.ga K "whole_length"), "whole_length", "whole_length", Toy.top 15, []⟩,
  ⟨fun K => (He.ga K "_law_row"), "_law_row", "_law_row", Toy.top 17, []⟩,
  ⟨fun K => (He.ga K "_law_numbers"), "_law_numbers", "_law_numbers", Toy.top 18, []⟩,
  ⟨fun K => (He.ga K "_law_three"), "_law_three", "_law_three", Toy.top 19, []⟩,
  ⟨fun K => (He.ga K "_law_digits"), "_law_digits", "_law_digits", Toy.top 20, []⟩,
  ⟨fun K => (He.ga K "_law_line"), "_law_line", "_law_line", Toy.top 21, []⟩,
  ⟨fun K => (He.ga K "_law_sign"), "_law_sign", "_law_sign", Toy.top 23, []⟩,
  ⟨fun K => (He.ga K "_law_drawn"), "_law_drawn", "_law_drawn", Toy.top 24, []⟩,
  ⟨fun K => (He.ga K "_law_lines"), "_law_lines", "_law_lines", Toy.top 25, []⟩,
  ⟨fun K => (He.ga K "law"), "law", "law", Toy.top 26, []⟩]
def fds : List HX.FD := fk0
def tbs : List HX.Tab := []
def nm0 : List PySem.Str := [
  "DIGITS",
  "parse_number",
  "LONGEST_BODY",
  "PRIME",
  "SIZE_DIGITS",
  "NUMBER_DIGITS",
  "END",
  "check_digits",
  "record_line",
  "record_text",
  "is_body",
  "read_record",
  "whole_records",
  "whole_length",
  "_law_row",
  "_law_numbers",
  "_law_three",
  "_law_digits",
  "_law_line",
  "_law_text",
  "_law_sign",
  "_law_drawn",
  "_law_lines"]
def names : List PySem.Str := nm0
abbrev R : PySem.W.OpenRow := PySem.W.OpenLaw.row PySem.Challenge.rw_limitweave_k39_whole_records
abbrev qv : Program := PySem.W.view R.prog [26]
abbrev hk : PySem.W.Hook := HX.hook 5 bss fds tbs
def ob (s : PySem.W.SharedT) : HX.Al := HX.obsG 5 bss fds tbs (HandSHeadRun.getT s)
theorem ob_eq (s : PySem.W.SharedT) : ob s = hk.obs s.abs := HX.obsG_eq (HandSHeadRun.getT_eq s)
theorem runF (w : World) : HandSHeadRun.RunEq R qv hk ob 60000 names (w.withFollow "special-get-raises" false) := by
  intro os
  kernel_rfl
theorem runT (w : World) : HandSHeadRun.RunEq R qv hk ob 60000 names (w.withFollow "special-get-raises" true) := by
  intro os
  kernel_rfl
theorem run (w : World) : HandSHeadRun.RunEq R qv hk ob 60000 names w :=
  PySem.W.byRow2 "special-get-raises" (P := fun w => HandSHeadRun.RunEq R qv hk ob 60000 names w) runF runT w
end Hd
open PySem.W PyProof.Rows PySem in
theorem Hd.head (call : PySem.W.WalkO Hd.qv Hd.names (PySem.W.XL Hd.qv []) Hd.hk.says Hd.R.toRowW (HandSHeadRun.topDef Hd.R.prog 26) [] (fun f vs => PySem.call f vs)) : PySem.Challenge.rw_limitweave_k39_whole_records.Holds := by
  w_on; o_law
  refine HandSHeadRun.head_any (r := Hd.R) (q := Hd.qv) (H := Hd.hk) (ob := Hd.ob) (M := 60000) (loose := Hd.names) (d := HandSHeadRun.topDef Hd.R.prog 26) (kwd := []) Hd.ob_eq (by kernel_rfl) (fun s => by kernel_rfl) Hd.run (by kernel_rfl) (by kernel_rfl) (by kernel_rfl) (by rfl) (by first | assumption | decide +kernel) (by decide +kernel) ⟨rfl, rfl, rfl, rfl, rfl, by decide +kernel⟩ ?hw call
  w_witness2

namespace Pf
open PySem L2
open Evl (Ex)

inductive D where
  | non | bl (b : Bool) | int (i : Int) | str (x : Str)
  | lst (xs : List D) | tup (xs : List D) | dct (kvs : List (Key × D)) | ins (C : Addr) (fs : List (Str × D))
  /-- a list of ints that is read only (the script) -/
  | scr (ns : List Int)
  /-- a built-in class -/
  | ty (n : String)
  /-- an error that a handler has caught: where its attributes stand, and they -/
  | exc (a : Addr) (o : Option Addr) (fs : List (Str × D))
  /-- a tuple that is known to have no dict -/
  | ftup (xs : List D)

mutual
/-- v stands for d in H -/
inductive Rep (K : PySem.W.Frag) (H : Hp) : D → V → Prop
  | non : Rep K H .non .non
  | bl (b : Bool) : Rep K H (.bl b) (.bl b)
  | int (i : Int) : Rep K H (.int i) (.int i)
  | str (x : Str) : Rep K H (.str x) (.str x)
  | ty (n : String) : Rep K H (.ty n) (.ty n)
  | exc {a : Addr} {o : Option Addr} {fs : List (Str × V)} {fds : List (Str × D)} : (∀ dd, o = some dd → H dd = some (.xd fs)) → fs.map (·.1) = fds.map (·.1) → RepAll K H (fds.map (·.2)) (fs.map (·.2)) → Rep K H (.exc a o fds) (.ref a)
  | scr {a : Addr} {ns : List Int} : SqL K H a (ns.map V.int) → Rep K H (.scr ns) (.ref a)
  | lst {a : Addr} {vs : List V} {ds : List D} : H a = some (.lst vs) → RepAll K H ds vs → Rep K H (.lst ds) (.ref a)
  | tup {a : Addr} {vs : List V} {ds : List D} : SqT K H a vs → RepAll K H ds vs → Rep K H (.tup ds) (.ref a)
  | dct {a : Addr} {kvs : List (Key × V)} {kds : List (Key × D)} : H a = some (.dK kvs) → kvs.map (·.1) = kds.map (·.1) → RepAll K H (kds.map (·.2)) (kvs.map (·.2)) → Rep K H (.dct kds) (.ref a)
  | ins {a C dx : Addr} {fs : List (Str × V)} {fds : List (Str × D)} : H a = some (.ins C dx fs) → fs.map (·.1) = fds.map (·.1) → RepAll K H (fds.map (·.2)) (fs.map (·.2)) → Rep K H (.ins C fds) (.ref a)
  | ftup {a : Addr} {o : Obj} {vs : List V} {ds : List D} : H a = some (.frz o (.tup vs)) → o.dict = none → o.cls = .type "tuple" → RepAll K H ds vs → Rep K H (.ftup ds) (.ref a)
inductive RepAll (K : PySem.W.Frag) (H : Hp) : List D → List V → Prop
  | nil : RepAll K H [] []
  | cons {d : D} {v : V} {ds : List D} {vs : List V} : Rep K H d v → RepAll K H ds vs → RepAll K H (d :: ds) (v :: vs)
end

section
variable {K : PySem.W.Frag} {H H' : Hp}
theorem Rep.mono (e : Ex H H') {d : D} {v : V} (h : Rep K H d v) : Rep K H' d v := by
  refine Rep.rec (motive_1 := fun d v _ => Rep K H' d v) (motive_2 := fun ds vs _ => RepAll K H' ds vs) ?_ ?_ ?_ ?_ ?_ ?_ ?_ ?_ ?_ ?_ ?_ ?_ ?_ ?_ h
  · exact .non
  · exact fun b => .bl b
  · exact fun b => .int b
  · exact fun b => .str b
  · exact fun b => .ty b
  · exact fun h k _ ih => .exc (fun dd q => e _ _ (h dd q)) k ih
  · exact fun h => .scr (Evl.ex_l e h)
  · exact fun h _ ih => .lst (e _ _ h) ih
  · exact fun h _ ih => .tup (Evl.ex_t e h) ih
  · exact fun h k _ ih => .dct (e _ _ h) k ih
  · exact fun h k _ ih => .ins (e _ _ h) k ih
  · exact fun h k1 k2 _ ih => .ftup (e _ _ h) k1 k2 ih
  · exact .nil
  · exact fun _ _ a b => .cons a b
theorem RepAll.mono (e : Ex H H') : ∀ {ds : List D} {vs : List V}, RepAll K H ds vs → RepAll K H' ds vs
  | _, _, .nil => .nil
  | _, _, .cons a b => .cons (a.mono e) (RepAll.mono e b)
theorem RepAll.length : ∀ {ds : List D} {vs : List V}, RepAll K H ds vs → ds.length = vs.length
  | _, _, .nil => rfl
  | _, _, .cons _ b => congrArg (· + 1) (RepAll.length b)
theorem RepAll.get : ∀ {ds : List D} {vs : List V} {i : Nat} {d : D}, RepAll K H ds vs → ds[i]? = some d → ∃ v, vs[i]? = some v ∧ Rep K H d v
  | _, _, _, _, .nil, e => by simp at e
  | _, _, 0, _, .cons r _, e => by simp at e; subst e; exact ⟨_, rfl, r⟩
  | _, _, i + 1, d, .cons _ t, e => by
    obtain ⟨u, h1, h2⟩ := RepAll.get (i := i) (d := d) t (by simpa using e)
    exact ⟨u, by simpa using h1, h2⟩
theorem RepAll.append : ∀ {ds es : List D} {vs us : List V}, RepAll K H ds vs → RepAll K H es us → RepAll K H (ds ++ es) (vs ++ us)
  | _, _, _, _, .nil, s => s
  | _, _, _, _, .cons r t, s => .cons r (RepAll.append t s)
theorem RepAll.take : ∀ {ds : List D} {vs : List V} (n : Nat), RepAll K H ds vs → RepAll K H (ds.take n) (vs.take n)
  | _, _, 0, _ => .nil
  | _, _, _ + 1, .nil => .nil
  | _, _, n + 1, .cons r t => .cons r (RepAll.take n t)
theorem RepAll.drop : ∀ {ds : List D} {vs : List V} (n : Nat), RepAll K H ds vs → RepAll K H (ds.drop n) (vs.drop n)
  | _, _, 0, r => r
  | _, _, _ + 1, .nil => .nil
  | _, _, n + 1, .cons r t => RepAll.drop n t
theorem RepAll.ints : ∀ {ns : List Int} {vs : List V}, RepAll K H (ns.map D.int) vs → vs = ns.map V.int
  | [], _, .nil => rfl
  | n :: ns, _, .cons r t => by cases r; rw [RepAll.ints t]; rfl
theorem RepAll.toInts : ∀ (ns : List Int), RepAll K H (ns.map D.int) (ns.map V.int)
  | [] => .nil
  | n :: ns => .cons (.int n) (RepAll.toInts ns)
theorem RepAll.strs : ∀ {ns : List Str} {vs : List V}, RepAll K H (ns.map D.str) vs → vs = ns.map V.str
  | [], _, .nil => rfl
  | n :: ns, _, .cons r t => by cases r; rw [RepAll.strs t]; rfl
theorem RepAll.toStrs : ∀ (ns : List Str), RepAll K H (ns.map D.str) (ns.map V.str)
  | [] => .nil
  | n :: ns => .cons (.str n) (RepAll.toStrs ns)
theorem RepAll.bools : ∀ {ns : List Bool} {vs : List V}, RepAll K H (ns.map D.bl) vs → vs = ns.map V.bl
  | [], _, .nil => rfl
  | n :: ns, _, .cons r t => by cases r; rw [RepAll.bools t]; rfl
end

def Fr (W W' H : Hp) : Prop := ∀ b, W' b ≠ none → W b = none → H b = none
structure Step (W H W' H' : Hp) : Prop where
  ww : Ex W W'
  wh : Ex W' H'
  hh : Ex H H'
  fr : Fr W W' H
theorem Step.refl {W H : Hp} (e : Ex W H) : Step W H W H := ⟨.refl _, e, .refl _, fun b h1 h2 => absurd h2 h1⟩
theorem Step.trans {W H W1 H1 W2 H2 : Hp} (a : Step W H W1 H1) (b : Step W1 H1 W2 H2) : Step W H W2 H2 :=
  ⟨a.ww.trans b.ww, b.wh, a.hh.trans b.hh, fun c h1 h2 => by
    by_cases e : W1 c = none
    · exact Evl.fresh_back a.hh (b.fr c h1 e)
    · exact a.fr c e h2⟩
theorem Step.new {W H : Hp} {p : Addr} {o : HO} (e : Ex W H) (hp : H p = none) : Step W H (upd W p o) (upd H p o) :=
  ⟨.new (Evl.fresh_back e hp), fun a u h => by
    by_cases ha : a = p
    · subst ha; rw [upd_same] at h ⊢; exact h
    · rw [upd_ne ha] at h ⊢; exact e a u h, .new hp, fun b h1 h2 => by
    by_cases ha : b = p
    · subst ha; exact hp
    · rw [upd_ne ha] at h1; exact absurd h2 h1⟩
/-- new in H alone -/
theorem Step.newH {W H : Hp} {p : Addr} {o : HO} (e : Ex W H) (hp : H p = none) : Step W H W (upd H p o) :=
  ⟨.refl _, e.trans (.new hp), .new hp, fun b h1 h2 => absurd h2 h1⟩

def GoodE (K : PySem.W.Frag) (W H : Hp) (d : D) (Q : VK) : Prop := ∀ v W' H', Step W H W' H' → Rep K W' d v → Q v H'
def GoodA (K : PySem.W.Frag) (W H : Hp) (ds : List D) (Q : List V → Hp → Prop) : Prop := ∀ vs W' H', Step W H W' H' → RepAll K W' ds vs → Q vs H'
def GoodT (W H : Hp) (b : Bool) (Q : Bool → Hp → Prop) : Prop := ∀ W' H', Step W H W' H' → Q b H'
theorem GoodE.step {K : PySem.W.Frag} {W H W1 H1 : Hp} {d : D} {Q : VK} (g : GoodE K W H d Q) (s : Step W H W1 H1) : GoodE K W1 H1 d Q := fun v W' H' t r => g v W' H' (s.trans t) r
theorem GoodE.now {K : PySem.W.Frag} {W H : Hp} {d : D} {v : V} {Q : VK} (g : GoodE K W H d Q) (e : Ex W H) (r : Rep K W d v) : Q v H := g v W H (.refl e) r
theorem GoodT.step {W H W1 H1 : Hp} {b : Bool} {Q : Bool → Hp → Prop} (g : GoodT W H b Q) (s : Step W H W1 H1) : GoodT W1 H1 b Q := fun W' H' t => g W' H' (s.trans t)
theorem GoodT.now {W H : Hp} {b : Bool} {Q : Bool → Hp → Prop} (g : GoodT W H b Q) (e : Ex W H) : Q b H := g W H (.refl e)
theorem GoodA.step {K : PySem.W.Frag} {W H W1 H1 : Hp} {d : List D} {Q : List V → Hp → Prop} (g : GoodA K W H d Q) (s : Step W H W1 H1) : GoodA K W1 H1 d Q := fun v W' H' t r => g v W' H' (s.trans t) r

abbrev Rho := List (Option D)
structure Vis (K : PySem.W.Frag) (ρ : Rho) (W : Hp) (σ : L2.St) : Prop where
  len : ρ.length = σ.length
  at_ : ∀ (i : Nat) (d : D), ρ[i]? = some (some d) → ∃ v, σ[i]? = some (some v) ∧ Rep K W d v
theorem Vis.mono {K : PySem.W.Frag} {ρ : Rho} {W W' : Hp} {σ : L2.St} (h : Vis K ρ W σ) (e : Ex W W') : Vis K ρ W' σ := ⟨h.len, fun i d q => by
  obtain ⟨v, h1, h2⟩ := h.at_ i d q
  exact ⟨v, h1, h2.mono e⟩⟩

def wE (X : Cx) (e : Expr) : TE := fun σ H Q => ∀ (pins : List (Addr × Obj)) (s : Shared), Inv X pins σ H s → wpAny (model X.prog X.w) X.A (eval e X.env) (EP X pins σ Q) X.xe s
def wT (X : Cx) (e : Expr) : TT := fun σ H Q => ∀ (pins : List (Addr × Obj)) (s : Shared), Inv X pins σ H s → wpAny (model X.prog X.w) X.A (isTrue e X.env (eval e X.env)) (TP X pins σ Q) X.xe s
def wW (X : Cx) (e : Expr) : TT := fun σ H Q => ∀ (whole : Sem Value) (pins : List (Addr × Obj)) (s : Shared), Inv X pins σ H s → wpAny (model X.prog X.w) X.A (isTrue e X.env whole) (TP X pins σ Q) X.xe s
def wA (X : Cx) (es : List Expr) : TA := fun σ H Q => ∀ (pos : Pos) (pins : List (Addr × Obj)) (s : Shared), Inv X pins σ H s → wpAny (model X.prog X.w) X.A (spliced (backTo pos (starEach es X.env))) (AP X pins σ Q) X.xe s
def wS (X : Cx) (st : Stmt) : TS := fun D σ H => ∀ (pins : List (Addr × Obj)) (s : Shared), Inv X pins σ H s → wpAny (model X.prog X.w) X.A (exec st X.env) (SP X pins D) X.xe s
def wSs (X : Cx) (st : List Stmt) : TS := fun D σ H => ∀ (pins : List (Addr × Obj)) (s : Shared), Inv X pins σ H s → wpAny (model X.prog X.w) X.A (execs st X.env) (SP X pins D) X.xe s
section
variable {X : Cx} {e : Expr} {es : List Expr} {st : Stmt} {sts : List Stmt}
theorem pe_w : PE X e (wE X e) := ⟨fun pins s _ _ _ I h => h pins s I⟩
theorem pt_w : PT X e (wT X e) := ⟨fun pins s _ _ _ I h => h pins s I⟩
theorem pw_w : PW X e (wW X e) := ⟨fun w pins s _ _ _ I h => h w pins s I⟩
theorem pa_w : PA X es (wA X es) := ⟨fun pos pins s _ _ _ I h => h pos pins s I⟩
theorem ps_w : PS X st (wS X st) := ⟨fun pins s _ _ _ I h => h pins s I⟩
theorem pss_w : PSs X sts (wSs X sts) := ⟨fun pins s _ _ _ I h => h pins s I⟩
theorem wE.of {t : TE} (h : PE X e t) {σ : L2.St} {H : Hp} {Q : VK} (q : t σ H Q) : wE X e σ H Q := fun pins s I => h.run pins s σ H Q I q
theorem wT.of {t : TT} (h : PT X e t) {σ : L2.St} {H : Hp} {Q : Bool → Hp → Prop} (q : t σ H Q) : wT X e σ H Q := fun pins s I => h.run pins s σ H Q I q
theorem wW.of {t : TT} (h : PW X e t) {σ : L2.St} {H : Hp} {Q : Bool → Hp → Prop} (q : t σ H Q) : wW X e σ H Q := fun w pins s I => h.run w pins s σ H Q I q
theorem wA.of {t : TA} (h : PA X es t) {σ : L2.St} {H : Hp} {Q : List V → Hp → Prop} (q : t σ H Q) : wA X es σ H Q := fun pos pins s I => h.run pos pins s σ H Q I q
theorem wS.of {t : TS} (h : PS X st t) {σ : L2.St} {H : Hp} {D : Ends} (q : t D σ H) : wS X st D σ H := fun pins s I => h.run pins s σ H D I q
theorem wSs.of {t : TS} (h : PSs X sts t) {σ : L2.St} {H : Hp} {D : Ends} (q : t D σ H) : wSs X sts D σ H := fun pins s I => h.run pins s σ H D I q
end

structure J (X : Cx) (e : Expr) (ρ : Rho) (d : D) : Prop where
  run : ∀ W σ H, Ex W H → Vis X.K ρ W σ → ∀ Q : VK, GoodE X.K W H d Q → wE X e σ H Q
instance {X : Cx} {e : Expr} {ρ : Rho} {d : D} : CoeFun (J X e ρ d) (fun _ => ∀ W σ H, Ex W H → Vis X.K ρ W σ → ∀ Q : VK, GoodE X.K W H d Q → wE X e σ H Q) := ⟨J.run⟩
structure JT (X : Cx) (e : Expr) (ρ : Rho) (b : Bool) : Prop where
  run : ∀ W σ H, Ex W H → Vis X.K ρ W σ → ∀ Q : Bool → Hp → Prop, GoodT W H b Q → wT X e σ H Q
instance {X : Cx} {e : Expr} {ρ : Rho} {b : Bool} : CoeFun (JT X e ρ b) (fun _ => ∀ W σ H, Ex W H → Vis X.K ρ W σ → ∀ Q : Bool → Hp → Prop, GoodT W H b Q → wT X e σ H Q) := ⟨JT.run⟩
structure JW (X : Cx) (e : Expr) (ρ : Rho) (b : Bool) : Prop where
  run : ∀ W σ H, Ex W H → Vis X.K ρ W σ → ∀ Q : Bool → Hp → Prop, GoodT W H b Q → wW X e σ H Q
instance {X : Cx} {e : Expr} {ρ : Rho} {b : Bool} : CoeFun (JW X e ρ b) (fun _ => ∀ W σ H, Ex W H → Vis X.K ρ W σ → ∀ Q : Bool → Hp → Prop, GoodT W H b Q → wW X e σ H Q) := ⟨JW.run⟩
structure JA (X : Cx) (es : List Expr) (ρ : Rho) (ds : List D) : Prop where
  run : ∀ W σ H, Ex W H → Vis X.K ρ W σ → ∀ Q : List V → Hp → Prop, GoodA X.K W H ds Q → wA X es σ H Q
instance {X : Cx} {es : List Expr} {ρ : Rho} {ds : List D} : CoeFun (JA X es ρ ds) (fun _ => ∀ W σ H, Ex W H → Vis X.K ρ W σ → ∀ Q : List V → Hp → Prop, GoodA X.K W H ds Q → wA X es σ H Q) := ⟨JA.run⟩
/-- a rule over two values, over one, over several -/
def R2D (K : PySem.W.Frag) (r : R2) (x y z : D) : Prop := ∀ W H v u, Ex W H → Rep K W x v → Rep K W y u → ∀ Q : VK, GoodE K W H z Q → r v u H Q
def R1D (K : PySem.W.Frag) (r : V → Hp → VK → Prop) (x z : D) : Prop := ∀ W H v, Ex W H → Rep K W x v → ∀ Q : VK, GoodE K W H z Q → r v H Q
def RCD (K : PySem.W.Frag) (r : List V → Hp → VK → Prop) (xs : List D) (z : D) : Prop := ∀ W H vs, Ex W H → RepAll K W xs vs → ∀ Q : VK, GoodE K W H z Q → r vs H Q

section
variable {X : Cx} {a b c e : Expr} {es rest : List Expr} {ρ : Rho} {x y z d : D} {ds : List D} {pos p : Pos} {op op' : CmpOp} {bo : Operator} {t u : Bool}

theorem J.to {d' : D} (h : J X e ρ d) (q : d = d') : J X e ρ d' := q ▸ h
theorem JT.to (h : JT X e ρ t) (q : t = u) : JT X e ρ u := q ▸ h
theorem j_var {i : Nat} {n : Str} (hr : ρ[i]? = some (some d)) (hN : X.N[i]? = some n) (hv : L2.Vis X.env.scope n) (hd : (n == ("__debug__" : Str)) = false := by decide) (hcd : (n == ("__classdict__" : Str)) = false := by decide) : J X (.Name n pos) ρ d := ⟨fun W σ H e V Q g => by
  obtain ⟨v, h1, h2⟩ := V.at_ i d hr
  exact .of (pe_var hN hv hd hcd) ⟨v, h1, g.now e h2⟩⟩
theorem j_int {i : Int} {k} : J X (.Constant (.int i) k pos) ρ (.int i) := ⟨fun W σ H e V Q g => .of pe_int (g.now e (.int i))⟩
theorem j_bl {i : Bool} {k} : J X (.Constant (.bool i) k pos) ρ (.bl i) := ⟨fun W σ H e V Q g => .of pe_bl (g.now e (.bl i))⟩
theorem j_non {k} : J X (.Constant .none k pos) ρ .non := ⟨fun W σ H e V Q g => .of pe_non (g.now e .non)⟩
theorem j_str {i : Str} {k} : J X (.Constant (.str i) k pos) ρ (.str i) := ⟨fun W σ H e V Q g => .of pe_str (g.now e (.str i))⟩
theorem j_op {r : R2} (ho : OpR X (binaryOp bo) r) (ha : J X a ρ x) (hb : J X b ρ y) (hr : R2D X.K r x y z) : J X (.BinOp a bo b pos) ρ z := ⟨fun W σ H e V Q g =>
  .of (pe_op ho pe_w pe_w) (ha W σ H e V _ fun v W1 H1 s1 r1 => hb W1 σ H1 s1.wh (V.mono s1.ww) _ fun u W2 H2 s2 r2 => hr W2 H2 v u s2.wh (r1.mono s2.ww) r2 Q (g.step (s1.trans s2)))⟩
theorem j_un {uo : UnaryOp} {r : V → Hp → VK → Prop} (ho : UnR X (unaryOp uo) r) (ha : J X a ρ x) (hr : R1D X.K r x z) : J X (.UnaryOp uo a pos) ρ z := ⟨fun W σ H e V Q g =>
  .of (pe_un ho pe_w) (ha W σ H e V _ fun v W1 H1 s1 r1 => hr W1 H1 v s1.wh r1 Q (g.step s1))⟩
theorem j_cmp {r : R2} (ho : OpR X (compareOp op) r) (ha : J X a ρ x) (hb : J X b ρ y) (hr : R2D X.K r x y z) (hm : behindInMarks op b = false := by first | exact nobehind _ (by decide) (by decide) | rfl) : J X (.Compare a [op] [b] pos) ρ z := ⟨fun W σ H e V Q g =>
  .of (pe_cmpR ho pe_w pe_w hm) (ha W σ H e V _ fun v W1 H1 s1 r1 => hb W1 σ H1 s1.wh (V.mono s1.ww) _ fun u W2 H2 s2 r2 => hr W2 H2 v u s2.wh (r1.mono s2.ww) r2 Q (g.step (s1.trans s2)))⟩
theorem jt_cmp {r : R2} (ho : OpR X (compareOp op) r) (ha : J X a ρ x) (hb : J X b ρ y) (hr : R2D X.K r x y (.bl t)) (hm : behindInMarks op b = false := by first | exact nobehind _ (by decide) (by decide) | rfl) : JT X (.Compare a [op] [b] pos) ρ t := ⟨fun W σ H e V Q g =>
  .of (pt_cmpR ho pe_w pe_w hm) (ha W σ H e V _ fun v W1 H1 s1 r1 => hb W1 σ H1 s1.wh (V.mono s1.ww) _ fun u W2 H2 s2 r2 => hr W2 H2 v u s2.wh (r1.mono s2.ww) r2 _ fun v3 W3 H3 s3 r3 => by
    cases r3; exact ⟨t, rfl, g W3 H3 ((s1.trans s2).trans s3)⟩)⟩
theorem j_chain {r r' : R2} (ho : OpR X (compareOp op) r) (ho' : OpR X (compareOp op') r') (ha : J X a ρ x) (hb : J X b ρ y) (hc : t = true → J X c ρ z) (hr : R2D X.K r x y (.bl t)) (hr' : t = true → R2D X.K r' y z (.bl u))
    (hm : lastMarks [op, op'] [b, c] = false := by with_unfolding_all rfl) : J X (.Compare a [op, op'] [b, c] pos) ρ (.bl (t && u)) := ⟨fun W σ H e V Q g =>
  .of (pe_chain ho ho' pe_w pe_w pe_w hm) (ha W σ H e V _ fun v W1 H1 s1 r1 => hb W1 σ H1 s1.wh (V.mono s1.ww) _ fun w W2 H2 s2 r2 => hr W2 H2 v w s2.wh (r1.mono s2.ww) r2 _ fun v3 W3 H3 s3 r3 => by
    cases r3
    refine ⟨t, rfl, ?_⟩
    cases t with
    | false =>
      rw [if_neg Bool.false_ne_true]
      exact g _ W3 H3 ((s1.trans s2).trans s3) (.bl false)
    | true =>
      rw [if_pos rfl]
      exact hc rfl W3 σ H3 s3.wh (V.mono ((s1.trans s2).trans s3).ww) _ fun w3 W4 H4 s4 r4 => hr' rfl W4 H4 w w3 s4.wh (r2.mono (s3.trans s4).ww) r4 Q (g.step (((s1.trans s2).trans s3).trans s4)))⟩
theorem jt_chain {r r' : R2} (ho : OpR X (compareOp op) r) (ho' : OpR X (compareOp op') r') (ha : J X a ρ x) (hb : J X b ρ y) (hc : t = true → J X c ρ z) (hr : R2D X.K r x y (.bl t)) (hr' : t = true → R2D X.K r' y z (.bl u)) (hm : lastMarks [op, op'] [b, c] = false := by with_unfolding_all rfl) : JT X (.Compare a [op, op'] [b, c] pos) ρ (t && u) := ⟨fun W σ H e V Q g =>
  .of (pt_chain ho ho' pe_w pe_w pe_w hm) (ha W σ H e V _ fun v W1 H1 s1 r1 => hb W1 σ H1 s1.wh (V.mono s1.ww) _ fun w W2 H2 s2 r2 => hr W2 H2 v w s2.wh (r1.mono s2.ww) r2 _ fun v3 W3 H3 s3 r3 => by
    cases r3
    refine ⟨t, rfl, ?_⟩
    cases t with
    | false =>
      rw [if_neg Bool.false_ne_true]
      exact ⟨_, rfl, g W3 H3 ((s1.trans s2).trans s3)⟩
    | true =>
      rw [if_pos rfl]
      exact hc rfl W3 σ H3 s3.wh (V.mono ((s1.trans s2).trans s3).ww) _ fun w3 W4 H4 s4 r4 => hr' rfl W4 H4 w w3 s4.wh (r2.mono (s3.trans s4).ww) r4 _ fun v5 W5 H5 s5 r5 => by
        cases r5
        exact ⟨_, rfl, g W5 H5 ((((s1.trans s2).trans s3).trans s4).trans s5)⟩)⟩
theorem jt_val (h : J X e ρ (.bl t)) (he : ∀ whole, isTrue e X.env whole = (do let v ← whole; standAt e.pos; holding [v] (truthy v)) := by intro _; rfl) : JT X e ρ t := ⟨fun W σ H ex V Q g =>
  .of (pt_val pe_w he) (h W σ H ex V _ fun v W1 H1 s1 r1 => by cases r1; exact ⟨t, rfl, g W1 H1 s1⟩)⟩
def truth : D → Option Bool
  | .non => some false
  | .bl b => some b
  | .int i => some (i != 0)
  | .str x => if x.length ≤ sizeLine then some ((x.length : Int) != 0) else none
  | .lst xs => some (!xs.isEmpty)
  | .tup xs => some (!xs.isEmpty)
  | .dct kvs => some (!kvs.isEmpty)
  | .scr ns => some (!ns.isEmpty)
  | _ => none
theorem Rep.truth {K : PySem.W.Frag} {W H : Hp} {v : V} (e : Ex W H) (h : Rep K W d v) (q : truth d = some t) : TruV K v H t := by
  cases h with
  | non => cases q; rfl
  | bl b => cases q; rfl
  | int i => cases q; rfl
  | str x =>
    unfold Pf.truth at q
    dsimp only at q
    split at q
    · cases q; exact ⟨by assumption, rfl⟩
    · cases q
  | lst h1 h2 => cases q; exact .inl ⟨_, SqL.of (e _ _ h1), by cases h2 <;> rfl⟩
  | tup h1 h2 => cases q; exact .inr (.inl ⟨_, Evl.ex_t e h1, by cases h2 <;> rfl⟩)
  | @dct a kvs kds h1 h2 h3 =>
    cases q
    refine .inr (.inr ⟨kvs, e _ _ h1, ?_⟩)
    cases kvs <;> cases kds <;> simp at h2 ⊢
  | ins _ _ _ => cases q
  | ty _ => cases q
  | exc _ _ _ => cases q
  | ftup _ _ _ _ => cases q
  | @scr a ns h => cases q; exact .inl ⟨_, Evl.ex_l e h, by cases ns <;> rfl⟩
theorem jt_truth (h : J X e ρ d) (q : truth d = some t) (he : ∀ whole, isTrue e X.env whole = (do let v ← whole; standAt e.pos; holding [v] (truthy v)) := by intro _; rfl) : JT X e ρ t := ⟨fun W σ H ex V Q g =>
  .of (pt_truth pe_w he) (h W σ H ex V _ fun v W1 H1 s1 r1 => ⟨t, r1.truth s1.wh q, g W1 H1 s1⟩)⟩
theorem jt_not (h : JT X a ρ t) : JT X (.UnaryOp .Not a pos) ρ (!t) := ⟨fun W σ H ex V Q g =>
  .of (pt_not pt_w) (h W σ H ex V _ fun W1 H1 s1 => g W1 H1 s1)⟩
theorem jt_w (h : JW X e ρ t) : JT X e ρ t := ⟨fun W σ H ex V Q g => .of (PW.pt pw_w) (h W σ H ex V Q g)⟩
theorem jw_and1 (h : JT X a ρ t) : JW X (.BoolOp .And [a] pos) ρ t := ⟨fun W σ H ex V Q g => .of (pw_and1 pt_w) (h W σ H ex V Q g)⟩
theorem jw_or1 (h : JT X a ρ t) : JW X (.BoolOp .Or [a] pos) ρ t := ⟨fun W σ H ex V Q g => .of (pw_or1 pt_w) (h W σ H ex V Q g)⟩
theorem jw_and (h : JT X a ρ t) (h2 : t = true → JW X (.BoolOp .And (b :: rest) pos) ρ u) : JW X (.BoolOp .And (a :: b :: rest) pos) ρ (t && u) := ⟨fun W σ H ex V Q g =>
  .of (pw_and pt_w pw_w) (h W σ H ex V _ fun W1 H1 s1 => by
    cases t with
    | true => rw [if_pos rfl]; exact h2 rfl W1 σ H1 s1.wh (V.mono s1.ww) Q (g.step s1)
    | false => rw [if_neg Bool.false_ne_true]; exact g W1 H1 s1)⟩
theorem jw_or (h : JT X a ρ t) (h2 : t = false → JW X (.BoolOp .Or (b :: rest) pos) ρ u) : JW X (.BoolOp .Or (a :: b :: rest) pos) ρ (t || u) := ⟨fun W σ H ex V Q g =>
  .of (pw_or pt_w pw_w) (h W σ H ex V _ fun W1 H1 s1 => by
    cases t with
    | false => rw [if_neg Bool.false_ne_true]; exact h2 rfl W1 σ H1 s1.wh (V.mono s1.ww) Q (g.step s1)
    | true => rw [if_pos rfl]; exact g W1 H1 s1)⟩
theorem j_one {o} (h : J X a ρ d) : J X (.BoolOp o [a] pos) ρ d := ⟨fun W σ H ex V Q g => .of (pe_one pe_w) (h W σ H ex V Q g)⟩
end
end Pf

namespace Pf
open PySem L2
open Evl (Ex)

section
variable {X : Cx} {K : PySem.W.Frag} {a b c e e2 : Expr} {es rest : List Expr} {ρ : Rho} {x y z d d1 d2 : D} {ds : List D} {pos p p2 : Pos} {op op' : CmpOp} {bo : Operator} {t u : Bool}

theorem j_and (h : J X a ρ (.bl t)) (h2 : t = true → J X (.BoolOp .And (b :: rest) pos) ρ (.bl u)) : J X (.BoolOp .And (a :: b :: rest) pos) ρ (.bl (t && u)) := ⟨fun W σ H ex hV Q g =>
  .of (pe_and pe_w pe_w) (h W σ H ex hV _ fun v W1 H1 s1 r1 => by
    cases r1
    refine ⟨t, rfl, ?_⟩
    cases t with
    | true => rw [if_pos rfl]; exact h2 rfl W1 σ H1 s1.wh (hV.mono s1.ww) Q (g.step s1)
    | false => rw [if_neg Bool.false_ne_true]; exact g _ W1 H1 s1 (.bl false))⟩
theorem j_or (h : J X a ρ (.bl t)) (h2 : t = false → J X (.BoolOp .Or (b :: rest) pos) ρ (.bl u)) : J X (.BoolOp .Or (a :: b :: rest) pos) ρ (.bl (t || u)) := ⟨fun W σ H ex hV Q g =>
  .of (pe_or pe_w pe_w) (h W σ H ex hV _ fun v W1 H1 s1 r1 => by
    cases r1
    refine ⟨t, rfl, ?_⟩
    cases t with
    | false => rw [if_neg Bool.false_ne_true]; exact h2 rfl W1 σ H1 s1.wh (hV.mono s1.ww) Q (g.step s1)
    | true => rw [if_pos rfl]; exact g _ W1 H1 s1 (.bl true))⟩
theorem j_ifExp (hc : JT X c ρ t) (ha : t = true → J X a ρ d1) (hb : t = false → J X b ρ d2) : J X (.IfExp c a b pos) ρ (if t = true then d1 else d2) := ⟨fun W σ H ex hV Q g =>
  .of (pe_ifExp pt_w pe_w pe_w) (hc W σ H ex hV _ fun W1 H1 s1 => by
    cases t with
    | true => rw [if_pos rfl]; rw [if_pos rfl] at g; exact ha rfl W1 σ H1 s1.wh (hV.mono s1.ww) Q (g.step s1)
    | false => rw [if_neg Bool.false_ne_true]; rw [if_neg Bool.false_ne_true] at g; exact hb rfl W1 σ H1 s1.wh (hV.mono s1.ww) Q (g.step s1))⟩

theorem ja_nil : JA X [] ρ [] := ⟨fun W σ H ex hV Q g => .of pa_nil (g [] W H (.refl ex) .nil)⟩
theorem ja_cons (h : J X e ρ d) (h2 : JA X es ρ ds) (hs : starEach (e :: es) X.env = (false, eval e X.env) :: starEach es X.env := by rfl) : JA X (e :: es) ρ (d :: ds) := ⟨fun W σ H ex hV Q g =>
  .of (pa_cons pe_w pa_w hs) (h W σ H ex hV _ fun v W1 H1 s1 r1 => h2 W1 σ H1 s1.wh (hV.mono s1.ww) _ fun vs W2 H2 s2 r2 => g (v :: vs) W2 H2 (s1.trans s2) (.cons (r1.mono s2.ww) r2))⟩
theorem j_tup {k} (h : JA X es ρ ds) (hl : ds.length ≤ sizeLine := by (simp only [List.length_cons, List.length_nil]; decide)) : J X (.Tuple es k pos) ρ (.tup ds) := ⟨fun W σ H ex hV Q g =>
  .of (pe_tup pa_w) (h W σ H ex hV _ fun vs W1 H1 s1 r1 => ⟨by rw [← r1.length]; exact hl, fun q hq =>
    g _ _ _ (s1.trans (.new s1.wh hq)) (.tup (SqT.of upd_same) (r1.mono (Evl.Ex.new (Evl.fresh_back s1.wh hq))))⟩)⟩
theorem RepAll.at {H : Hp} {vs : List V} {i : Int} (h : RepAll K H ds vs) (q : atI ds i = some d) : ∃ v, atI vs i = some v ∧ Rep K H d v := by
  unfold atI at q ⊢
  rw [h.length] at q
  cases hk : ixN vs.length i with
  | none => rw [hk] at q; cases q
  | some j =>
    rw [hk] at q
    obtain ⟨v, h1, h2⟩ := h.get (show ds[j]? = some d from q)
    exact ⟨v, h1, h2⟩
theorem atI_ints {ns : List Int} {i : Int} (h0 : 0 ≤ i) (h1 : i < ns.length) : atI (ns.map D.int) i = some (.int (ns.getD i.toNat 0)) := by
  unfold atI ixN
  rw [List.length_map, if_pos h0, if_pos h1]
  show (ns.map D.int)[i.toNat]? = _
  have : i.toNat < ns.length := by omega
  rw [List.getElem?_map, List.getElem?_eq_getElem this, List.getD_eq_getElem?_getD, List.getElem?_eq_getElem this]
  rfl
theorem j_ixL {i : Int} (ha : J X a ρ (.lst ds)) (hb : J X b ρ (.int i)) (q : atI ds i = some d) (hs : PlainIx b := by exact fun _ _ => rfl) : J X (.Subscript a b pos) ρ d := ⟨fun W σ H ex hV Q g =>
  .of (pe_ix ix_list pe_w pe_w hs) (ha W σ H ex hV _ fun v W1 H1 s1 r1 => hb W1 σ H1 s1.wh (hV.mono s1.ww) _ fun w W2 H2 s2 r2 => by
    cases r2
    cases r1 with
    | lst h1 h2 =>
      obtain ⟨v, e1, e2⟩ := h2.at q
      exact ⟨_, _, i, v, rfl, rfl, SqL.of ((s1.trans s2).wh _ _ (s2.ww _ _ h1)), e1, g _ W2 H2 (s1.trans s2) (e2.mono s2.ww)⟩)⟩
theorem j_ixT {i : Int} (ha : J X a ρ (.tup ds)) (hb : J X b ρ (.int i)) (q : atI ds i = some d) (hs : PlainIx b := by exact fun _ _ => rfl) : J X (.Subscript a b pos) ρ d := ⟨fun W σ H ex hV Q g =>
  .of (pe_ix ix_tup pe_w pe_w hs) (ha W σ H ex hV _ fun v W1 H1 s1 r1 => hb W1 σ H1 s1.wh (hV.mono s1.ww) _ fun w W2 H2 s2 r2 => by
    cases r2
    cases r1 with
    | tup h1 h2 =>
      obtain ⟨v, e1, e2⟩ := h2.at q
      exact ⟨_, _, i, v, rfl, rfl, Evl.ex_t s2.wh (Evl.ex_t s2.ww h1), e1, g _ W2 H2 (s1.trans s2) (e2.mono s2.ww)⟩)⟩
theorem j_ixS {z : Str} {i : Int} {n : Nat} (ha : J X a ρ (.str z)) (hb : J X b ρ (.int i)) (hz : z.length ≤ sizeLine) (q : atI z.cps.toList i = some n) (hs : PlainIx b := by exact fun _ _ => rfl) : J X (.Subscript a b pos) ρ (.str ⟨#[n]⟩) := ⟨fun W σ H ex hV Q g =>
  .of (pe_ix ix_str pe_w pe_w hs) (ha W σ H ex hV _ fun v W1 H1 s1 r1 => hb W1 σ H1 s1.wh (hV.mono s1.ww) _ fun w W2 H2 s2 r2 => by
    cases r2
    cases r1
    exact ⟨z, i, n, rfl, rfl, hz, q, g _ W2 H2 (s1.trans s2) (.str _)⟩)⟩

def JO (X : Cx) (e : Option Expr) (ρ : Rho) (o : Option Int) : Prop := (e = none ∧ o = none) ∨ ∃ e' i, e = some e' ∧ o = some i ∧ J X e' ρ (.int i)
theorem jo_none : JO X none ρ none := .inl ⟨rfl, rfl⟩
theorem jo_some {i : Int} (h : J X e ρ (.int i)) : JO X (some e) ρ (some i) := .inr ⟨e, i, rfl, rfl, h⟩
def wO (X : Cx) (e : Option Expr) : TO := match e with
  | none => tNoPart
  | some e => tPart (wE X e)
theorem po_w {e : Option Expr} : PO X e (wO X e) := match e with
  | none => po_none
  | some e => po_some pe_w
theorem JO.run {e : Option Expr} {o : Option Int} (h : JO X e ρ o) {W : Hp} {σ : L2.St} {H : Hp} (ex : Ex W H) (hV : Vis X.K ρ W σ) {Q : Option Int → Hp → Prop} (g : ∀ W' H', Step W H W' H' → Q o H') : wO X e σ H Q := by
  rcases h with ⟨rfl, rfl⟩ | ⟨e', i, rfl, rfl, h⟩
  · exact g W H (.refl ex)
  · exact h W σ H ex hV _ fun v W1 H1 s1 r1 => by cases r1; exact ⟨i, rfl, g W1 H1 s1⟩
def cut {α : Type} (xs : List α) (lo hi : Option Int) : List α := (xs.drop (HT.sIx xs.length 0 lo)).take (HT.sIx xs.length xs.length hi - HT.sIx xs.length 0 lo)
theorem RepAll.cut {H : Hp} {vs : List V} (h : RepAll K H ds vs) (lo hi : Option Int) : RepAll K H (Pf.cut ds lo hi) (cutV vs lo hi) := by
  unfold Pf.cut cutV
  rw [h.length]
  exact (h.drop _).take _
theorem j_slL {lo hi : Option Expr} {o1 o2 : Option Int} (ha : J X a ρ (.lst ds)) (h1 : JO X lo ρ o1) (h2 : JO X hi ρ o2) : J X (.Subscript a (.Slice lo hi none p2) pos) ρ (.lst (cut ds o1 o2)) := ⟨fun W σ H ex hV Q g =>
  .of (pe_slice sl_list pe_w po_w po_w) (ha W σ H ex hV _ fun v W1 H1 s1 r1 => h1.run s1.wh (hV.mono s1.ww) fun W2 H2 s2 => h2.run s2.wh (hV.mono (s1.trans s2).ww) fun W3 H3 s3 => by
    cases r1 with
    | lst k1 k2 =>
      have s4 := (s1.trans s2).trans s3
      refine ⟨_, _, rfl, SqL.of ((s2.trans s3).hh _ _ (s1.wh _ _ k1)), fun q hq => ?_⟩
      exact g _ _ _ (s4.trans (.new s4.wh hq)) (.lst upd_same ((k2.mono ((s2.trans s3).ww.trans (Evl.Ex.new (Evl.fresh_back s4.wh hq)))).cut _ _)))⟩
theorem j_slScr {ns : List Int} {lo hi : Option Expr} {o1 o2 : Option Int} (ha : J X a ρ (.scr ns)) (h1 : JO X lo ρ o1) (h2 : JO X hi ρ o2) : J X (.Subscript a (.Slice lo hi none p2) pos) ρ (.lst ((cut ns o1 o2).map D.int)) := ⟨fun W σ H ex hV Q g =>
  .of (pe_slice sl_list pe_w po_w po_w) (ha W σ H ex hV _ fun v W1 H1 s1 r1 => h1.run s1.wh (hV.mono s1.ww) fun W2 H2 s2 => h2.run s2.wh (hV.mono (s1.trans s2).ww) fun W3 H3 s3 => by
    cases r1 with
    | scr k1 =>
      have s4 := (s1.trans s2).trans s3
      refine ⟨_, _, rfl, Evl.ex_l (s2.trans s3).hh (Evl.ex_l s1.wh k1), fun q hq => ?_⟩
      have e1 : cutV (ns.map V.int) o1 o2 = (cut ns o1 o2).map V.int := by
        unfold cutV cut
        rw [List.length_map, ← List.map_drop, ← List.map_take]
      exact g _ _ _ (s4.trans (.new s4.wh hq)) (.lst upd_same (by rw [e1]; exact .toInts _)))⟩
theorem j_slT {lo hi : Option Expr} {o1 o2 : Option Int} (ha : J X a ρ (.tup ds)) (h1 : JO X lo ρ o1) (h2 : JO X hi ρ o2) : J X (.Subscript a (.Slice lo hi none p2) pos) ρ (.tup (cut ds o1 o2)) := ⟨fun W σ H ex hV Q g =>
  .of (pe_slice sl_tupA pe_w po_w po_w) (ha W σ H ex hV _ fun v W1 H1 s1 r1 => h1.run s1.wh (hV.mono s1.ww) fun W2 H2 s2 => h2.run s2.wh (hV.mono (s1.trans s2).ww) fun W3 H3 s3 => by
    cases r1 with
    | @tup l vs _ k1 k2 =>
      have s4 := (s1.trans s2).trans s3
      refine ⟨l, vs, rfl, Evl.ex_t (s2.trans s3).hh (Evl.ex_t s1.wh k1), fun hw => ?_, fun hw q hq => ?_⟩
      · refine g _ _ _ s4 ?_
        have e1 : cut ds o1 o2 = ds := by
          unfold cut
          rw [k2.length, hw.1, hw.2]
          simp [← k2.length]
        rw [e1]
        exact .tup (Evl.ex_t (s2.trans s3).ww k1) (k2.mono (s2.trans s3).ww)
      · exact g _ _ _ (s4.trans (.new s4.wh hq)) (.tup (SqT.of upd_same) ((k2.mono ((s2.trans s3).ww.trans (Evl.Ex.new (Evl.fresh_back s4.wh hq)))).cut _ _)))⟩
theorem j_slS {z : Str} {lo hi : Option Expr} {o1 o2 : Option Int} (ha : J X a ρ (.str z)) (hz : z.length ≤ sizeLine) (h1 : JO X lo ρ o1) (h2 : JO X hi ρ o2) : J X (.Subscript a (.Slice lo hi none p2) pos) ρ (.str (cutS z o1 o2)) := ⟨fun W σ H ex hV Q g =>
  .of (pe_slice sl_str pe_w po_w po_w) (ha W σ H ex hV _ fun v W1 H1 s1 r1 => h1.run s1.wh (hV.mono s1.ww) fun W2 H2 s2 => h2.run s2.wh (hV.mono (s1.trans s2).ww) fun W3 H3 s3 => by
    cases r1
    exact ⟨z, rfl, hz, g _ _ _ ((s1.trans s2).trans s3) (.str _)⟩)⟩
theorem j_cb {r : List V → Hp → VK → Prop} {id : String} {n : Str} (hc : CallR X (.builtin id) r) (hm : X.mg n = none) (hv : bootBuiltins n = some (.builtin id)) (ha : JA X (e :: es) ρ ds) (hr : RCD X.K r ds d) (hg : Gl X n := by rfl) (hn : n ≠ "__name__" := by decide) (hdb : (n == ("__debug__" : Str)) = false := by decide)
    (he : starEach (e :: es) X.env = (false, eval e X.env) :: starEach es X.env := by rfl) (hpl : (backTo pos (starEach es X.env)).any (·.1) = false := by rfl) : J X (.Call (.Name n p) (e :: es) [] pos) ρ d := ⟨fun W σ H ex hV Q g =>
  .of (pe_callB hc hg hm hv pa_w hn hdb he hpl) (ha W σ H ex hV _ fun vs W1 H1 s1 r1 => hr W1 H1 vs s1.wh r1 Q (g.step s1))⟩
theorem j_ct {r : List V → Hp → VK → Prop} {T : String} {n : Str} (hc : CallR X (.type T) r) (hm : X.mg n = none) (hv : bootBuiltins n = some (.type T)) (ha : JA X (e :: es) ρ ds) (hr : RCD X.K r ds d) (hg : Gl X n := by rfl) (hn : n ≠ "__name__" := by decide) (hdb : (n == ("__debug__" : Str)) = false := by decide)
    (he : starEach (e :: es) X.env = (false, eval e X.env) :: starEach es X.env := by rfl) (hpl : (backTo pos (starEach es X.env)).any (·.1) = false := by rfl) : J X (.Call (.Name n p) (e :: es) [] pos) ρ d := ⟨fun W σ H ex hV Q g =>
  .of (pe_callTy hc hg hm hv pa_w hn hdb he hpl) (ha W σ H ex hV _ fun vs W1 H1 s1 r1 => hr W1 H1 vs s1.wh r1 Q (g.step s1))⟩
/-- a built-in's name as a value: a class -/
theorem j_ty {T : String} {n : Str} (hm : X.mg n = none) (hv : bootBuiltins n = some (.type T)) (hg : Gl X n := by rfl) (hn : n ≠ "__name__" := by decide) (hd : (n == ("__debug__" : Str)) = false := by decide) : J X (.Name n pos) ρ (.ty T) := ⟨fun W σ H ex hV Q g =>
  .of (pe_bltn hg hm hv (show RelV (.ty T) (.type T) from rfl) hn hd) (g.now ex (.ty T))⟩
/-- a module's constant -/
theorem j_glob {n : Str} {v : V} {w : Value} (hm : X.mg n = some w) (r : RelV v w) (hd : ∀ H, Rep X.K H d v) (hg : Gl X n := by rfl) (hdb : (n == ("__debug__" : Str)) = false := by decide) : J X (.Name n pos) ρ d := ⟨fun W σ H ex hV Q g =>
  .of (pe_glob hg hm r hdb) (g.now ex (hd W))⟩
end

/-- a def's promise: at arguments that stand for ds, where G ds P, it hands back what P holds of -/
def spP (K : PySem.W.Frag) (n : Nat) (G : List D → (D → Prop) → Prop) : Sp := fun vs H Q _ => vs.length = n ∧ ∃ W ds P, Ex W H ∧ RepAll K W ds vs ∧ G ds P ∧ ∀ d, P d → GoodE K W H d Q
structure PFn (P : Program) (w : World) (K : PySem.W.Frag) (mg : Str → Option Value) (base : Heap) (k : Nat) (x : Str) (n : Nat) (G : List D → (D → Prop) → Prop) : Prop where
  ex : ∃ f fd ps, FnOk P w K mg base CX0 k f fd ps (spP K n G) ∧ mg x = some (.ref f) ∧ PySem.W.keepIn K (.ref f) = true ∧ Binds K fd ps []
section
variable {X : Cx} {e : Expr} {es : List Expr} {ρ : Rho} {d : D} {ds : List D} {pos p : Pos} {k j n : Nat} {x : Str} {G : List D → (D → Prop) → Prop} {P : D → Prop}
theorem j_call (c : PFn X.prog X.w X.K X.mg X.base k x n G) (hr : Room j X.A) (ha : JA X (e :: es) ρ ds) (hG : G ds P) (hP : ∀ d', P d' → d' = d) (hk : k ≤ j := by decide) (hn : ds.length = n := by rfl) (hg : Gl X x := by rfl) (hdb : (x == ("__debug__" : Str)) = false := by decide)
    (he : starEach (e :: es) X.env = (false, eval e X.env) :: starEach es X.env := by rfl) (hpl : (backTo pos (starEach es X.env)).any (·.1) = false := by rfl) : J X (.Call (.Name x p) (e :: es) [] pos) ρ d := ⟨fun W σ H ex hV Q g => by
  obtain ⟨f, fd, ps, F, hm, hkp, hb⟩ := c.ex
  refine .of (pe_call (F.mono hk) hr hg hm hkp hb .nil pass0 pa_w hdb he hpl) (ha W σ H ex hV _ fun vs W1 H1 s1 r1 => ?_)
  rw [List.append_nil]
  exact ⟨by rw [← r1.length]; exact hn, W1, ds, P, s1.wh, r1, hG, fun d' hd => by rw [hP d' hd]; exact g.step s1⟩⟩
end
end Pf

namespace Pf
open PySem L2
open Evl (Ex)

section
variable {K : PySem.W.Frag} {i j : Int} {s t : Str} {b c : Bool} {d : D} {ds es : List D}
theorem r2_I {C : Int → Int → Prop} {g : Int → Int → Int} (h : C i j) : R2D K (rI C fun i j => .int (g i j)) (.int i) (.int j) (.int (g i j)) := fun W H v u ex r1 r2 Q q => by
  cases r1; cases r2; exact ⟨i, j, rfl, rfl, h, q.now ex (.int _)⟩
theorem r2_I0 {g : Int → Int → Int} : R2D K (rI0 fun i j => .int (g i j)) (.int i) (.int j) (.int (g i j)) := fun W H v u ex r1 r2 Q q => by
  cases r1; cases r2; exact ⟨i, j, rfl, rfl, q.now ex (.int _)⟩
theorem r2_B0 {g : Int → Int → Bool} : R2D K (rI0 fun i j => .bl (g i j)) (.int i) (.int j) (.bl (g i j)) := fun W H v u ex r1 r2 Q q => by
  cases r1; cases r2; exact ⟨i, j, rfl, rfl, q.now ex (.bl _)⟩
theorem r2_eqI : R2D K rEq (.int i) (.int j) (.bl (decide (i = j))) := fun W H v u ex r1 r2 Q q => by
  cases r1; cases r2
  refine ⟨rfl, ?_⟩
  have e : decide (V.int i = V.int j) = decide (i = j) := decide_eq_decide.mpr ⟨fun h => V.int.inj h, fun h => h ▸ rfl⟩
  rw [e]; exact q.now ex (.bl _)
theorem r2_eqS : R2D K rEq (.str s) (.str t) (.bl (decide (s = t))) := fun W H v u ex r1 r2 Q q => by
  cases r1; cases r2
  refine ⟨rfl, ?_⟩
  have e : decide (V.str s = V.str t) = decide (s = t) := decide_eq_decide.mpr ⟨fun h => V.str.inj h, fun h => h ▸ rfl⟩
  rw [e]; exact q.now ex (.bl _)
theorem r2_neI : R2D K rNe (.int i) (.int j) (.bl (!decide (i = j))) := fun W H v u ex r1 r2 Q q => by
  cases r1; cases r2
  refine ⟨rfl, ?_⟩
  have e : decide (V.int i = V.int j) = decide (i = j) := decide_eq_decide.mpr ⟨fun h => V.int.inj h, fun h => h ▸ rfl⟩
  rw [e]; exact q.now ex (.bl _)
theorem r2_neS : R2D K rNe (.str s) (.str t) (.bl (!decide (s = t))) := fun W H v u ex r1 r2 Q q => by
  cases r1; cases r2
  refine ⟨rfl, ?_⟩
  have e : decide (V.str s = V.str t) = decide (s = t) := decide_eq_decide.mpr ⟨fun h => V.str.inj h, fun h => h ▸ rfl⟩
  rw [e]; exact q.now ex (.bl _)
def isNon : D → Bool
  | .non => true
  | _ => false
theorem Rep.isNon {H : Hp} {v : V} (r : Rep K H d v) : decide (v = .non) = isNon d := by
  cases r <;> simp [Pf.isNon]
theorem r2_isN : R2D K (fun x y H Q => y = .non ∧ Q (.bl (decide (x = .non))) H) d .non (.bl (isNon d)) := fun W H v u ex r1 r2 Q q => by
  cases r2; rw [r1.isNon]; exact ⟨rfl, q.now ex (.bl _)⟩
theorem r2_addS (h : s.length + t.length ≤ sizeLine) : R2D K (fun x y H Q => ∃ i j, x = .str i ∧ y = .str j ∧ i.length + j.length ≤ sizeLine ∧ Q (.str (i ++ j)) H) (.str s) (.str t) (.str (s ++ t)) := fun W H v u ex r1 r2 Q q => by
  cases r1; cases r2; exact ⟨s, t, rfl, rfl, h, q.now ex (.str _)⟩
/-- in, over flat items -/
def flatD : D → Bool
  | .non => true
  | .bl _ => true
  | .int _ => true
  | .str _ => true
  | _ => false
theorem Rep.flat {H : Hp} {v : V} (r : Rep K H d v) (h : flatD d = true) : flatV v = true := by
  cases r <;> first | rfl | cases h
theorem RepAll.flat : ∀ {ds : List D} {vs : List V} {H : Hp}, RepAll K H ds vs → ds.all flatD = true → vs.all flatV = true
  | _, _, _, .nil, _ => rfl
  | _, _, _, .cons r t, h => by
    rw [List.all_cons, Bool.and_eq_true] at h ⊢
    exact ⟨r.flat h.1, RepAll.flat t h.2⟩
theorem r2_inSign {c : Nat} {z : Str} : R2D K (fun x y H Q => ∃ (c : Nat) (z : Str), x = .str ⟨#[c]⟩ ∧ y = .str z ∧ Q (.bl (decide (c ∈ z.cps.toList))) H) (.str ⟨#[c]⟩) (.str z) (.bl (decide (c ∈ z.cps.toList))) := fun W H v u ex r1 r2 Q q => by
  cases r1; cases r2; exact ⟨c, z, rfl, rfl, q.now ex (.bl _)⟩
mutual
def toPy : D → Option PyData
  | .non => some .none
  | .bl b => some (.bool b)
  | .int i => some (.int i)
  | .str s => some (.str s)
  | .lst xs => (toPys xs).map .list
  | .tup xs => (toPys xs).map .tuple
  | _ => none
def toPys : List D → Option (List PyData)
  | [] => some []
  | x :: xs => match toPy x, toPys xs with
    | some y, some ys => some (y :: ys)
    | _, _ => none
end
theorem Rep.dp {H : Hp} {v : V} (h : Rep K H d v) : ∀ p, toPy d = some p → Dp K H v p := by
  refine Rep.rec (motive_1 := fun d v _ => ∀ p, toPy d = some p → Dp K H v p) (motive_2 := fun ds vs _ => ∀ ps, toPys ds = some ps → DpAll K H vs ps) ?_ ?_ ?_ ?_ ?_ ?_ ?_ ?_ ?_ ?_ ?_ ?_ ?_ ?_ h
  · intro p e; cases e; exact .non
  · intro b p e; cases e; exact .bl b
  · intro b p e; cases e; exact .int b
  · intro b p e; cases e; exact .str b
  · intro b p e; cases e
  · intro a dd fs fds _ _ _ _ p e; cases e
  · intro a ns h p e; cases e
  · intro a vs ds h _ ih p e
    simp only [toPy, Option.map_eq_some_iff] at e
    obtain ⟨ps, e1, rfl⟩ := e
    exact .lst (SqL.of h) (ih ps e1)
  · intro a vs ds h _ ih p e
    simp only [toPy, Option.map_eq_some_iff] at e
    obtain ⟨ps, e1, rfl⟩ := e
    exact .tup h (ih ps e1)
  · intro a kvs kds _ _ _ _ p e; cases e
  · intro a C dx fs fds _ _ _ _ p e; cases e
  · intro a o vs ds _ _ _ _ _ p e; cases e
  · intro ps e; cases e; exact .nil
  · intro d v ds vs _ _ i1 i2 ps e
    simp only [toPys] at e
    split at e
    · rename_i y ys e1 e2
      cases e
      exact .cons (i1 _ e1) (i2 _ e2)
    · cases e
theorem r2_eqD {d e : D} {p q : PyData} {b : Bool} (h1 : toPy d = some p) (h2 : toPy e = some q) (s1 : SeqAt.shaped p = true) (s2 : SeqAt.shaped q = true) (hb : PyData.eqv p q = b) : R2D K (rEqD K) d e (.bl b) := fun W H v u ex r1 r2 Q g =>
  ⟨p, q, (r1.mono ex).dp p h1, (r2.mono ex).dp q h2, s1, s2, by rw [hb]; exact g.now ex (.bl _)⟩
theorem r2_neD {d e : D} {p q : PyData} {b : Bool} (h1 : toPy d = some p) (h2 : toPy e = some q) (s1 : SeqAt.shaped p = true) (s2 : SeqAt.shaped q = true) (hb : PyData.eqv p q = b) : R2D K (rNeD K) d e (.bl (!b)) := fun W H v u ex r1 r2 Q g =>
  ⟨p, q, (r1.mono ex).dp p h1, (r2.mono ex).dp q h2, s1, s2, by rw [hb]; exact g.now ex (.bl _)⟩

theorem rc_int : RCD K (fun xs H Q => (∃ i, xs = [.int i] ∧ Q (.int i) H) ∨ ∃ k, xs = [.bl k] ∧ Q (.int (if k then 1 else 0)) H) [.int i] (.int i) := fun W H vs ex r Q q => by
  cases r with | cons r t => cases t; cases r; exact .inl ⟨i, rfl, q.now ex (.int _)⟩
theorem rc_abs : RCD K (fun xs H Q => ∃ i, xs = [.int i] ∧ Q (.int (if i < 0 then -i else i)) H) [.int i] (.int (if i < 0 then -i else i)) := fun W H vs ex r Q q => by
  cases r with | cons r t => cases t; cases r; exact ⟨i, rfl, q.now ex (.int _)⟩
theorem rc_max2 : RCD K (fun xs H Q => ∃ i j, xs = [.int i, .int j] ∧ Q (.int (if j > i then j else i)) H) [.int i, .int j] (.int (if j > i then j else i)) := fun W H vs ex r Q q => by
  cases r with | cons r t => cases t with | cons r' t' => cases t'; cases r; cases r'; exact ⟨i, j, rfl, q.now ex (.int _)⟩
theorem rc_strI (h : i.natAbs.log2 < 1920) : RCD K (fun xs H Q => ∃ i, xs = [.int i] ∧ i.natAbs.log2 < 1920 ∧ Q (.str (toString i)) H) [.int i] (.str (toString i)) := fun W H vs ex r Q q => by
  cases r with | cons r t => cases t; cases r; exact ⟨i, rfl, h, q.now ex (.str _)⟩
def lenD : D → Option Nat
  | .lst ds => some ds.length
  | .tup ds => some ds.length
  | .scr ns => some ns.length
  | .str s => if s.length ≤ sizeLine then some s.length else none
  | _ => none
theorem rc_len {n : Nat} (h : lenD d = some n) : RCD K (fun xs H Q => ∃ x n, xs = [x] ∧ LenV K x H n ∧ Q (.int n) H) [d] (.int n) := fun W H vs ex r Q q => by
  cases r with
  | cons r t =>
    cases t
    refine ⟨_, n, rfl, ?_, q.now ex (.int _)⟩
    cases r with
    | lst h1 k => cases h; exact .inl ⟨_, SqL.of (ex _ _ h1), k.length⟩
    | tup h1 k => cases h; exact .inr ⟨_, Evl.ex_t ex h1, k.length⟩
    | scr h1 => cases h; exact .inl ⟨_, Evl.ex_l ex h1, by rw [List.length_map]⟩
    | str x =>
      simp only [lenD] at h
      split at h
      · cases h; exact ⟨by assumption, rfl⟩
      · cases h
    | _ => cases h
theorem rc_sum {ns : List Int} : RCD K (rSum K) [.lst (ns.map D.int)] (.int ns.sum) := fun W H vs ex r Q q => by
  cases r with
  | cons r t =>
    cases t
    cases r with
    | lst h1 k => cases k.ints; exact ⟨_, ns, rfl, SqL.of (ex _ _ h1), q.now ex (.int _)⟩
theorem rc_all {bs : List Bool} : RCD K (rAll K) [.lst (bs.map D.bl)] (.bl (bs.all id)) := fun W H vs ex r Q q => by
  cases r with
  | cons r t =>
    cases t
    cases r with
    | lst h1 k => cases k.bools; exact ⟨_, bs, rfl, SqL.of (ex _ _ h1), q.now ex (.bl _)⟩
/-- isinstance(x, T), T a built-in class, x no instance -/
def tyD : D → Option Value
  | .non => some (.type "NoneType")
  | .bl _ => some (.type "bool")
  | .int _ => some (.type "int")
  | .str _ => some (.type "str")
  | .lst _ => some (.type "list")
  | .dct _ => some (.type "dict")
  | _ => none
theorem rc_isi {T : String} {t : Value} (h : tyD d = some t) (hk : PySem.W.kitOne K t (.type T) = some b) : RCD K (rIsi K) [d, .ty T] (.bl b) := fun W H vs ex r Q q => by
  cases r with
  | cons r t =>
    cases t with
    | cons r' t' =>
      cases t'
      cases r'
      refine ⟨_, _, _, _, b, rfl, .ty T, .base ?_, hk, q.now ex (.bl _)⟩
      cases r with
      | non => cases h; exact .non
      | bl b => cases h; exact .bl _
      | int i => cases h; exact .int _
      | str s => cases h; exact .str _
      | lst h1 _ => cases h; exact .lst (ex _ _ h1)
      | dct h1 _ _ => cases h; exact .dK (ex _ _ h1)
      | _ => cases h
end

structure Walks (K : PySem.W.Frag) (J : It) (W : Hp) (ds : List D) : Prop where
  go : ∀ i H, Ex W H → i < ds.length → J.go i H
  yld : ∀ i H x H' d, Ex W H → ds[i]? = some d → J.yld i H x H' → ∀ W2, Ex W W2 → Ex W2 H → ∃ W3, Step W2 H W3 H' ∧ Rep K W3 d x
  stop : ∀ H, Ex W H → J.stop ds.length H
def wI (X : Cx) (tg iter : Expr) : TI := fun σ H R => ∀ (pins : List (Addr × Obj)) (s : Shared), Inv X pins σ H s →
  wpAny (model X.prog X.w) X.A (eval iter X.env) (fun v s1 => wpAny (model X.prog X.w) X.A (pyIter v) (PIE X pins σ tg R) X.xe s1) X.xe s
theorem pi_w {X : Cx} {tg iter : Expr} : PI X tg iter (wI X tg iter) := ⟨fun pins s _ _ _ I h => h pins s I⟩
theorem wI.of {X : Cx} {tg iter : Expr} {t : TI} (h : PI X tg iter t) {σ : L2.St} {H : Hp} {R : It → Hp → Prop} (q : t σ H R) : wI X tg iter σ H R := fun pins s I => h.run pins s σ H R I q
structure JI (X : Cx) (tg iter : Expr) (ρ : Rho) (ds : List D) : Prop where
  run : ∀ W σ H, Ex W H → Vis X.K ρ W σ → ∀ R : It → Hp → Prop, (∀ J W1 H1, Step W H W1 H1 → Walks X.K J W1 ds → R J H1) → wI X tg iter σ H R
instance {X : Cx} {tg iter : Expr} {ρ : Rho} {ds : List D} : CoeFun (JI X tg iter ρ ds) (fun _ => ∀ W σ H, Ex W H → Vis X.K ρ W σ → ∀ R : It → Hp → Prop, (∀ J W1 H1, Step W H W1 H1 → Walks X.K J W1 ds → R J H1) → wI X tg iter σ H R) := ⟨JI.run⟩
section
variable {X : Cx} {K : PySem.W.Frag} {tg iter a b : Expr} {ρ : Rho} {ds : List D} {pos p : Pos}
theorem walks_list {W : Hp} {l : Addr} {vs : List V} (h : W l = some (.lst vs)) (k : RepAll K W ds vs) : Walks K (Itl K l) W ds where
  go := fun i H ex hi => by
    have hv : i < vs.length := by rw [← k.length]; exact hi
    exact ⟨vs, vs[i], SqL.of (ex _ _ h), by simp [hv]⟩
  yld := fun i H x H' d ex hd hy W2 e1 e2 => by
    obtain ⟨rfl, hy⟩ := hy
    obtain ⟨v, h1, h2⟩ := k.get hd
    have := hy vs (SqL.of (ex _ _ h))
    rw [h1] at this
    cases this
    exact ⟨W2, .refl e2, h2.mono e1⟩
  stop := fun H ex => ⟨vs, SqL.of (ex _ _ h), Nat.le_of_eq k.length.symm⟩
theorem ji_list (h : J X iter ρ (.lst ds)) : JI X tg iter ρ ds := ⟨fun W σ H ex hV R g => .of (pi_list pe_w) (h W σ H ex hV _ fun v W1 H1 s1 r1 => by
  cases r1 with
  | lst h1 k => exact ⟨_, rfl, ⟨_, SqL.of (s1.wh _ _ h1)⟩, g _ W1 H1 s1 (walks_list h1 k)⟩)⟩
def rangeD (lo : Int) (n : Nat) : List D := (List.range n).map fun k => D.int (lo + (k : Nat))
theorem walks_range {W : Hp} {lo : Int} {n : Nat} : Walks K (Itr lo n) W (rangeD lo n) where
  go := fun i H ex hi => by unfold rangeD at hi; rw [List.length_map, List.length_range] at hi; exact hi
  yld := fun i H x H' d ex hd hy W2 e1 e2 => by
    obtain ⟨rfl, rfl⟩ := hy
    unfold rangeD at hd
    rw [List.getElem?_map] at hd
    cases e : (List.range n)[i]? with
    | none => rw [e] at hd; cases hd
    | some k =>
      rw [e] at hd
      obtain ⟨hk, e'⟩ := List.getElem?_eq_some_iff.mp e
      rw [List.getElem_range] at e'
      subst e'
      cases hd
      exact ⟨W2, .refl e2, .int _⟩
  stop := fun H ex => by unfold rangeD; rw [List.length_map, List.length_range]; exact Nat.le_refl n
theorem ji_range1 {n : Int} (hm : X.mg "range" = none) (h : J X a ρ (.int n)) (h1 : -(2 ^ 62) ≤ n) (h2 : n < 2 ^ 62) (hg : Gl X "range" := by rfl) (hs : starEach [a] X.env = [(false, eval a X.env)] := by rfl) : JI X tg (.Call (.Name "range" p) [a] [] pos) ρ (rangeD 0 n.toNat) := ⟨fun W σ H ex hV R g =>
  .of (pi_range1 hg hm pa_w hs) (ja_cons h ja_nil hs W σ H ex hV _ fun vs W1 H1 s1 r1 => by
    cases r1 with
    | cons r t => cases t; cases r; exact ⟨n, rfl, h1, h2, g _ W1 H1 s1 walks_range⟩)⟩
end
end Pf

namespace Pf
open PySem L2
open Evl (Ex)

inductive Pat where
  | nm (i : Nat) | tp (is : List Nat) | tn (ps : List (Nat ⊕ List Nat))
def gNames : List Nat → TGs
  | [] => gNil
  | i :: is => gCons (gName i) (gNames is)
def gComps (K : PySem.W.Frag) : List (Nat ⊕ List Nat) → TGs
  | [] => gNil
  | .inl i :: ps => gCons (gName i) (gComps K ps)
  | .inr is :: ps => gCons (gTup K is.length (gNames is)) (gComps K ps)
def Pat.g (K : PySem.W.Frag) : Pat → TG
  | .nm i => gName i
  | .tp is => gTup K is.length (gNames is)
  | .tn ps => gTup K ps.length (gComps K ps)
def slotsC : List (Nat ⊕ List Nat) → List Nat
  | [] => []
  | .inl i :: ps => i :: slotsC ps
  | .inr is :: ps => is ++ slotsC ps
def Pat.slots : Pat → List Nat
  | .nm i => [i]
  | .tp is => is
  | .tn ps => slotsC ps
def setAll {α : Type} (ρ : List (Option α)) : List Nat → List α → List (Option α)
  | i :: is, d :: ds => setAll (ρ.set i (some d)) is ds
  | _, _ => ρ
/-- by data, each as f -/
def setC {α : Type} (f : D → α) : List (Nat ⊕ List Nat) → List D → List (Option α) → Option (List (Option α))
  | [], [], ρ => some ρ
  | .inl i :: ps, d :: ds, ρ => setC f ps ds (ρ.set i (some (f d)))
  | .inr is :: ps, .tup es :: ds, ρ => if es.length = is.length then setC f ps ds (setAll ρ is (es.map f)) else none
  | _, _, _ => none
def Pat.set : Pat → D → Rho → Option Rho
  | .nm i, d, ρ => some (ρ.set i (some d))
  | .tp is, .tup ds, ρ => if ds.length = is.length then some (setAll ρ is ds) else none
  | .tp _, _, _ => none
  | .tn ps, .tup ds, ρ => setC id ps ds ρ
  | .tn _, _, _ => none
theorem setAll_length {α : Type} : ∀ (is : List Nat) (ds : List α) (ρ : List (Option α)), (setAll ρ is ds).length = ρ.length
  | [], _, _ => rfl
  | _ :: _, [], _ => rfl
  | i :: is, d :: ds, ρ => by
    show (setAll (ρ.set i (some d)) is ds).length = _
    rw [setAll_length is ds, List.length_set]
theorem setAll_out {α : Type} : ∀ (is : List Nat) (ds : List α) (ρ : List (Option α)) (j : Nat), j ∉ is → (setAll ρ is ds)[j]? = ρ[j]?
  | [], _, _, _, _ => rfl
  | _ :: _, [], _, _, _ => rfl
  | i :: is, d :: ds, ρ, j, h => by
    show (setAll (ρ.set i (some d)) is ds)[j]? = _
    rw [List.mem_cons, not_or] at h
    rw [setAll_out is ds _ j h.2, List.getElem?_set_ne (fun e => h.1 e.symm)]
theorem setC_length {α : Type} {f : D → α} : ∀ {ps : List (Nat ⊕ List Nat)} {ds : List D} {ρ ρ' : List (Option α)}, setC f ps ds ρ = some ρ' → ρ'.length = ρ.length
  | [], [], ρ, ρ', h => by cases h; rfl
  | [], _ :: _, ρ, ρ', h => by cases h
  | .inl i :: ps, [], ρ, ρ', h => by cases h
  | .inl i :: ps, d :: ds, ρ, ρ', h => by have := setC_length (f := f) (ps := ps) (ds := ds) h; rw [this, List.length_set]
  | .inr is :: ps, [], ρ, ρ', h => by cases h
  | .inr is :: ps, d :: ds, ρ, ρ', h => by
    cases d <;> simp only [setC] at h <;> first | cases h | skip
    split at h
    · have := setC_length (f := f) (ps := ps) (ds := ds) h; rw [this, setAll_length]
    · cases h
theorem Pat.set_length {pat : Pat} {d : D} {ρ ρ' : Rho} (h : pat.set d ρ = some ρ') : ρ'.length = ρ.length := by
  cases pat with
  | nm i => cases h; exact List.length_set
  | tp is =>
    cases d <;> simp only [Pat.set] at h <;> first | cases h | skip
    split at h
    · cases h; exact setAll_length _ _ _
    · cases h
  | tn ps =>
    cases d <;> simp only [Pat.set] at h <;> first | cases h | skip
    exact setC_length h
section
variable {K : PySem.W.Frag} {ρ ρ' : Rho} {W H : Hp} {σ : L2.St} {d : D} {v : V}
theorem Vis.set (h : Vis K ρ W σ) (r : Rep K W d v) (i : Nat) : Vis K (ρ.set i (some d)) W (σ.set i (some v)) := ⟨by rw [List.length_set, List.length_set, h.len], fun j e q => by
  by_cases hj : i = j
  · subst hj
    by_cases hi : i < ρ.length
    · rw [List.getElem?_set_self hi] at q
      cases q
      exact ⟨v, List.getElem?_set_self (by rw [← h.len]; exact hi), r⟩
    · rw [List.getElem?_eq_none (by rw [List.length_set]; omega)] at q
      cases q
  · rw [List.getElem?_set_ne hj] at q ⊢
    exact h.at_ j e q⟩
theorem Vis.setAll : ∀ (is : List Nat) {ds : List D} {vs : List V} {ρ : Rho} {σ : L2.St}, Vis K ρ W σ → RepAll K W ds vs → ds.length = is.length → Vis K (Pf.setAll ρ is ds) W (Pf.setAll σ is vs)
  | [], _, _, _, _, h, .nil, _ => h
  | i :: is, _, _, _, _, h, .cons r t, e => Vis.setAll is (h.set r i) t (by simpa using e)
  | [], _, _, _, _, _, .cons _ _, e => by simp at e
  | _ :: _, _, _, _, _, _, .nil, e => by simp at e
theorem gNames_run : ∀ (is : List Nat) {vs : List V} {σ : L2.St} {Q : L2.St → Hp → Prop}, vs.length = is.length → Q (Pf.setAll σ is vs) H → gNames is vs σ H Q
  | [], [], _, _, _, q => ⟨rfl, q⟩
  | i :: is, v :: vs, σ, Q, e, q => ⟨v, vs, rfl, gNames_run is (σ := σ.set i (some v)) (by simpa using e) q⟩
  | [], _ :: _, _, _, e, _ => by simp at e
  | _ :: _, [], _, _, e, _ => by simp at e
theorem gComps_run (ex : Ex W H) : ∀ (ps : List (Nat ⊕ List Nat)) {ds : List D} {vs : List V} {ρ ρ' : Rho} {σ σ0 : L2.St} {Q : L2.St → Hp → Prop}, Vis K ρ W σ → RepAll K W ds vs → setC id ps ds ρ = some ρ' →
    (∀ σ', Vis K ρ' W σ' → (∀ j, j ∉ slotsC ps → σ'[j]? = σ[j]?) → Q σ' H) → gComps K ps vs σ H Q
  | [], _, _, ρ, ρ', σ, _, Q, h, .nil, hs, q => by cases hs; exact ⟨rfl, q σ h fun _ _ => rfl⟩
  | [], _, _, ρ, ρ', σ, _, Q, h, .cons _ _, hs, q => by cases hs
  | .inl i :: ps, _, _, ρ, ρ', σ, σ0, Q, h, .nil, hs, q => by cases hs
  | .inr is :: ps, _, _, ρ, ρ', σ, σ0, Q, h, .nil, hs, q => by cases hs
  | .inl i :: ps, _, v :: vs, ρ, ρ', σ, σ0, Q, h, .cons r t, hs, q => ⟨v, vs, rfl, gComps_run ex ps (σ0 := σ0) (h.set r i) t hs fun σ' h' ho => q σ' h' fun j hj => by
      have h1 : ¬ (j = i ∨ j ∈ slotsC ps) := fun z => hj (List.mem_cons.mpr z)
      rw [ho j fun z => h1 (.inr z), List.getElem?_set_ne fun z => h1 (.inl z.symm)]⟩
  | .inr is :: ps, d :: ds, v :: vs, ρ, ρ', σ, σ0, Q, h, .cons r t, hs, q => by
    cases r with
    | @tup a us es h1 k =>
      simp only [setC] at hs
      split at hs
      · rename_i hl
        rw [List.map_id] at hs
        refine ⟨_, vs, rfl, a, us, rfl, Evl.ex_t ex h1, by rw [← k.length]; exact hl, gNames_run is (by rw [← k.length]; exact hl) ?_⟩
        refine gComps_run ex ps (σ0 := σ0) (h.setAll is k hl) t hs fun σ' h' ho => q σ' h' fun j hj => ?_
        have h2 : ¬ (j ∈ is ∨ j ∈ slotsC ps) := fun z => hj (List.mem_append.mpr z)
        rw [ho j fun z => h2 (.inr z)]
        exact setAll_out is _ σ j fun z => h2 (.inl z)
      · cases hs
    | _ => cases hs
theorem Pat.run {pat : Pat} (h : Vis K ρ W σ) (ex : Ex W H) (r : Rep K W d v) (hs : pat.set d ρ = some ρ') {Q : L2.St → Hp → Prop}
    (q : ∀ σ', Vis K ρ' W σ' → (∀ j, j ∉ pat.slots → σ'[j]? = σ[j]?) → Q σ' H) : pat.g K v σ H Q := by
  cases pat with
  | nm i =>
    cases hs
    exact q _ (h.set r i) fun j hj => List.getElem?_set_ne (by intro e; subst e; exact hj (List.mem_singleton.mpr rfl))
  | tp is =>
    cases r with
    | tup h1 k =>
      simp only [Pat.set] at hs
      split at hs
      · rename_i hl
        cases hs
        refine ⟨_, _, rfl, Evl.ex_t ex h1, by rw [← k.length]; exact hl, gNames_run is (by rw [← k.length]; exact hl) ?_⟩
        exact q _ (h.setAll is k hl) fun j hj => setAll_out is _ σ j hj
      · cases hs
    | _ => cases hs
  | tn ps =>
    cases r with
    | tup h1 k =>
      have hl : ∀ (ps : List (Nat ⊕ List Nat)) (ds : List D) (ρ ρ' : Rho), setC id ps ds ρ = some ρ' → ds.length = ps.length := fun ps => by
        induction ps with
        | nil => intro ds ρ ρ' h; cases ds with
          | nil => rfl
          | cons _ _ => cases h
        | cons p ps ih =>
          intro ds ρ ρ' h
          cases ds with
          | nil => cases p <;> cases h
          | cons d ds =>
            cases p with
            | inl i => exact congrArg (· + 1) (ih ds _ _ h)
            | inr is =>
              cases d <;> simp only [setC] at h <;> first | cases h | skip
              split at h
              · exact congrArg (· + 1) (ih ds _ _ h)
              · cases h
      exact ⟨_, _, rfl, Evl.ex_t ex h1, by rw [← k.length]; exact hl _ _ _ _ hs, gComps_run ex ps (σ0 := σ) h k hs q⟩
    | _ => cases hs
end
theorem wipe_get (σ : L2.St) : ∀ (vs : List Nat) (j : Nat), (wipe σ vs)[j]? = if j ∈ vs ∧ j < σ.length then some none else σ[j]?
  | [], j => by simp [wipe]
  | v :: vs, j => by
    unfold wipe
    by_cases e : v = j
    · subst e
      by_cases hl : v < σ.length
      · rw [List.getElem?_set_self (by rw [wipe_length]; exact hl), if_pos ⟨List.mem_cons_self, hl⟩]
      · rw [List.getElem?_eq_none (by rw [List.length_set, wipe_length]; omega), if_neg (fun z => hl z.2), List.getElem?_eq_none (by omega)]
    · rw [List.getElem?_set_ne e, wipe_get σ vs j]
      have : (j ∈ v :: vs) ↔ j ∈ vs := by rw [List.mem_cons]; exact ⟨fun h => h.resolve_left (fun z => e z.symm), .inr⟩
      simp only [this]
theorem wipe_eq {σ τ : L2.St} {vs is : List Nat} (hl : σ.length = τ.length) (hs : ∀ i ∈ is, i ∈ vs) (h : ∀ j, j ∉ is → τ[j]? = (wipe σ vs)[j]?) : wipe τ vs = wipe σ vs := by
  apply List.ext_getElem?
  intro j
  rw [wipe_get τ vs j, wipe_get σ vs j, hl]
  by_cases hj : j ∈ vs ∧ j < τ.length
  · rw [if_pos hj, if_pos hj]
  · rw [if_neg hj, if_neg hj]
    by_cases hi : j ∈ is
    · have : ¬ j < τ.length := fun z => hj ⟨hs j hi, z⟩
      rw [List.getElem?_eq_none (by omega), List.getElem?_eq_none (by omega)]
    · rw [h j hi, wipe_get, hl, if_neg hj]
def wipeR (ρ : Rho) : List Nat → Rho
  | [] => ρ
  | v :: vs => (wipeR ρ vs).set v none
theorem Vis.wipe {K : PySem.W.Frag} {ρ : Rho} {W : Hp} {σ : L2.St} (h : Vis K ρ W σ) : ∀ vs, Vis K (wipeR ρ vs) W (L2.wipe σ vs)
  | [] => h
  | v :: vs => by
    have ih := Vis.wipe h vs
    refine ⟨by unfold wipeR L2.wipe; rw [List.length_set, List.length_set, ih.len], fun j e q => ?_⟩
    unfold wipeR at q
    unfold L2.wipe
    by_cases hj : v = j
    · subst hj
      by_cases hi : v < (wipeR ρ vs).length
      · rw [List.getElem?_set_self hi] at q; cases q
      · rw [List.getElem?_eq_none (by rw [List.length_set]; omega)] at q; cases q
    · rw [List.getElem?_set_ne hj] at q ⊢
      exact ih.at_ j e q
def wTs (X : Cx) (ifs : List Expr) : TT := fun σ H Q => ∀ (pins : List (Addr × Obj)) (s : Shared), Inv X pins σ H s →
  wpAny (model X.prog X.w) X.A (forIn ifs true fun c r => if r = true then do let ok ← isTrue c X.env (eval c X.env); pure (ForInStep.yield ok) else pure (ForInStep.yield r)) (TP X pins σ Q) X.xe s
theorem wTs.of {X : Cx} {ifs : List Expr} {t : TT} (h : PTs X ifs t) {σ : L2.St} {H : Hp} {Q : Bool → Hp → Prop} (q : t σ H Q) : wTs X ifs σ H Q := fun pins s I => h.run pins s σ H Q I q
structure JTs (X : Cx) (ifs : List Expr) (ρ : Rho) (b : Bool) : Prop where
  run : ∀ W σ H, Ex W H → Vis X.K ρ W σ → ∀ Q : Bool → Hp → Prop, GoodT W H b Q → wTs X ifs σ H Q
instance {X : Cx} {ifs : List Expr} {ρ : Rho} {b : Bool} : CoeFun (JTs X ifs ρ b) (fun _ => ∀ W σ H, Ex W H → Vis X.K ρ W σ → ∀ Q : Bool → Hp → Prop, GoodT W H b Q → wTs X ifs σ H Q) := ⟨JTs.run⟩
theorem jts_nil {X : Cx} {ρ : Rho} : JTs X [] ρ true := ⟨fun W σ H ex hV Q g => .of pts_nil (g.now ex)⟩
/-- a block's context -/
abbrev blkX (X : Cx) (scope : Scope) (s : Shared) (H : Hp) (C : Addr) (cl : List (Str × Addr)) (fp : List Addr) : Cx := X.blk s H scope (compEnvC scope cl C X.env) fp
section
variable {X : Cx} {elt tg iter : Expr} {ifs : List Expr} {scope : Scope} {own : List (Str × Nat)} {pos : Pos} {ρ : Rho} {its : List (D × Option D)} {pat : Pat}
/-- what one turn of a comprehension does with the item d -/
def LcTurn (X : Cx) (scope : Scope) (pat : Pat) (elt : Expr) (ifs : List Expr) (ρ : Rho) (d : D) (y : Option D) : Prop :=
  ∃ ρ', pat.set d ρ = some ρ' ∧ ∀ s H C cl fp, match y with
    | none => JTs (blkX X scope s H C cl fp) ifs ρ' false
    | some y => JTs (blkX X scope s H C cl fp) ifs ρ' true ∧ J (blkX X scope s H C cl fp) elt ρ' y
/-- the reading of a comprehension, as it is used for a value and for a stored one. D: the new list -/
theorem lc_readAt {W H : Hp} {σ : L2.St} (hi : ∀ R : It → Hp → Prop, (∀ J W1 H1, Step W H W1 H1 → Walks X.K J W1 (its.map (·.1)) → R J H1) → wI X tg iter σ H R) (hown : ∀ i ∈ pat.slots, i ∈ own.map (·.2)) (hlen : its.length < sizeLine)
    (turn : ∀ q ∈ its, LcTurn X scope pat elt ifs (wipeR ρ (own.map (·.2))) q.1 q.2) (ex : Ex W H) (hV : Vis X.K ρ W σ) {Q : VK}
    (g : ∀ (Dn : Addr) (W' H' : Hp) (vs : List V), Step W H W' H' → H Dn = none → W' Dn = none → H' Dn = some (.lst vs) → RepAll X.K W' (its.filterMap (·.2)) vs → Q (.ref Dn) H') :
    tLc (wI X tg iter) (pat.g X.K) (fun σ H Q => ∀ s H0 C cl fp, wTs (blkX X scope s H0 C cl fp) ifs σ H Q) (fun σ H Q => ∀ s H0 C cl fp, wE (blkX X scope s H0 C cl fp) elt σ H Q) (own.map (·.2)) σ H Q := by
  refine hi _ fun Jt W1 H1 s1 wk => ?_
  intro Dn hD
  have hW1 : W1 Dn = none := Evl.fresh_back s1.wh hD
  refine ⟨fun i m H2 => m = its.length - i ∧ i ≤ its.length ∧ ∃ W2 vs, Step W1 H1 W2 H2 ∧ W2 Dn = none ∧ H2 Dn = some (.lst vs) ∧ RepAll X.K W2 ((its.take i).filterMap (·.2)) vs, ⟨_, rfl, Nat.zero_le _, W1, [], .newH s1.wh hD, hW1, upd_same, .nil⟩, ?_⟩
  rintro i m H2 ⟨rfl, hil, W2, vs, s2, hW2, hH2, rv⟩
  by_cases hlt : i < its.length
  · refine .inr ⟨wk.go i H2 (s2.ww.trans s2.wh) (by rw [List.length_map]; exact hlt), _, fun H' z => ⟨_, (by omega : its.length - (i + 1) < its.length - i), rfl, hlt, z⟩, fun x H3 hy => ?_⟩
    obtain ⟨⟨d, fd⟩, hd⟩ : ∃ d, its[i]? = some d := ⟨its[i], by simp [hlt]⟩
    obtain ⟨W3, s3, rx⟩ := wk.yld i H2 x H3 d (s2.ww.trans s2.wh) (by rw [List.getElem?_map, hd]; rfl) hy W2 s2.ww s2.wh
    obtain ⟨ρ', hset, ht⟩ := turn _ (List.mem_of_getElem? hd)
    have hV3 : Vis X.K ρ W3 σ := hV.mono ((s1.trans s2).trans s3).ww
    have hW3 : W3 Dn = none := by
      cases q : W3 Dn with
      | none => rfl
      | some o =>
        have := s3.fr Dn (by rw [q]; simp) hW2
        rw [hH2] at this; cases this
    have hH3 : H3 Dn = some (.lst vs) := s3.hh _ _ hH2
    have tk : its.take (i + 1) = its.take i ++ [(d, fd)] := by
      rw [List.take_add_one, hd]; rfl
    refine Pat.run (hV3.wipe _) s3.wh rx hset fun σ2 hV4 ho => ⟨wipe_eq (by rw [← hV4.len, ← hV3.len, Pat.set_length hset]; have := (hV3.wipe (own.map (·.2))).len; rw [wipe_length, ← hV3.len] at this; exact this.symm) hown ho, ?_⟩
    cases fd with
    | none =>
      dsimp only at ht
      refine fun s H0 C cl fp => ht s H0 C cl fp W3 σ2 H3 s3.wh hV4 _ fun W4 H4 s4 => ?_
      rw [if_neg Bool.false_ne_true]
      have hH4 := s4.hh _ _ hH3
      refine ⟨W4, vs, (s2.trans s3).trans s4, ?_, hH4, ?_⟩
      · cases q : W4 Dn with
        | none => rfl
        | some o => have := s4.fr Dn (by rw [q]; simp) hW3; rw [hH3] at this; cases this
      · rw [tk, List.filterMap_append]
        simp only [List.filterMap_cons, List.filterMap_nil, List.append_nil]
        exact rv.mono (s3.trans s4).ww
    | some y =>
      dsimp only at ht
      refine fun s H0 C cl fp => (ht s H0 C cl fp).1 W3 σ2 H3 s3.wh hV4 _ fun W4 H4 s4 => ?_
      rw [if_pos rfl]
      refine fun s' H0' C' cl' fp' => (ht s' H0' C' cl' fp').2 W4 σ2 H4 s4.wh (hV4.mono s4.ww) _ fun v W5 H5 s5 r5 => ?_
      have s35 := s4.trans s5
      have hH5 := s35.hh _ _ hH3
      have hW5 : W5 Dn = none := by
        cases q : W5 Dn with
        | none => rfl
        | some o => have := s35.fr Dn (by rw [q]; simp) hW3; rw [hH3] at this; cases this
      have hvl : vs.length ≤ i := by
        rw [← rv.length]
        exact Nat.le_trans (List.length_filterMap_le _ _) (by rw [List.length_take]; omega)
      refine ⟨vs, hH5, by omega, W5, vs ++ [v], ?_, hW5, upd_same, ?_⟩
      · have s25 := (s2.trans s3).trans s35
        refine ⟨s25.ww, fun a o h => ?_, fun a o h => ?_, s25.fr⟩
        · rw [upd_ne (ne_of_none h hW5)]; exact s25.wh a o h
        · rw [upd_ne (ne_of_none h hD)]; exact s25.hh a o h
      · rw [tk, List.filterMap_append]
        simp only [List.filterMap_cons, List.filterMap_nil]
        exact (rv.mono (s3.trans s35).ww).append (.cons r5 .nil)
  · have e : i = its.length := by omega
    subst e
    refine .inl ⟨by have := wk.stop H2 (s2.ww.trans s2.wh); rwa [List.length_map] at this, g Dn W2 H2 vs (s1.trans s2) (Evl.fresh_back s1.hh hD) hW2 hH2 ?_⟩
    rw [List.take_length] at rv
    exact rv
theorem lc_read (hi : JI X tg iter ρ (its.map (·.1))) (hown : ∀ i ∈ pat.slots, i ∈ own.map (·.2)) (hlen : its.length < sizeLine)
    (turn : ∀ q ∈ its, LcTurn X scope pat elt ifs (wipeR ρ (own.map (·.2))) q.1 q.2) {W H : Hp} {σ : L2.St} (ex : Ex W H) (hV : Vis X.K ρ W σ) {Q : VK}
    (g : ∀ (Dn : Addr) (W' H' : Hp) (vs : List V), Step W H W' H' → H Dn = none → W' Dn = none → H' Dn = some (.lst vs) → RepAll X.K W' (its.filterMap (·.2)) vs → Q (.ref Dn) H') :
    tLc (wI X tg iter) (pat.g X.K) (fun σ H Q => ∀ s H0 C cl fp, wTs (blkX X scope s H0 C cl fp) ifs σ H Q) (fun σ H Q => ∀ s H0 C cl fp, wE (blkX X scope s H0 C cl fp) elt σ H Q) (own.map (·.2)) σ H Q := lc_readAt (fun R k => hi W σ H ex hV R k) hown hlen turn ex hV g
theorem Step.show' {W H W' H' : Hp} {p : Addr} {o : HO} (s : Step W H W' H') (hp : H p = none) (hw : W' p = none) (hh : H' p = some o) : Step W H (upd W' p o) H' :=
  ⟨fun a u h => by rw [upd_ne (ne_of_none (s.ww a u h) hw)]; exact s.ww a u h, fun a u h => by
    by_cases ha : a = p
    · subst ha; rw [upd_same] at h; cases h; exact hh
    · rw [upd_ne ha] at h; exact s.wh a u h, s.hh, fun b h1 h2 => by
    by_cases ha : b = p
    · subst ha; exact hp
    · rw [upd_ne ha] at h1; exact s.fr b h1 h2⟩
theorem j_lc (hi : JI X tg iter ρ (its.map (·.1))) (ok : BlkOk X.N X.env.scope scope own) (hg : ∀ s H C cl fp, PG (blkX X scope s H C cl fp) tg (pat.g X.K)) (hown : ∀ i ∈ pat.slots, i ∈ own.map (·.2)) (hlen : its.length < sizeLine)
    (turn : ∀ q ∈ its, LcTurn X scope pat elt ifs (wipeR ρ (own.map (·.2))) q.1 q.2) (hN : X.N.Nodup) (hc : X.calm = true := by rfl) (hs : ∀ x, foldedSetIterable iter X.env x = pure x := by intro _; rfl) :
    J X (.ListComp elt [⟨tg, iter, ifs, 0⟩] scope pos) ρ (.lst (its.filterMap (·.2))) := ⟨fun W σ H ex hV Q g =>
  .of (pe_lc (tt := fun σ H Q => ∀ s H0 C cl fp, wTs (blkX X scope s H0 C cl fp) ifs σ H Q) (te := fun σ H Q => ∀ s H0 C cl fp, wE (blkX X scope s H0 C cl fp) elt σ H Q) hc hN pi_w ok hg
    (fun s H0 C cl fp => ⟨fun pins s' σ' H' Q' I h => h s H0 C cl fp pins s' I⟩) (fun s H0 C cl fp => ⟨fun pins s' σ' H' Q' I h => h s H0 C cl fp pins s' I⟩) hs)
    (lc_read hi hown hlen turn ex hV fun Dn W' H' vs s hD hW hH rv => g _ _ _ (s.show' hD hW hH) (.lst upd_same (rv.mono fun a u h => by rw [upd_ne (ne_of_none h hW)]; exact h)))⟩
theorem sel_filter {α : Type} (g : α → D) (p : α → Bool) (h : α → D) : ∀ xs : List α, (xs.map fun x => (g x, if p x = true then some (h x) else none)).filterMap (·.2) = (xs.filter p).map h
  | [] => rfl
  | x :: xs => by
    rw [List.map_cons, List.filterMap_cons]
    by_cases q : p x = true
    · rw [List.filter_cons_of_pos q]; simp only [q, if_true]; rw [List.map_cons, sel_filter g p h xs]
    · rw [List.filter_cons_of_neg q]; simp only [if_neg q]; rw [sel_filter g p h xs]
/-- over the items of a kind, by a name: those that p holds of, each as h -/
theorem lcN_turn {α : Type} {i : Nat} {xs : List α} {g : α → D} {p : α → Bool} {h : α → D}
    (turn : ∀ x ∈ xs, ∀ s H C cl fp, JTs (blkX X scope s H C cl fp) ifs ((wipeR ρ (own.map (·.2))).set i (some (g x))) (p x) ∧ (p x = true → J (blkX X scope s H C cl fp) elt ((wipeR ρ (own.map (·.2))).set i (some (g x))) (h x))) :
    ∀ q ∈ xs.map fun x => (g x, if p x = true then some (h x) else none), LcTurn X scope (.nm i) elt ifs (wipeR ρ (own.map (·.2))) q.1 q.2 := by
  intro q hq
  obtain ⟨x, hx, rfl⟩ := List.mem_map.mp hq
  refine ⟨_, rfl, fun s H C cl fp => ?_⟩
  have t := turn x hx s H C cl fp
  by_cases e : p x = true
  · simp only [e, if_true]; rw [e] at t; exact ⟨t.1, t.2 rfl⟩
  · simp only [if_neg e]
    have e' : p x = false := by simpa using e
    rw [e'] at t; exact t.1
theorem j_lcN {α : Type} {i : Nat} (xs : List α) (g : α → D) (p : α → Bool) (h : α → D) (hi : JI X tg iter ρ (xs.map g)) (ok : BlkOk X.N X.env.scope scope own) (hg : ∀ s H C cl fp, PG (blkX X scope s H C cl fp) tg (gName i)) (hlen : xs.length < sizeLine)
    (turn : ∀ x ∈ xs, ∀ s H C cl fp, JTs (blkX X scope s H C cl fp) ifs ((wipeR ρ (own.map (·.2))).set i (some (g x))) (p x) ∧ (p x = true → J (blkX X scope s H C cl fp) elt ((wipeR ρ (own.map (·.2))).set i (some (g x))) (h x))) (hN : X.N.Nodup) (hown : i ∈ own.map (·.2) := by decide) (hc : X.calm = true := by rfl) (hs : ∀ x, foldedSetIterable iter X.env x = pure x := by intro _; rfl) :
    J X (.ListComp elt [⟨tg, iter, ifs, 0⟩] scope pos) ρ (.lst ((xs.filter p).map h)) := by
  rw [← sel_filter g p h xs]
  refine j_lc (pat := .nm i) (by rw [List.map_map]; exact hi) ok hg (fun j hj => (List.mem_singleton.mp hj : j = i) ▸ hown) (by rw [List.length_map]; exact hlen) (lcN_turn turn) hN hc hs
end
end Pf

namespace Pf
open PySem L2
open Evl (Ex)

/-- lists and dicts in the fields of an own object are its own -/
def mutD : D → Bool
  | .lst _ => true
  | .dct _ => true
  | _ => false
/-- meters stand in own lists as own objects (their first field is the limit) -/
def insM : D → Bool
  | .ins _ ((n, _) :: _) => decide (n = "limit")
  | _ => false
def NoM (ds : List D) : Prop := ∀ d ∈ ds, insM d = false
theorem NoM.nil : NoM [] := fun _ h => by cases h
theorem NoM.cons {d : D} {ds : List D} (h : insM d = false) (t : NoM ds) : NoM (d :: ds) := fun x hx => by
  rcases List.mem_cons.mp hx with z | z
  · rw [z]; exact h
  · exact t x z
theorem NoM.app {ds es : List D} (h : NoM ds) (t : NoM es) : NoM (ds ++ es) := fun x hx => by
  rcases List.mem_append.mp hx with z | z
  · exact h x z
  · exact t x z
theorem NoM.map {α : Type} {f : α → D} {xs : List α} (h : ∀ x, insM (f x) = false) : NoM (xs.map f) := fun d hd => by
  obtain ⟨x, _, rfl⟩ := List.mem_map.mp hd
  exact h x
theorem NoM.fm {α : Type} {p : α → Bool} {g : α → D} {f : α → D} {xs : List α} (h : ∀ x, insM (f x) = false) : NoM ((xs.map fun x => (g x, if p x = true then some (f x) else none)).filterMap (·.2)) := fun d hd => by
  obtain ⟨⟨a, b⟩, h1, h2⟩ := List.mem_filterMap.mp hd
  obtain ⟨x, _, e⟩ := List.mem_map.mp h1
  simp only [Prod.mk.injEq] at e
  obtain ⟨_, e⟩ := e
  have h2 : b = some d := h2
  rw [h2] at e
  split at e
  · cases e; exact h x
  · cases e
mutual
inductive Own (K : PySem.W.Frag) (Hf H : Hp) : D → V → List Addr → Prop
  | fz {d : D} {v : V} : Rep K Hf d v → Own K Hf H d v []
  | lst {a : Addr} {vs : List V} {ds : List D} {A : List Addr} : H a = some (.lst vs) → OwnAll K Hf H ds vs A → a ∉ A → Own K Hf H (.lst ds) (.ref a) (a :: A)
  | dct {a : Addr} {kvs : List (Key × V)} {kds : List (Key × D)} {A : List Addr} : H a = some (.dK kvs) → kvs.map (·.1) = kds.map (·.1) → OwnAll K Hf H (kds.map (·.2)) (kvs.map (·.2)) A → a ∉ A → Own K Hf H (.dct kds) (.ref a) (a :: A)
  | ins {a C dx : Addr} {fs : List (Str × V)} {fds : List (Str × D)} {A : List Addr} : H a = some (.ins C dx fs) → fs.map (·.1) = fds.map (·.1) → OwnFs K Hf H (fds.map (·.2)) (fs.map (·.2)) A → a ∉ A → Own K Hf H (.ins C fds) (.ref a) (a :: A)
inductive OwnAll (K : PySem.W.Frag) (Hf H : Hp) : List D → List V → List Addr → Prop
  | nil : OwnAll K Hf H [] [] []
  | cons {d : D} {v : V} {ds : List D} {vs : List V} {A B : List Addr} : Own K Hf H d v A → OwnAll K Hf H ds vs B → (∀ a ∈ A, a ∉ B) → (insM d = true → A ≠ []) → OwnAll K Hf H (d :: ds) (v :: vs) (A ++ B)
inductive OwnFs (K : PySem.W.Frag) (Hf H : Hp) : List D → List V → List Addr → Prop
  | nil : OwnFs K Hf H [] [] []
  | cons {d : D} {v : V} {ds : List D} {vs : List V} {A B : List Addr} : Own K Hf H d v A → OwnFs K Hf H ds vs B → (∀ a ∈ A, a ∉ B) → (mutD d = true → A ≠ []) → OwnFs K Hf H (d :: ds) (v :: vs) (A ++ B)
end
section
variable {K : PySem.W.Frag} {Hf H Hf' H' W : Hp}
/-- the heap may change elsewhere -/
theorem Own.move {d : D} {v : V} {A : List Addr} (h : Own K Hf H d v A) : Ex Hf Hf' → (∀ a ∈ A, H' a = H a) → Own K Hf' H' d v A := by
  refine Own.rec (motive_1 := fun d v A _ => Ex Hf Hf' → (∀ a ∈ A, H' a = H a) → Own K Hf' H' d v A) (motive_2 := fun ds vs A _ => Ex Hf Hf' → (∀ a ∈ A, H' a = H a) → OwnAll K Hf' H' ds vs A) (motive_3 := fun ds vs A _ => Ex Hf Hf' → (∀ a ∈ A, H' a = H a) → OwnFs K Hf' H' ds vs A) ?_ ?_ ?_ ?_ ?_ ?_ ?_ ?_ h
  · exact fun r e _ => .fz (r.mono e)
  · exact fun h1 _ n ih e k => .lst (by rw [k _ List.mem_cons_self]; exact h1) (ih e fun a ha => k a (List.mem_cons_of_mem _ ha)) n
  · exact fun h1 q _ n ih e k => .dct (by rw [k _ List.mem_cons_self]; exact h1) q (ih e fun a ha => k a (List.mem_cons_of_mem _ ha)) n
  · exact fun h1 q _ n ih e k => .ins (by rw [k _ List.mem_cons_self]; exact h1) q (ih e fun a ha => k a (List.mem_cons_of_mem _ ha)) n
  · exact fun _ _ => .nil
  · exact fun _ _ n w i1 i2 e k => .cons (i1 e fun a ha => k a (List.mem_append_left _ ha)) (i2 e fun a ha => k a (List.mem_append_right _ ha)) n w
  · exact fun _ _ => .nil
  · exact fun _ _ n w i1 i2 e k => .cons (i1 e fun a ha => k a (List.mem_append_left _ ha)) (i2 e fun a ha => k a (List.mem_append_right _ ha)) n w
/-- read in a heap that has all of it -/
theorem Own.rep {d : D} {v : V} {A : List Addr} (h : Own K Hf H d v A) : Ex Hf W → (∀ a ∈ A, W a = H a) → Rep K W d v := by
  refine Own.rec (motive_1 := fun d v A _ => Ex Hf W → (∀ a ∈ A, W a = H a) → Rep K W d v) (motive_2 := fun ds vs A _ => Ex Hf W → (∀ a ∈ A, W a = H a) → RepAll K W ds vs) (motive_3 := fun ds vs A _ => Ex Hf W → (∀ a ∈ A, W a = H a) → RepAll K W ds vs) ?_ ?_ ?_ ?_ ?_ ?_ ?_ ?_ h
  · exact fun r e _ => r.mono e
  · exact fun h1 _ n ih e k => .lst (by rw [k _ List.mem_cons_self]; exact h1) (ih e fun a ha => k a (List.mem_cons_of_mem _ ha))
  · exact fun h1 q _ n ih e k => .dct (by rw [k _ List.mem_cons_self]; exact h1) q (ih e fun a ha => k a (List.mem_cons_of_mem _ ha))
  · exact fun h1 q _ n ih e k => .ins (by rw [k _ List.mem_cons_self]; exact h1) q (ih e fun a ha => k a (List.mem_cons_of_mem _ ha))
  · exact fun _ _ => .nil
  · exact fun _ _ n w i1 i2 e k => .cons (i1 e fun a ha => k a (List.mem_append_left _ ha)) (i2 e fun a ha => k a (List.mem_append_right _ ha))
  · exact fun _ _ => .nil
  · exact fun _ _ n w i1 i2 e k => .cons (i1 e fun a ha => k a (List.mem_append_left _ ha)) (i2 e fun a ha => k a (List.mem_append_right _ ha))
theorem OwnAll.fz : ∀ {ds : List D} {vs : List V}, RepAll K Hf ds vs → NoM ds → OwnAll K Hf H ds vs []
  | _, _, .nil, _ => .nil
  | _, _, .cons r t, n => .cons (A := []) (B := []) (.fz r) (OwnAll.fz t fun d hd => n d (List.mem_cons_of_mem _ hd)) (fun _ h => absurd h (by simp)) (fun h => by rw [n _ List.mem_cons_self] at h; cases h)
theorem OwnAll.append : ∀ {ds es : List D} {vs us : List V} {A B : List Addr}, OwnAll K Hf H ds vs A → OwnAll K Hf H es us B → (∀ a ∈ A, a ∉ B) → OwnAll K Hf H (ds ++ es) (vs ++ us) (A ++ B)
  | _, _, _, _, _, _, .nil, s, _ => s
  | _, _, _, _, _, _, .cons (A := A1) (B := B1) r t n w, s, h => by
    rw [List.append_assoc]
    refine .cons r (OwnAll.append t s fun a ha => h a (List.mem_append_right _ ha)) (fun a ha hb => ?_) w
    rcases List.mem_append.mp hb with q | q
    · exact n a ha q
    · exact h a (List.mem_append_left _ ha) q
theorem OwnAll.length : ∀ {ds : List D} {vs : List V} {A : List Addr}, OwnAll K Hf H ds vs A → ds.length = vs.length
  | _, _, _, .nil => rfl
  | _, _, _, .cons _ b _ _ => congrArg (· + 1) (OwnAll.length b)
end

inductive SV where
  | fz (d : D) | ow (d : D)
def SV.d : SV → D
  | .fz d => d
  | .ow d => d
abbrev RhoS := List (Option SV)
def SV.fzD : SV → Option D
  | .fz d => some d
  | .ow _ => none
def fzR (ρ : RhoS) : Rho := ρ.map fun o => o.bind SV.fzD
def allR (ρ : RhoS) : Rho := ρ.map fun o => o.map SV.d
/-- the entry of the def: its frozen heap, its heap, what may be changed of it, where the own arguments stand -/
structure Ent where
  W0 : Hp
  H0 : Hp
  M : Addr → Prop
  pa : Nat → Option Addr
structure StAt (K : PySem.W.Frag) (E : Ent) (ρ : RhoS) (σ : L2.St) (H Hf : Hp) (A : Nat → List Addr) : Prop where
  len : ρ.length = σ.length
  w0 : Ex E.W0 Hf
  fh : Ex Hf H
  fr : Fr E.W0 Hf E.H0
  hh : ∀ b o, E.H0 b = some o → ¬ E.M b → H b = some o
  kp : ∀ b, H b = none → E.H0 b = none
  sl : ∀ (i : Nat) (sv : SV), ρ[i]? = some (some sv) → ∃ v, σ[i]? = some (some v) ∧ match sv with
    | .fz d => Rep K Hf d v
    | .ow d => Own K Hf H d v (A i) ∧ A i ≠ []
  ap : ∀ i a, a ∈ A i → Hf a = none ∧ H a ≠ none ∧ (E.H0 a = none ∨ (E.M a ∧ E.pa i ≠ none))
  dj : ∀ i j a, a ∈ A i → a ∈ A j → i = j
  pn : ∀ i a, E.pa i = some a → σ[i]? = some (some (.ref a))
def StOk (K : PySem.W.Frag) (E : Ent) (ρ : RhoS) (σ : L2.St) (H : Hp) : Prop := ∃ Hf A, StAt K E ρ σ H Hf A
section
variable {K : PySem.W.Frag} {E : Ent} {ρ : RhoS} {σ : L2.St} {H Hf W' H' : Hp} {A : Nat → List Addr}
theorem fzR_get {i : Nat} {d : D} (h : (fzR ρ)[i]? = some (some d)) : ρ[i]? = some (some (.fz d)) := by
  unfold fzR at h
  rw [List.getElem?_map] at h
  cases e : ρ[i]? with
  | none => rw [e] at h; cases h
  | some o =>
    rw [e] at h
    cases o with
    | none => cases h
    | some sv => cases sv with
      | fz d' => cases h; rfl
      | ow d' => cases h
theorem allR_get {i : Nat} {d : D} (h : (allR ρ)[i]? = some (some d)) : ∃ sv, ρ[i]? = some (some sv) ∧ sv.d = d := by
  unfold allR at h
  rw [List.getElem?_map] at h
  cases e : ρ[i]? with
  | none => rw [e] at h; cases h
  | some o =>
    rw [e] at h
    cases o with
    | none => cases h
    | some sv => cases h; exact ⟨sv, rfl, rfl⟩
theorem StAt.vis (s : StAt K E ρ σ H Hf A) : Vis K (fzR ρ) Hf σ := ⟨by unfold fzR; rw [List.length_map]; exact s.len, fun i d h => s.sl i _ (fzR_get h)⟩
theorem StAt.visH (s : StAt K E ρ σ H Hf A) : Vis K (allR ρ) H σ := ⟨by unfold allR; rw [List.length_map]; exact s.len, fun i d h => by
  obtain ⟨sv, h1, h2⟩ := allR_get h
  obtain ⟨v, e1, e2⟩ := s.sl i sv h1
  refine ⟨v, e1, ?_⟩
  cases sv with
  | fz d' => cases h2; exact Rep.mono s.fh e2
  | ow d' => cases h2; exact Own.rep e2.1 s.fh fun _ _ => rfl⟩
/-- behind an expression's reading that ran from the frozen heap -/
theorem StAt.step (s : StAt K E ρ σ H Hf A) (t : Step Hf H W' H') : StAt K E ρ σ H' W' A where
  len := s.len
  w0 := s.w0.trans t.ww
  fh := t.wh
  fr := fun b h1 h2 => by
    by_cases e : Hf b = none
    · exact s.kp b (t.fr b h1 e)
    · exact s.fr b e h2
  hh := fun b o h1 h2 => t.hh _ _ (s.hh b o h1 h2)
  kp := fun b h => s.kp b (Evl.fresh_back t.hh h)
  sl := fun i sv h => by
    obtain ⟨v, e1, e2⟩ := s.sl i sv h
    refine ⟨v, e1, ?_⟩
    cases sv with
    | fz d => exact Rep.mono t.ww e2
    | ow d =>
      refine ⟨Own.move e2.1 t.ww fun a ha => ?_, e2.2⟩
      have h2 := (s.ap i a ha).2.1
      cases q : H a with
      | none => exact absurd q h2
      | some o => exact t.hh _ _ q
  ap := fun i a ha => by
    obtain ⟨h1, h2, h3⟩ := s.ap i a ha
    refine ⟨?_, fun z => h2 (Evl.fresh_back t.hh z), h3⟩
    cases q : W' a with
    | none => rfl
    | some o => exact absurd (t.fr a (by rw [q]; simp) h1) h2
  dj := s.dj
  pn := s.pn
/-- .. from the whole heap: the frozen heap stays -/
theorem StAt.grow (s : StAt K E ρ σ H Hf A) (t : Ex H H') : StAt K E ρ σ H' Hf A where
  len := s.len
  w0 := s.w0
  fh := s.fh.trans t
  fr := s.fr
  hh := fun b o h1 h2 => t _ _ (s.hh b o h1 h2)
  kp := fun b h => s.kp b (Evl.fresh_back t h)
  sl := fun i sv h => by
    obtain ⟨v, e1, e2⟩ := s.sl i sv h
    refine ⟨v, e1, ?_⟩
    cases sv with
    | fz d => exact e2
    | ow d =>
      refine ⟨Own.move e2.1 (.refl _) fun a ha => ?_, e2.2⟩
      have h2 := (s.ap i a ha).2.1
      cases q : H a with
      | none => exact absurd q h2
      | some o => exact t _ _ q
  ap := fun i a ha => by
    obtain ⟨h1, h2, h3⟩ := s.ap i a ha
    exact ⟨h1, fun z => h2 (Evl.fresh_back t z), h3⟩
  dj := s.dj
  pn := s.pn
/-- a slot is set to a value in the frozen heap -/
theorem StAt.setFz (s : StAt K E ρ σ H Hf A) {i : Nat} {d : D} {v : V} (r : Rep K Hf d v) (hp : E.pa i = none) : StAt K E (ρ.set i (some (.fz d))) (σ.set i (some v)) H Hf (fun j => if j = i then [] else A j) where
  len := by rw [List.length_set, List.length_set]; exact s.len
  w0 := s.w0
  fh := s.fh
  fr := s.fr
  hh := s.hh
  kp := s.kp
  sl := fun j sv h => by
    by_cases hj : i = j
    · subst hj
      by_cases hi : i < ρ.length
      · rw [List.getElem?_set_self hi] at h; cases h
        exact ⟨v, List.getElem?_set_self (by rw [← s.len]; exact hi), r⟩
      · rw [List.getElem?_eq_none (by rw [List.length_set]; omega)] at h; cases h
    · rw [List.getElem?_set_ne hj] at h ⊢
      rw [if_neg (fun z => hj z.symm)]
      exact s.sl j sv h
  ap := fun j a ha => by
    by_cases hj : j = i
    · rw [if_pos hj] at ha; exact absurd ha (by simp)
    · rw [if_neg hj] at ha; exact s.ap j a ha
  dj := fun j k a h1 h2 => by
    by_cases hj : j = i
    · rw [if_pos hj] at h1; exact absurd h1 (by simp)
    · by_cases hk : k = i
      · rw [if_pos hk] at h2; exact absurd h2 (by simp)
      · rw [if_neg hj] at h1; rw [if_neg hk] at h2; exact s.dj j k a h1 h2
  pn := fun j a h => by
    have hj : i ≠ j := fun e => by subst e; rw [hp] at h; cases h
    rw [List.getElem?_set_ne hj]; exact s.pn j a h
/-- a slot is set to a new object of its own -/
theorem StAt.setOw (s : StAt K E ρ σ H Hf A) {i : Nat} {d : D} {v : V} {B : List Addr} (r : Own K Hf H d v B) (hB0 : B ≠ []) (hp : E.pa i = none) (hB : ∀ a ∈ B, Hf a = none ∧ H a ≠ none ∧ E.H0 a = none ∧ ∀ j, a ∉ A j) : StAt K E (ρ.set i (some (.ow d))) (σ.set i (some v)) H Hf (fun j => if j = i then B else A j) where
  len := by rw [List.length_set, List.length_set]; exact s.len
  w0 := s.w0
  fh := s.fh
  fr := s.fr
  hh := s.hh
  kp := s.kp
  sl := fun j sv h => by
    by_cases hj : i = j
    · subst hj
      by_cases hi : i < ρ.length
      · rw [List.getElem?_set_self hi] at h; cases h
        exact ⟨v, List.getElem?_set_self (by rw [← s.len]; exact hi), by dsimp only; rw [if_pos rfl]; exact ⟨r, hB0⟩⟩
      · rw [List.getElem?_eq_none (by rw [List.length_set]; omega)] at h; cases h
    · rw [List.getElem?_set_ne hj] at h ⊢
      rw [if_neg (fun z => hj z.symm)]
      exact s.sl j sv h
  ap := fun j a ha => by
    by_cases hj : j = i
    · rw [if_pos hj] at ha; obtain ⟨h1, h2, h3, _⟩ := hB a ha; exact ⟨h1, h2, .inl h3⟩
    · rw [if_neg hj] at ha; exact s.ap j a ha
  dj := fun j k a h1 h2 => by
    by_cases hj : j = i
    · by_cases hk : k = i
      · rw [hj, hk]
      · rw [if_pos hj] at h1; rw [if_neg hk] at h2; exact absurd h2 ((hB a h1).2.2.2 k)
    · by_cases hk : k = i
      · rw [if_neg hj] at h1; rw [if_pos hk] at h2; exact absurd h1 ((hB a h2).2.2.2 j)
      · rw [if_neg hj] at h1; rw [if_neg hk] at h2; exact s.dj j k a h1 h2
  pn := fun j a h => by
    have hj : i ≠ j := fun e => by subst e; rw [hp] at h; cases h
    rw [List.getElem?_set_ne hj]; exact s.pn j a h
/-- the object of a slot is changed -/
theorem StAt.change (s : StAt K E ρ σ H Hf A) {i : Nat} {d d' : D} {a : Addr} {o : HO} {B : List Addr} (hi : ρ[i]? = some (some (.ow d))) (hv : σ[i]? = some (some (.ref a))) (ha : a ∈ A i) (hB0 : B ≠ []) (hB : ∀ b ∈ B, b ∈ A i)
    (r : Own K Hf (upd H a o) d' (.ref a) B) : StAt K E (ρ.set i (some (.ow d'))) σ (upd H a o) Hf (fun j => if j = i then B else A j) where
  len := by rw [List.length_set]; exact s.len
  w0 := s.w0
  fh := fun b u h => by rw [upd_ne (ne_of_none h (s.ap i a ha).1)]; exact s.fh b u h
  fr := s.fr
  hh := fun b u h1 h2 => by
    have : b ≠ a := fun e => by
      subst e
      rcases (s.ap i b ha).2.2 with q | q
      · rw [h1] at q; cases q
      · exact h2 q.1
    rw [upd_ne this]; exact s.hh b u h1 h2
  kp := fun b h => by
    by_cases e : b = a
    · subst e; rw [upd_same] at h; cases h
    · rw [upd_ne e] at h; exact s.kp b h
  sl := fun j sv h => by
    by_cases hj : i = j
    · subst hj
      have hl : i < ρ.length := (List.getElem?_eq_some_iff.mp hi).1
      rw [List.getElem?_set_self hl] at h; cases h
      exact ⟨_, hv, by dsimp only; rw [if_pos rfl]; exact ⟨r, hB0⟩⟩
    · rw [List.getElem?_set_ne hj] at h
      rw [if_neg (fun z => hj z.symm)]
      obtain ⟨v, e1, e2⟩ := s.sl j sv h
      refine ⟨v, e1, ?_⟩
      cases sv with
      | fz d => exact e2
      | ow d => exact ⟨Own.move e2.1 (.refl _) fun b hb => upd_ne fun e => by subst e; exact hj (s.dj _ _ _ ha hb), e2.2⟩
  ap := fun j b hb => by
    have hu : upd H a o b ≠ none := by
      by_cases e : b = a
      · subst e; rw [upd_same]; simp
      · rw [upd_ne e]
        by_cases hj : j = i
        · rw [if_pos hj] at hb; exact (s.ap i b (hB b hb)).2.1
        · rw [if_neg hj] at hb; exact (s.ap j b hb).2.1
    by_cases hj : j = i
    · rw [if_pos hj] at hb
      obtain ⟨h1, _, h3⟩ := s.ap i b (hB b hb)
      exact ⟨h1, hu, by rw [hj]; exact h3⟩
    · rw [if_neg hj] at hb
      obtain ⟨h1, _, h3⟩ := s.ap j b hb
      exact ⟨h1, hu, h3⟩
  dj := fun j k b h1 h2 => by
    have g : ∀ j, b ∈ (if j = i then B else A j) → b ∈ A j := fun j h => by
      by_cases hj : j = i
      · rw [if_pos hj] at h; rw [hj]; exact hB b h
      · rw [if_neg hj] at h; exact h
    exact s.dj j k b (g j h1) (g k h2)
  pn := s.pn
end

/-- an error: its class, and what its own __init__ wrote -/
structure Er where
  cls : Value
  fs : Option (List (Str × D))
def ErAt (K : PySem.W.Frag) (H : Hp) (er : Er) (d : Option Addr) : Prop := match er.fs with
  | none => d = none
  | some fds => ∃ dd vs, d = some dd ∧ H dd = some (.xd vs) ∧ vs.map (·.1) = fds.map (·.1) ∧ RepAll K (fun _ => none) (fds.map (·.2)) (vs.map (·.2))
inductive Out where
  | nx (ρ : RhoS) | rt (d : D) (ρ : RhoS) | bk (ρ : RhoS) | ct (ρ : RhoS) | ex (er : Er) (ρ : RhoS)
def RtOk (K : PySem.W.Frag) (E : Ent) (d : D) (ρ : RhoS) (v : V) (H : Hp) : Prop := ∃ σ Hf A W', StAt K E ρ σ H Hf A ∧ Ex Hf W' ∧ Ex W' H ∧ Fr E.W0 W' E.H0 ∧ (∀ i a, a ∈ A i → E.pa i ≠ none → W' a = none) ∧ Rep K W' d v
/-- the error er is taken where the names are worth ρ (at H, ahead of the error's making) -/
def ExOk (X : Cx) (E : Ent) (er : Er) (ρ : RhoS) : Prop := ∃ W : L2.WX, L2.Takes X W ∧ ∀ d σ H H', StOk X.K E ρ σ H → Ex H H' → ErAt X.K H' er d → (∀ dd, d = some dd → H dd = none) → W er.cls d σ H'
def OutOk (X : Cx) (E : Ent) (D : Ends) : Out → Prop
  | .nx ρ => ∀ σ H, StOk X.K E ρ σ H → D.nx σ H
  | .rt d ρ => ∀ v H, RtOk X.K E d ρ v H → D.rt v H
  | .bk ρ => ∀ σ H, StOk X.K E ρ σ H → D.bk σ H
  | .ct ρ => ∀ σ H, StOk X.K E ρ σ H → D.ct σ H
  | .ex er ρ => ExOk X E er ρ
def Ent.Pins (E : Ent) (pin : List Nat) : Prop := ∀ i, E.pa i ≠ none ↔ i ∈ pin
structure JS (X : Cx) (pin : List Nat) (st : Stmt) (ρ : RhoS) (Φ : Out → Prop) : Prop where
  run : ∀ (E : Ent) σ H (D : Ends), E.Pins pin → StOk X.K E ρ σ H → (∀ o, Φ o → OutOk X E D o) → wS X st D σ H
instance {X : Cx} {pin : List Nat} {st : Stmt} {ρ : RhoS} {Φ : Out → Prop} : CoeFun (JS X pin st ρ Φ) (fun _ => ∀ (E : Ent) σ H (D : Ends), E.Pins pin → StOk X.K E ρ σ H → (∀ o, Φ o → OutOk X E D o) → wS X st D σ H) := ⟨JS.run⟩
structure JSs (X : Cx) (pin : List Nat) (sts : List Stmt) (ρ : RhoS) (Φ : Out → Prop) : Prop where
  run : ∀ (E : Ent) σ H (D : Ends), E.Pins pin → StOk X.K E ρ σ H → (∀ o, Φ o → OutOk X E D o) → wSs X sts D σ H
instance {X : Cx} {pin : List Nat} {sts : List Stmt} {ρ : RhoS} {Φ : Out → Prop} : CoeFun (JSs X pin sts ρ Φ) (fun _ => ∀ (E : Ent) σ H (D : Ends), E.Pins pin → StOk X.K E ρ σ H → (∀ o, Φ o → OutOk X E D o) → wSs X sts D σ H) := ⟨JSs.run⟩
/-- what must hold behind a statement for the rest -/
def thenSs (X : Cx) (pin : List Nat) (rest : List Stmt) (Φ : Out → Prop) : Out → Prop
  | .nx ρ => JSs X pin rest ρ Φ
  | .rt d ρ => Φ (.rt d ρ)
  | .bk ρ => Φ (.bk ρ)
  | .ct ρ => Φ (.ct ρ)
  | .ex er ρ => Φ (.ex er ρ)
section
variable {X : Cx} {pin : List Nat} {st : Stmt} {rest a b : List Stmt} {ρ : RhoS} {Φ : Out → Prop} {e c : Expr} {d : D} {pos p' : Pos} {i : Nat} {x : Str} {t : Bool}
theorem Ent.Pins.none {E : Ent} (h : E.Pins pin) (hi : i ∉ pin) : E.pa i = none := by
  cases q : E.pa i with
  | none => rfl
  | some a => exact absurd ((h i).mp (by rw [q]; simp)) hi
theorem jss_nil (h : Φ (.nx ρ)) : JSs X pin [] ρ Φ := ⟨fun E σ H D _ s k => .of pss_nil (k _ h σ H s)⟩
theorem jss_cons (h : JS X pin st ρ (thenSs X pin rest Φ)) : JSs X pin (st :: rest) ρ Φ := ⟨fun E σ H D hp s k =>
  .of (pss_cons ps_w pss_w) (h E σ H _ hp s fun o ho => by
    cases o with
    | nx ρ' => exact fun σ' H' s' => JSs.run (show JSs X pin rest ρ' Φ from ho) E σ' H' D hp s' k
    | rt d ρ' => exact k _ ho
    | bk ρ' => exact k _ ho
    | ct ρ' => exact k _ ho
    | ex er ρ' => exact k _ ho)⟩
theorem JS.imp {Ψ : Out → Prop} (h : JS X pin st ρ Ψ) (k : ∀ o, Ψ o → Φ o) : JS X pin st ρ Φ := ⟨fun E σ H D hp s q => h E σ H D hp s fun o ho => q o (k o ho)⟩
theorem JSs.imp {Ψ : Out → Prop} (h : JSs X pin rest ρ Ψ) (k : ∀ o, Ψ o → Φ o) : JSs X pin rest ρ Φ := ⟨fun E σ H D hp s q => h E σ H D hp s fun o ho => q o (k o ho)⟩
theorem js_break (h : Φ (.bk ρ)) : JS X pin (.Break pos) ρ Φ := ⟨fun E σ H D _ s k => .of ps_break (k _ h σ H s)⟩
theorem js_if (hc : JT X c (allR ρ) t) (h1 : t = true → JSs X pin a ρ Φ) (h2 : t = false → JSs X pin b ρ Φ) : JS X pin (.If c a b pos) ρ Φ := ⟨fun E σ H D hp ⟨Hf, A, s⟩ k =>
  .of (ps_if pt_w pss_w pss_w) (hc H σ H (.refl _) s.visH _ fun W' H' st => by
    have s' := s.grow st.hh
    cases t with
    | true => rw [if_pos rfl]; exact h1 rfl E σ H' D hp ⟨Hf, A, s'⟩ k
    | false => rw [if_neg Bool.false_ne_true]; exact h2 rfl E σ H' D hp ⟨Hf, A, s'⟩ k)⟩
/-- the branch is known -/
theorem js_ifT (hc : JT X c (allR ρ) true) (h1 : JSs X pin a ρ Φ) : JS X pin (.If c a b pos) ρ Φ := js_if hc (fun _ => h1) (fun z => Bool.noConfusion z)
theorem js_ifF (hc : JT X c (allR ρ) false) (h1 : JSs X pin b ρ Φ) : JS X pin (.If c a b pos) ρ Φ := js_if hc (fun z => Bool.noConfusion z) (fun _ => h1)
/-- flat data do not lean on the heap -/
theorem Rep.any {K : PySem.W.Frag} {H H' : Hp} {v : V} (r : Rep K H d v) (h : flatD d = true) : Rep K H' d v := by
  cases r with
  | non => exact .non
  | bl b => exact .bl b
  | int i => exact .int i
  | str x => exact .str x
  | _ => cases h
theorem js_set (h : J X e (fzR ρ) d) (hk : Φ (.nx (ρ.set i (some (.fz d))))) (hN : X.N.Nodup) (hi : X.N[i]? = some x := by rfl) (hx : Loc X.env.scope x := by first | exact Or.inl rfl | exact Or.inr rfl) (hp : i ∉ pin := by decide) (hs : swapsWith e (some (.Name x p')) pos.line X.env = pure false := by rfl)
    (hf : X.fn x = true ∨ X.env.scope.names.lookup x = some .local := by first | exact .inl rfl | exact .inr rfl) : JS X pin (.Assign [.Name x p'] e pos) ρ Φ := ⟨fun E σ H D hpn ⟨Hf, A, s⟩ k =>
  .of (ps_set hN hi hx pe_w hs hf) (h Hf σ H s.fh s.vis _ fun v W' H' st r => k _ hk _ H' ⟨W', _, (s.step st).setFz r (hpn.none hp)⟩)⟩
theorem js_setS (h : J X e (allR ρ) d) (hd : flatD d = true) (hk : Φ (.nx (ρ.set i (some (.fz d))))) (hN : X.N.Nodup) (hi : X.N[i]? = some x := by rfl) (hx : Loc X.env.scope x := by first | exact Or.inl rfl | exact Or.inr rfl) (hp : i ∉ pin := by decide) (hs : swapsWith e (some (.Name x p')) pos.line X.env = pure false := by rfl)
    (hf : X.fn x = true ∨ X.env.scope.names.lookup x = some .local := by first | exact .inl rfl | exact .inr rfl) : JS X pin (.Assign [.Name x p'] e pos) ρ Φ := ⟨fun E σ H D hpn ⟨Hf, A, s⟩ k =>
  .of (ps_set hN hi hx pe_w hs hf) (h H σ H (.refl _) s.visH _ fun v W' H' st r => k _ hk _ H' ⟨Hf, _, (s.grow st.hh).setFz (r.any hd) (hpn.none hp)⟩)⟩
/-- the heap that a value handed back stands in: all that is new, but for what the own arguments hold -/
noncomputable def retW (E : Ent) (Hf H : Hp) (A : Nat → List Addr) : Hp := fun b =>
  haveI := Classical.propDecidable (∃ i, b ∈ A i ∧ E.pa i ≠ none)
  if ∃ i, b ∈ A i ∧ E.pa i ≠ none then none else match E.H0 b with
  | none => H b
  | some _ => Hf b
/-- own arguments hidden -/
def retR (pin : List Nat) (ρ : RhoS) : Rho := ρ.mapIdx fun i o => if i ∈ pin then o.bind SV.fzD else o.map SV.d
theorem retR_nil (ρ : RhoS) : retR [] ρ = allR ρ := by
  unfold retR allR
  apply List.ext_getElem?
  intro i
  rw [List.getElem?_mapIdx, List.getElem?_map]
  simp
section
variable {E : Ent} {σ : L2.St} {H Hf : Hp} {A : Nat → List Addr}
theorem retW_arg {b : Addr} (h : ∃ i, b ∈ A i ∧ E.pa i ≠ none) : retW E Hf H A b = none := by unfold retW; rw [if_pos h]
theorem retW_new {b : Addr} (hn : ¬ ∃ i, b ∈ A i ∧ E.pa i ≠ none) (h : E.H0 b = none) : retW E Hf H A b = H b := by unfold retW; rw [if_neg hn, h]
theorem retW_old {b : Addr} (hn : ¬ ∃ i, b ∈ A i ∧ E.pa i ≠ none) (h : E.H0 b ≠ none) : retW E Hf H A b = Hf b := by
  unfold retW
  rw [if_neg hn]
  cases q : E.H0 b with
  | none => exact absurd q h
  | some o => rfl
theorem StAt.retHf (s : StAt X.K E ρ σ H Hf A) : Ex Hf (retW E Hf H A) := fun b o h => by
  have hn : ¬ ∃ i, b ∈ A i ∧ E.pa i ≠ none := fun ⟨i, h1, _⟩ => by
    have := (s.ap i b h1).1
    rw [h] at this; cases this
  by_cases q : E.H0 b = none
  · rw [retW_new hn q]; exact s.fh b o h
  · rw [retW_old hn q]; exact h
theorem StAt.retH (s : StAt X.K E ρ σ H Hf A) : Ex (retW E Hf H A) H := fun b o h => by
  by_cases hn : ∃ i, b ∈ A i ∧ E.pa i ≠ none
  · rw [retW_arg hn] at h; cases h
  · by_cases q : E.H0 b = none
    · rw [retW_new hn q] at h; exact h
    · rw [retW_old hn q] at h; exact s.fh b o h
theorem StAt.visR (hp : E.Pins pin) (s : StAt X.K E ρ σ H Hf A) : Vis X.K (retR pin ρ) (retW E Hf H A) σ := by
  refine ⟨by unfold retR; rw [List.length_mapIdx]; exact s.len, fun i d h => ?_⟩
  unfold retR at h
  rw [List.getElem?_mapIdx] at h
  cases e : ρ[i]? with
  | none => rw [e] at h; cases h
  | some o =>
    rw [e] at h
    cases o with
    | none => simp at h
    | some sv =>
      obtain ⟨v, q1, q2⟩ := s.sl i sv e
      refine ⟨v, q1, ?_⟩
      cases sv with
      | fz d' =>
        have : d' = d := by simpa [SV.fzD, SV.d] using h
        subst this
        exact Rep.mono s.retHf q2
      | ow d' =>
        by_cases hi : i ∈ pin
        · simp [hi, SV.fzD] at h
        · have : d' = d := by simpa [hi, SV.d] using h
          subst this
          refine Own.rep q2.1 s.retHf fun a ha => ?_
          have hn : ¬ ∃ j, a ∈ A j ∧ E.pa j ≠ none := fun ⟨j, h1, h2⟩ => by
            have := s.dj i j a ha h1
            subst this
            exact hi ((hp i).mp h2)
          rcases (s.ap i a ha).2.2 with q | q
          · exact retW_new hn q
          · exact absurd ⟨i, ha, q.2⟩ hn
end
theorem js_retR (h : J X e (retR pin ρ) d) (hk : Φ (.rt d ρ)) : JS X pin (.Return (some e) pos) ρ Φ := ⟨fun E σ H D hp ⟨Hf, A, s⟩ k =>
  .of (ps_ret pe_w) (h (retW E Hf H A) σ H s.retH (s.visR hp) _ fun v W' H' st r => k _ hk v H' ⟨σ, Hf, A, W', s.grow st.hh, s.retHf.trans st.ww, st.wh, fun b h1 h2 => by
      by_cases q : retW E Hf H A b = none
      · exact s.kp b (st.fr b h1 q)
      · by_cases hn : ∃ i, b ∈ A i ∧ E.pa i ≠ none
        · exact absurd (retW_arg hn) q
        · by_cases z : E.H0 b = none
          · exact z
          · rw [retW_old hn z] at q; exact s.fr b q h2, fun i a ha hpa => by
      cases q : W' a with
      | none => rfl
      | some o => exact absurd (st.fr a (by rw [q]; simp) (retW_arg ⟨i, ha, hpa⟩)) (s.ap i a ha).2.1, r⟩)⟩
theorem js_ret (h : J X e (allR ρ) d) (hk : Φ (.rt d ρ)) : JS X [] (.Return (some e) pos) ρ Φ := js_retR (by rw [retR_nil]; exact h) hk
end
end Pf

namespace Pf
open PySem PyProof.Rows L2
open Evl (Ex)

section
variable {X : Cx} {pin : List Nat} {st : Stmt} {rest a b body : List Stmt} {ρ : RhoS} {Φ : Out → Prop} {e c tg iter : Expr} {es : List Expr} {d : D} {ds : List D} {pos p p' p1 p2 p3 : Pos} {i : Nat} {x : Str} {t : Bool}
  {K : PySem.W.Frag} {E : Ent} {σ : L2.St} {H Hf : Hp} {A : Nat → List Addr}
structure JN (X : Cx) (e : Expr) (ρ : Rho) (ds : List D) : Prop where
  run : ∀ W σ H, Ex W H → Vis X.K ρ W σ → ∀ Q : VK, (∀ (a : Addr) (W' H' : Hp) (vs : List V), Step W H W' H' → H a = none → W' a = none → H' a = some (.lst vs) → RepAll X.K W' ds vs → Q (.ref a) H') → wE X e σ H Q
instance {X : Cx} {e : Expr} {ρ : Rho} {ds : List D} : CoeFun (JN X e ρ ds) (fun _ => ∀ W σ H, Ex W H → Vis X.K ρ W σ → ∀ Q : VK, (∀ (a : Addr) (W' H' : Hp) (vs : List V), Step W H W' H' → H a = none → W' a = none → H' a = some (.lst vs) → RepAll X.K W' ds vs → Q (.ref a) H') → wE X e σ H Q) := ⟨JN.run⟩
theorem jn_lst {ρ : Rho} (h : JA X es ρ ds) (hl : ds.length ≤ sizeLine := by (simp only [List.length_cons, List.length_nil]; decide)) : JN X (.List es pos) ρ ds := ⟨fun W σ H ex hV Q g =>
  .of (pe_lst pa_w) (h W σ H ex hV _ fun vs W1 H1 s1 r1 => ⟨by rw [← r1.length]; exact hl, fun q hq =>
    g q W1 _ vs (s1.trans (.newH s1.wh hq)) (Evl.fresh_back s1.hh hq) (Evl.fresh_back s1.wh hq) upd_same r1⟩)⟩
theorem Own.newL {W : Hp} {a : Addr} {vs : List V} (h : H a = some (.lst vs)) (r : RepAll K W ds vs) (n : NoM ds) : Own K W H (.lst ds) (.ref a) [a] := .lst h (.fz r n) (by simp)
theorem StAt.newL (s : StAt K E ρ σ H Hf A) {W' H' : Hp} {a : Addr} {vs : List V} (st : Step Hf H W' H') (h1 : H a = none) (h2 : W' a = none) (h3 : H' a = some (.lst vs)) (r : RepAll K W' ds vs) (hp : E.pa i = none) (n : NoM ds) :
    StOk K E (ρ.set i (some (.ow (.lst ds)))) (σ.set i (some (.ref a))) H' :=
  ⟨W', _, (s.step st).setOw (.newL h3 r n) (by simp) hp fun b hb => by
    have e : b = a := by simpa using hb
    subst e
    exact ⟨h2, by rw [h3]; simp, s.kp b h1, fun j hj => (s.ap j b hj).2.1 h1⟩⟩
theorem js_setN (h : JN X e (fzR ρ) ds) (hk : Φ (.nx (ρ.set i (some (.ow (.lst ds)))))) (hN : X.N.Nodup) (hM : NoM ds := by (repeat (first | exact NoM.nil | exact NoM.map fun _ => rfl | exact NoM.fm fun _ => rfl | refine NoM.cons rfl ?_ | refine NoM.app ?_ ?_))) (hi : X.N[i]? = some x := by rfl) (hx : Loc X.env.scope x := by first | exact Or.inl rfl | exact Or.inr rfl) (hp : i ∉ pin := by decide) (hs : swapsWith e (some (.Name x p')) pos.line X.env = pure false := by rfl)
    (hf : X.fn x = true ∨ X.env.scope.names.lookup x = some .local := by first | exact .inl rfl | exact .inr rfl) : JS X pin (.Assign [.Name x p'] e pos) ρ Φ := ⟨fun E σ H D hpn ⟨Hf, A, s⟩ k =>
  .of (ps_set hN hi hx pe_w hs hf) (h Hf σ H s.fh s.vis _ fun a W' H' vs st h1 h2 h3 r => k _ hk _ H' (s.newL st h1 h2 h3 r (hpn.none hp) hM))⟩
theorem OwnAll.snoc {vs : List V} {v : V} {B : List Addr} (h : OwnAll K Hf H ds vs B) (r : Rep K Hf d v) (n : insM d = false) : OwnAll K Hf H (ds ++ [d]) (vs ++ [v]) B := by
  have := h.append (OwnAll.fz (.cons r .nil) (.cons n .nil)) (fun _ _ => by simp)
  rwa [List.append_nil] at this
theorem OwnAll.move {vs : List V} {B : List Addr} {Hf' H' : Hp} (h : OwnAll K Hf H ds vs B) (e : Ex Hf Hf') (k : ∀ a ∈ B, H' a = H a) : OwnAll K Hf' H' ds vs B := by
  refine OwnAll.rec (motive_1 := fun d v A _ => Ex Hf Hf' → (∀ a ∈ A, H' a = H a) → Own K Hf' H' d v A) (motive_2 := fun ds vs A _ => Ex Hf Hf' → (∀ a ∈ A, H' a = H a) → OwnAll K Hf' H' ds vs A) (motive_3 := fun ds vs A _ => Ex Hf Hf' → (∀ a ∈ A, H' a = H a) → OwnFs K Hf' H' ds vs A) ?_ ?_ ?_ ?_ ?_ ?_ ?_ ?_ h e k
  · exact fun r e _ => .fz (r.mono e)
  · exact fun h1 _ n ih e k => .lst (by rw [k _ List.mem_cons_self]; exact h1) (ih e fun a ha => k a (List.mem_cons_of_mem _ ha)) n
  · exact fun h1 q _ n ih e k => .dct (by rw [k _ List.mem_cons_self]; exact h1) q (ih e fun a ha => k a (List.mem_cons_of_mem _ ha)) n
  · exact fun h1 q _ n ih e k => .ins (by rw [k _ List.mem_cons_self]; exact h1) q (ih e fun a ha => k a (List.mem_cons_of_mem _ ha)) n
  · exact fun _ _ => .nil
  · exact fun _ _ n w i1 i2 e k => .cons (i1 e fun a ha => k a (List.mem_append_left _ ha)) (i2 e fun a ha => k a (List.mem_append_right _ ha)) n w
  · exact fun _ _ => .nil
  · exact fun _ _ n w i1 i2 e k => .cons (i1 e fun a ha => k a (List.mem_append_left _ ha)) (i2 e fun a ha => k a (List.mem_append_right _ ha)) n w
theorem OwnFs.move {Hf' H' : Hp} : ∀ {ds : List D} {vs : List V} {B : List Addr}, OwnFs K Hf H ds vs B → Ex Hf Hf' → (∀ a ∈ B, H' a = H a) → OwnFs K Hf' H' ds vs B
  | _, _, _, .nil, _, _ => .nil
  | _, _, _, .cons a b n w, e, k => .cons (a.move e fun x hx => k x (List.mem_append_left _ hx)) (OwnFs.move b e fun x hx => k x (List.mem_append_right _ hx)) n w
theorem js_append (hi : ρ[i]? = some (some (.ow (.lst ds)))) (h : J X e (fzR ρ) d) (hl : ds.length < sizeLine) (hk : Φ (.nx (ρ.set i (some (.ow (.lst (ds ++ [d]))))))) (hM : insM d = false := by rfl) (hN : X.N[i]? = some x := by rfl) (hv : L2.Vis X.env.scope x := by first | exact Or.inl rfl | exact Or.inr (Or.inl rfl))
    (hd : (x == ("__debug__" : Str)) = false := by decide) (hcd : (x == ("__classdict__" : Str)) = false := by decide) (hst : starEach [e] X.env = (false, eval e X.env) :: starEach [] X.env := by rfl)
    (hfew : ((backTo p3 (starEach [e] X.env)).all (fun x => !x.1) && (backToKw p3 (keywordEach [] X.env)).all (fun x => x.1.isSome) && decide ([e].length + ([] : List Keyword).length + (if ([] : List Keyword).isEmpty then 0 else 1) < 30)) = true := by rfl)
    (hline : (p2.endLine == p3.line) = true := by rfl)
    (hs : swapsWith (.Call (.Attribute (.Name x p1) "append" p2) [e] [] p3) none pos.line X.env = pure false := by rfl) : JS X pin (.Expr (.Call (.Attribute (.Name x p1) "append" p2) [e] [] p3) pos) ρ Φ := ⟨fun E σ H D hpn ⟨Hf, A, s⟩ k => by
  refine .of (ps_expr (pe_bm PySem.F.plainAttrs_list PySem.F.slot_list_append PySem.F.type_list_append mt_append (pe_var hN hv hd hcd) (pa_cons pe_w pa_nil hst) rfl hfew hline hst) hs) ?_
  obtain ⟨v, hσ, ow, ne⟩ := s.sl i _ hi
  generalize hA : A i = Ai at ow ne
  cases ow with
  | fz _ => exact absurd rfl ne
  | @lst l vs _ B hl1 ha nB =>
    refine ⟨_, hσ, .inl ⟨rfl, _, SqL.of hl1⟩, ?_⟩
    refine h Hf σ H s.fh s.vis _ fun y W' H' st r => ?_
    have s' := s.step st
    have hl2 := st.hh _ _ hl1
    refine ⟨l, vs, y, rfl, rfl, hl2, by rw [← ha.length]; exact hl, ?_⟩
    have hm : l ∈ A i := by rw [hA]; exact List.mem_cons_self
    have k1 : ∀ a ∈ B, upd H' l (.lst (vs ++ [y])) a = H a := fun a haB => by
      rw [upd_ne (fun z => by subst z; exact nB haB)]
      have := (s.ap i a (by rw [hA]; exact List.mem_cons_of_mem _ haB)).2.1
      cases q : H a with
      | none => exact absurd q this
      | some o => exact st.hh _ _ q
    exact k _ hk _ _ ⟨W', _, s'.change (B := l :: B) hi hσ hm (by simp) (fun b hb => by rw [hA]; exact hb) (.lst upd_same ((ha.move st.ww k1).snoc r hM) nB)⟩⟩

def Pat.setS : Pat → D → RhoS → Option RhoS
  | .nm i, d, ρ => some (ρ.set i (some (.fz d)))
  | .tp is, .tup ds, ρ => if ds.length = is.length then some (setAll ρ is (ds.map SV.fz)) else none
  | .tp _, _, _ => none
  | .tn ps, .tup ds, ρ => setC SV.fz ps ds ρ
  | .tn _, _, _ => none
theorem setAllFz {i : Nat} : ∀ (is : List Nat) {ds : List D} {vs : List V} {ρ : RhoS} {σ : L2.St} {A : Nat → List Addr}, StAt K E ρ σ H Hf A → RepAll K Hf ds vs → ds.length = is.length → (∀ i ∈ is, E.pa i = none) → ∃ A', StAt K E (setAll ρ is (ds.map SV.fz)) (setAll σ is vs) H Hf A'
  | [], _, _, _, _, _, s, .nil, _, _ => ⟨_, s⟩
  | i :: is, _, _, _, _, _, s, .cons r t, e, hp => setAllFz (i := i) is (s.setFz r (hp i List.mem_cons_self)) t (by simpa using e) fun j hj => hp j (List.mem_cons_of_mem _ hj)
  | [], _, _, _, _, _, _, .cons _ _, e, _ => by simp at e
  | _ :: _, _, _, _, _, _, _, .nil, e, _ => by simp at e
theorem gComps_runS : ∀ (ps : List (Nat ⊕ List Nat)) {ds : List D} {vs : List V} {ρ ρ' : RhoS} {σ : L2.St} {A : Nat → List Addr} {Q : L2.St → Hp → Prop}, StAt K E ρ σ H Hf A → RepAll K Hf ds vs → setC SV.fz ps ds ρ = some ρ' → (∀ i ∈ slotsC ps, E.pa i = none) →
    (∀ σ' A', StAt K E ρ' σ' H Hf A' → Q σ' H) → gComps K ps vs σ H Q
  | [], _, _, ρ, ρ', σ, A, Q, s, .nil, hs, hp, q => by cases hs; exact ⟨rfl, q σ A s⟩
  | [], _, _, ρ, ρ', σ, A, Q, s, .cons _ _, hs, hp, q => by cases hs
  | .inl i :: ps, _, _, ρ, ρ', σ, A, Q, s, .nil, hs, hp, q => by cases hs
  | .inr is :: ps, _, _, ρ, ρ', σ, A, Q, s, .nil, hs, hp, q => by cases hs
  | .inl i :: ps, _, v :: vs, ρ, ρ', σ, A, Q, s, .cons r t, hs, hp, q => ⟨v, vs, rfl, gComps_runS ps (s.setFz r (hp i (List.mem_cons_self))) t hs (fun j hj => hp j (List.mem_cons_of_mem _ hj)) q⟩
  | .inr is :: ps, d :: ds, v :: vs, ρ, ρ', σ, A, Q, s, .cons r t, hs, hp, q => by
    cases r with
    | @tup a us es h1 k =>
      simp only [setC] at hs
      split at hs
      · rename_i hl
        obtain ⟨A', s'⟩ := setAllFz (i := 0) is s k hl fun j hj => hp j (List.mem_append_left _ hj)
        exact ⟨_, vs, rfl, a, us, rfl, Evl.ex_t s.fh h1, by rw [← k.length]; exact hl, gNames_run is (by rw [← k.length]; exact hl) (gComps_runS ps s' t hs (fun j hj => hp j (List.mem_append_right _ hj)) q)⟩
      · cases hs
    | _ => cases hs
theorem setC_len {α : Type} {f : D → α} : ∀ (ps : List (Nat ⊕ List Nat)) {ds : List D} {ρ ρ' : List (Option α)}, setC f ps ds ρ = some ρ' → ds.length = ps.length
  | [], [], _, _, _ => rfl
  | [], _ :: _, _, _, h => by cases h
  | .inl _ :: _, [], _, _, h => by cases h
  | .inr _ :: _, [], _, _, h => by cases h
  | .inl i :: ps, d :: ds, ρ, ρ', h => congrArg (· + 1) (setC_len ps (ds := ds) h)
  | .inr is :: ps, d :: ds, ρ, ρ', h => by
    cases d <;> simp only [setC] at h <;> first | cases h | skip
    split at h
    · exact congrArg (· + 1) (setC_len ps (ds := ds) h)
    · cases h
theorem Pat.runS {pat : Pat} {ρ' : RhoS} {v : V} (s : StAt K E ρ σ H Hf A) (r : Rep K Hf d v) (hs : pat.setS d ρ = some ρ') (hp : ∀ i ∈ pat.slots, E.pa i = none) {Q : L2.St → Hp → Prop} (q : ∀ σ' A', StAt K E ρ' σ' H Hf A' → Q σ' H) : pat.g K v σ H Q := by
  cases pat with
  | nm i => cases hs; exact q _ _ (s.setFz r (hp i (List.mem_singleton.mpr rfl)))
  | tp is =>
    cases r with
    | tup h1 k =>
      simp only [Pat.setS] at hs
      split at hs
      · rename_i hl
        cases hs
        obtain ⟨A', s'⟩ := setAllFz (i := 0) is s k hl hp
        exact ⟨_, _, rfl, Evl.ex_t s.fh h1, by rw [← k.length]; exact hl, gNames_run is (by rw [← k.length]; exact hl) (q _ _ s')⟩
      · cases hs
    | _ => cases hs
  | tn ps =>
    cases r with
    | tup h1 k => exact ⟨_, _, rfl, Evl.ex_t s.fh h1, by rw [← k.length]; exact setC_len ps hs, gComps_runS ps s k hs hp q⟩
    | _ => cases hs
structure JP (X : Cx) (e : Expr) (ρ : Rho) (P : D → Prop) : Prop where
  run : ∀ W σ H, Ex W H → Vis X.K ρ W σ → ∀ Q : VK, (∀ d, P d → GoodE X.K W H d Q) → wE X e σ H Q
instance {X : Cx} {e : Expr} {ρ : Rho} {P : D → Prop} : CoeFun (JP X e ρ P) (fun _ => ∀ W σ H, Ex W H → Vis X.K ρ W σ → ∀ Q : VK, (∀ d, P d → GoodE X.K W H d Q) → wE X e σ H Q) := ⟨JP.run⟩
theorem jp_call {ρ : Rho} {k j n : Nat} {G : List D → (D → Prop) → Prop} {P : D → Prop} (c : PFn X.prog X.w X.K X.mg X.base k x n G) (hr : Room j X.A) (ha : JA X (e :: es) ρ ds) (hG : G ds P) (hk : k ≤ j := by decide) (hn : ds.length = n := by rfl) (hg : Gl X x := by rfl) (hdb : (x == ("__debug__" : Str)) = false := by decide)
    (he : starEach (e :: es) X.env = (false, eval e X.env) :: starEach es X.env := by rfl) (hpl : (backTo pos (starEach es X.env)).any (·.1) = false := by rfl) : JP X (.Call (.Name x p) (e :: es) [] pos) ρ P := ⟨fun W σ H ex hV Q g => by
  obtain ⟨f, fd, ps, F, hm, hkp, hb⟩ := c.ex
  refine .of (pe_call (F.mono hk) hr hg hm hkp hb .nil pass0 pa_w hdb he hpl) (ha W σ H ex hV _ fun vs W1 H1 s1 r1 => ?_)
  rw [List.append_nil]
  exact ⟨by rw [← r1.length]; exact hn, W1, ds, P, s1.wh, r1, hG, fun d' hd => (g d' hd).step s1⟩⟩
theorem js_setP {P : D → Prop} (h : JP X e (fzR ρ) P) (hk : ∀ d, P d → Φ (.nx (ρ.set i (some (.fz d))))) (hN : X.N.Nodup) (hi : X.N[i]? = some x := by rfl) (hx : Loc X.env.scope x := by first | exact Or.inl rfl | exact Or.inr rfl) (hp : i ∉ pin := by decide) (hs : swapsWith e (some (.Name x p')) pos.line X.env = pure false := by rfl)
    (hf : X.fn x = true ∨ X.env.scope.names.lookup x = some .local := by first | exact .inl rfl | exact .inr rfl) : JS X pin (.Assign [.Name x p'] e pos) ρ Φ := ⟨fun E σ H D hpn ⟨Hf, A, s⟩ k =>
  .of (ps_set hN hi hx pe_w hs hf) (h Hf σ H s.fh s.vis _ fun d hd v W' H' st r => k _ (hk d hd) _ H' ⟨W', _, (s.step st).setFz r (hpn.none hp)⟩)⟩
theorem StAt.base {W1 : Hp} (s : StAt K { E with W0 := W1 } ρ σ H Hf A) (e : Ex E.W0 W1) (f : Fr E.W0 W1 E.H0) : StAt K E ρ σ H Hf A :=
  ⟨s.len, e.trans s.w0, s.fh, fun b h1 h2 => by
    by_cases z : W1 b = none
    · exact s.fr b h1 z
    · exact f b z h2, s.hh, s.kp, s.sl, s.ap, s.dj, s.pn⟩
theorem StAt.rebase (s : StAt K E ρ σ H Hf A) : StAt K { E with W0 := Hf } ρ σ H Hf A :=
  ⟨s.len, .refl _, s.fh, fun b h1 h2 => absurd h2 h1, s.hh, s.kp, s.sl, s.ap, s.dj, s.pn⟩
theorem RtOk.base {W1 : Hp} {v : V} (s : RtOk K { E with W0 := W1 } d ρ v H) (e : Ex E.W0 W1) (f : Fr E.W0 W1 E.H0) : RtOk K E d ρ v H := by
  obtain ⟨σ, Hf, A, W', s, h1, h2, h3, h4, h5⟩ := s
  exact ⟨σ, Hf, A, W', s.base e f, h1, h2, fun b q1 q2 => by
    by_cases z : W1 b = none
    · exact h3 b q1 z
    · exact f b z q2, h4, h5⟩
/-- what a turn's outcome must be -/
def turnO (I : RhoS → Prop) (Φ : Out → Prop) : Out → Prop
  | .nx ρ => I ρ
  | .ct ρ => I ρ
  | .bk ρ => Φ (.nx ρ)
  | .rt d ρ => Φ (.rt d ρ)
  | .ex er ρ => Φ (.ex er ρ)
/-- what is walked, known by a property -/
structure JIP (X : Cx) (tg iter : Expr) (ρ : Rho) (Pd : List D → Prop) : Prop where
  run : ∀ W σ H, Ex W H → Vis X.K ρ W σ → ∀ R : It → Hp → Prop, (∀ ds, Pd ds → ∀ J W1 H1, Step W H W1 H1 → Walks X.K J W1 ds → R J H1) → wI X tg iter σ H R
instance {X : Cx} {tg iter : Expr} {ρ : Rho} {Pd : List D → Prop} : CoeFun (JIP X tg iter ρ Pd) (fun _ => ∀ W σ H, Ex W H → Vis X.K ρ W σ → ∀ R : It → Hp → Prop, (∀ ds, Pd ds → ∀ J W1 H1, Step W H W1 H1 → Walks X.K J W1 ds → R J H1) → wI X tg iter σ H R) := ⟨JIP.run⟩
theorem jip_of {ρ : Rho} (h : JI X tg iter ρ ds) : JIP X tg iter ρ (fun es => es = ds) := ⟨fun W σ H ex hV R g => h W σ H ex hV R (g ds rfl)⟩
theorem js_forP {pat : Pat} {Pd : List D → Prop} (I : List D → Nat → RhoS → Prop) (hi : JIP X tg iter (fzR ρ) Pd) (hg : PG X tg (pat.g X.K)) (h0 : ∀ ds, Pd ds → I ds 0 ρ)
    (turn : ∀ ds, Pd ds → ∀ k d ρ, ds[k]? = some d → I ds k ρ → ∃ ρ', pat.setS d ρ = some ρ' ∧ JSs X pin body ρ' (turnO (I ds (k + 1)) Φ)) (done : ∀ ds, Pd ds → ∀ ρ, I ds ds.length ρ → Φ (.nx ρ)) (hps : PassesOwn (model X.prog X.w) X.A X.env X.xe) (hp : ∀ i ∈ pat.slots, i ∉ pin := by decide) (hc : X.calm = true := by rfl) (hfs : ∀ x, foldedSetIterable iter X.env x = pure x := by intro _; rfl) :
    JS X pin (.For tg iter body [] pos) ρ Φ := ⟨fun E σ H D hpn ⟨Hf, A, s⟩ k => by
  refine .of (ps_for hps hc pi_w hg pss_w hfs) (hi Hf σ H s.fh s.vis _ fun ds hds Jt W1 H1 st wk => ?_)
  have s1 := s.step st
  have e1 : Ex E.W0 W1 := s1.w0
  have f1 : Fr E.W0 W1 E.H0 := s1.fr
  refine ⟨fun i m σ' H' => m = ds.length - i ∧ i ≤ ds.length ∧ ∃ ρ', I ds i ρ' ∧ StOk X.K { E with W0 := W1 } ρ' σ' H', ⟨_, rfl, Nat.zero_le _, ρ, h0 ds hds, _, _, s1.rebase⟩, ?_⟩
  rintro i m σ2 H2 ⟨rfl, hil, ρ2, hI, Hf2, A2, s2⟩
  by_cases hlt : i < ds.length
  · refine .inr ⟨wk.go i H2 (s2.w0.trans s2.fh) hlt, _, fun σ' H' z => ⟨_, (by omega : ds.length - (i + 1) < ds.length - i), rfl, hlt, z⟩, fun x H3 hy => ?_⟩
    obtain ⟨d, hd⟩ : ∃ d, ds[i]? = some d := ⟨ds[i], by simp [hlt]⟩
    obtain ⟨W3, st3, rx⟩ := wk.yld i H2 x H3 d (s2.w0.trans s2.fh) hd hy Hf2 s2.w0 s2.fh
    obtain ⟨ρ3, hset, hb⟩ := turn ds hds i d ρ2 hd hI
    refine Pat.runS (s2.step st3) rx hset (fun j hj => hpn.none (hp j hj)) fun σ4 A4 s4 => hb { E with W0 := W1 } σ4 H3 _ hpn ⟨W3, A4, s4⟩ fun o ho => ?_
    cases o with
    | nx ρ' => exact fun σ' H' s' => ⟨ρ', ho, s'⟩
    | ct ρ' => exact fun σ' H' s' => ⟨ρ', ho, s'⟩
    | bk ρ' => exact fun σ' H' ⟨Hf', A', s'⟩ => k _ ho σ' H' ⟨Hf', A', s'.base e1 f1⟩
    | rt d ρ' => exact fun v H' s' => k _ ho v H' (s'.base e1 f1)
    | ex er ρ' =>
      obtain ⟨Wx, tk, q⟩ := k _ ho
      exact ⟨Wx, tk, fun d σ' H' H2' ⟨Hf', A', s'⟩ => q d σ' H' H2' ⟨Hf', A', s'.base e1 f1⟩⟩
  · have e : i = ds.length := by omega
    subst e
    exact .inl ⟨wk.stop H2 (s2.w0.trans s2.fh), k _ (done ds hds _ hI) σ2 H2 ⟨Hf2, A2, s2.base e1 f1⟩⟩⟩
theorem js_for {pat : Pat} (I : Nat → RhoS → Prop) (hi : JI X tg iter (fzR ρ) ds) (hg : PG X tg (pat.g X.K)) (h0 : I 0 ρ)
    (turn : ∀ k d ρ, ds[k]? = some d → I k ρ → ∃ ρ', pat.setS d ρ = some ρ' ∧ JSs X pin body ρ' (turnO (I (k + 1)) Φ)) (done : ∀ ρ, I ds.length ρ → Φ (.nx ρ)) (hps : PassesOwn (model X.prog X.w) X.A X.env X.xe) (hp : ∀ i ∈ pat.slots, i ∉ pin := by decide) (hc : X.calm = true := by rfl) (hfs : ∀ x, foldedSetIterable iter X.env x = pure x := by intro _; rfl) :
    JS X pin (.For tg iter body [] pos) ρ Φ :=
  js_forP (fun _ k ρ => I k ρ) (jip_of hi) hg (fun _ _ => h0) (fun es e k d ρ hd => turn k d ρ (e ▸ hd)) (fun es e ρ h => done ρ (e ▸ h)) hps hp hc hfs
/-- a list that a call hands back, walked -/
theorem jip_call {ρ : Rho} {P : D → Prop} {Pd : List D → Prop} (h : JP X iter ρ P) (hP : ∀ d, P d → ∃ ds, d = .lst ds ∧ Pd ds) : JIP X tg iter ρ Pd := ⟨fun W σ H ex hV R g => .of (pi_list pe_w) (h W σ H ex hV _ fun d hd v W1 H1 s1 r1 => by
  obtain ⟨ds, rfl, hds⟩ := hP d hd
  cases r1 with
  | lst h1 k => exact ⟨_, rfl, ⟨_, SqL.of (s1.wh _ _ h1)⟩, g ds hds _ W1 H1 s1 (walks_list h1 k)⟩)⟩
theorem js_while (I : RhoS → Prop) (μ : RhoS → Nat) (h0 : I ρ)
    (turn : ∀ ρ, I ρ → ∃ t, JT X c (allR ρ) t ∧ (t = true → JSs X pin body ρ (turnO (fun ρ' => I ρ' ∧ μ ρ' < μ ρ) Φ)) ∧ (t = false → Φ (.nx ρ))) (hps : PassesOwn (model X.prog X.w) X.A X.env X.xe) :
    JS X pin (.While c body [] pos) ρ Φ := ⟨fun E σ H D hpn s0 k => by
  refine .of (ps_while hps pt_w pss_w) ⟨fun m σ' H' => ∃ ρ', m = μ ρ' ∧ I ρ' ∧ StOk X.K E ρ' σ' H', ⟨_, ρ, rfl, h0, s0⟩, ?_⟩
  rintro m σ2 H2 ⟨ρ2, rfl, hI, Hf2, A2, s2⟩
  obtain ⟨t, ht, h1, h2⟩ := turn ρ2 hI
  refine ht H2 σ2 H2 (.refl _) s2.visH _ fun W' H' st => ?_
  have s3 := s2.grow st.hh
  cases t with
  | false => rw [if_neg Bool.false_ne_true]; exact k _ (h2 rfl) σ2 H' ⟨Hf2, A2, s3⟩
  | true =>
    rw [if_pos rfl]
    refine ⟨_, fun σ' H' z => z, h1 rfl E σ2 H' _ hpn ⟨Hf2, A2, s3⟩ fun o ho => ?_⟩
    cases o with
    | nx ρ' => exact fun σ' H' s' => ⟨μ ρ', ho.2, ρ', rfl, ho.1, s'⟩
    | ct ρ' => exact fun σ' H' s' => ⟨μ ρ', ho.2, ρ', rfl, ho.1, s'⟩
    | bk ρ' => exact fun σ' H' s' => k _ ho σ' H' s'
    | rt d ρ' => exact fun v H' s' => k _ ho v H' s'
    | ex er ρ' => exact k _ ho⟩
end

def startR (N : List Str) (ds : List D) : RhoS := ds.map (fun d => some (.fz d)) ++ List.replicate (N.length - ds.length) none
theorem start_ok {K : PySem.W.Frag} {W H : Hp} {N : List Str} {ds : List D} {vs : List V} (ex : Ex W H) (r : RepAll K W ds vs) : StAt K ⟨W, H, fun _ => False, fun _ => none⟩ (startR N ds) (L2.start N vs) H W (fun _ => []) where
  len := by unfold startR L2.start; simp [r.length]
  w0 := .refl _
  fh := ex
  fr := fun b h1 h2 => absurd h2 h1
  hh := fun b o h _ => h
  kp := fun b h => h
  sl := fun i sv h => by
    unfold startR at h
    by_cases hi : i < ds.length
    · rw [List.getElem?_append_left (by simpa using hi), List.getElem?_map] at h
      cases e : ds[i]? with
      | none => rw [e] at h; cases h
      | some d =>
        rw [e] at h; cases h
        obtain ⟨v, h1, h2⟩ := r.get e
        refine ⟨v, ?_, h2⟩
        unfold L2.start
        rw [List.getElem?_append_left (by rw [List.length_map, ← r.length]; exact hi), List.getElem?_map, h1]
        rfl
    · rw [List.getElem?_append_right (by simpa using hi), List.getElem?_replicate] at h
      split at h <;> cases h
  ap := fun i a h => absurd h (by simp)
  dj := fun i j a h => absurd h (by simp)
  pn := fun i a h => by cases h
section
variable {P : Program} {w : World} {K : PySem.W.Frag} {mg : Str → Option Value} {base : Heap} {x qual : Str} {st : Stmt} {f : Addr} {fd : FuncData} {N ps : List Str} {k : Nat} {G : List D → (D → Prop) → Prop}
/-- the end of a def's body -/
def fin (Pd : D → Prop) : Out → Prop
  | .rt d _ => Pd d
  | .nx _ => Pd .non
  | _ => False
theorem fn_pure (F : Fun K x qual st f fd) (S : FnScope N ps (defScope st)) (hG : ∀ ds Pd, G ds Pd → ds.length = ps.length)
    (body : ∀ (cdv : Value) (A : Around) (outer : List Env) (s : Shared) (H : Hp) (E : XK) (ds : List D) (Pd : D → Prop), Room k (A.deeper (envOfC qual (defScope st) s.heap.objs.size f cdv)) → G ds Pd →
      JSs (cxOf CX0 P w K mg base N qual (defScope st) f cdv A outer s H E).nox [] (defBody st) (startR N ds) (fin Pd)) : FnOk P w K mg base CX0 (k + 1) f fd ps (spP K ps.length G) := by
  refine F.ok S (fun vs H Q E h => h.1) fun cdv A outer s H vs Q E hr h => ?_
  obtain ⟨_, W, ds, Pd, ex, r, hg, q⟩ := h
  refine ⟨_, pss_w, ?_⟩
  refine body cdv A outer s H E ds Pd hr hg ⟨W, H, fun _ => False, fun _ => none⟩ (L2.start N vs) H _ (fun i => ⟨fun z => absurd rfl z, fun z => absurd z (by simp)⟩) ⟨W, _, start_ok ex r⟩ fun o ho => ?_
  cases o with
  | nx ρ => exact fun σ' H' ⟨Hf, A', s'⟩ => q _ ho .non Hf H' ⟨s'.w0, s'.fh, fun b o h => s'.hh b o h (fun z => z), s'.fr⟩ .non
  | rt d ρ => exact fun v H' ⟨σ', Hf, A', W', s', h1, h2, h3, _, h5⟩ => q _ ho v W' H' ⟨s'.w0.trans h1, h2, fun b o h => s'.hh b o h (fun z => z), h3⟩ h5
  | bk ρ => exact ho.elim
  | ct ρ => exact ho.elim
  | ex er ρ => exact ho.elim
end
end Pf

namespace Pf
open PySem PyProof.Rows L2
open Evl (Ex)

section
variable {X : Cx} {pin : List Nat} {e a o : Expr} {es : List Expr} {ρ : Rho} {d : D} {ds : List D} {C : Addr} {fds : List (Str × D)} {pos p apos : Pos} {f m : Str} {k j n i : Nat}
end

section
variable {P : Program} {w : World} {K : PySem.W.Frag} {mg : Str → Option Value} {base : Heap} {x qual : Str} {st : Stmt} {f : Addr} {fd : FuncData} {N ps : List Str} {k : Nat} {G : D → List D → (D → D → Prop) → Prop}
end

structure JM (X : Cx) (pin : List Nat) (e : Expr) (ρ : RhoS) (Ψ : D → RhoS → Prop) : Prop where
  run : ∀ (E : Ent) σ H, E.Pins pin → StOk X.K E ρ σ H → ∀ Q : VK, (∀ r ρ', Ψ r ρ' → ∀ v H' Hf A, StAt X.K E ρ' σ H' Hf A → Rep X.K Hf r v → Q v H') → wE X e σ H Q
instance {X : Cx} {pin : List Nat} {e : Expr} {ρ : RhoS} {Ψ : D → RhoS → Prop} : CoeFun (JM X pin e ρ Ψ) (fun _ => ∀ (E : Ent) σ H, E.Pins pin → StOk X.K E ρ σ H → ∀ Q : VK, (∀ r ρ', Ψ r ρ' → ∀ v H' Hf A, StAt X.K E ρ' σ H' Hf A → Rep X.K Hf r v → Q v H') → wE X e σ H Q) := ⟨JM.run⟩
structure JTM (X : Cx) (pin : List Nat) (e : Expr) (ρ : RhoS) (Ψ : Bool → RhoS → Prop) : Prop where
  run : ∀ (E : Ent) σ H, E.Pins pin → StOk X.K E ρ σ H → ∀ Q : Bool → Hp → Prop, (∀ r ρ', Ψ r ρ' → ∀ H', StOk X.K E ρ' σ H' → Q r H') → wT X e σ H Q
instance {X : Cx} {pin : List Nat} {e : Expr} {ρ : RhoS} {Ψ : Bool → RhoS → Prop} : CoeFun (JTM X pin e ρ Ψ) (fun _ => ∀ (E : Ent) σ H, E.Pins pin → StOk X.K E ρ σ H → ∀ Q : Bool → Hp → Prop, (∀ r ρ', Ψ r ρ' → ∀ H', StOk X.K E ρ' σ H' → Q r H') → wT X e σ H Q) := ⟨JTM.run⟩
section
variable {X : Cx} {pin : List Nat} {e a o c : Expr} {es sa sb : List Expr} {ρ : RhoS} {d : D} {ds : List D} {C : Addr} {fds : List (Str × D)} {pos p p1 p' apos : Pos} {f m x : Str} {k j n i : Nat} {G : D → List D → (D → D → Prop) → Prop} {P : D → D → Prop} {Φ : Out → Prop}
theorem JM.imp {Ψ Ψ' : D → RhoS → Prop} (h : JM X pin e ρ Ψ) (k : ∀ r ρ', Ψ r ρ' → Ψ' r ρ') : JM X pin e ρ Ψ' := ⟨fun E σ H hp s Q g => h E σ H hp s Q fun r ρ' z => g r ρ' (k r ρ' z)⟩
def putD (f : Str) (v : D) : List (Str × D) → List (Str × D)
  | [] => [(f, v)]
  | (g, u) :: r => if g = f then (g, v) :: r else (g, u) :: putD f v r
theorem putD_names {f : Str} {d : D} {v : V} : ∀ {fds : List (Str × D)} {fs : List (Str × V)}, fs.map (·.1) = fds.map (·.1) → (putF f v fs).map (·.1) = (putD f d fds).map (·.1)
  | [], [], _ => rfl
  | [], _ :: _, h => by cases h
  | _ :: _, [], h => by cases h
  | (g, u) :: r, (g', u') :: r', h => by
    simp only [List.map_cons, List.cons.injEq] at h
    obtain ⟨rfl, h⟩ := h
    unfold putF putD
    by_cases e : g' = f
    · rw [if_pos e, if_pos e]; simp [h]
    · rw [if_neg e, if_neg e]; simp only [List.map_cons, putD_names (d := d) (v := v) (f := f) h]
theorem putD_own {K : PySem.W.Frag} {Hf H : Hp} {f : Str} {d : D} {v : V} (r : Rep K Hf d v) (hm : mutD d = false) : ∀ {fds : List (Str × D)} {fs : List (Str × V)} {B : List Addr}, fs.map (·.1) = fds.map (·.1) → OwnFs K Hf H (fds.map (·.2)) (fs.map (·.2)) B → ∃ B', (∀ b ∈ B', b ∈ B) ∧ OwnFs K Hf H ((putD f d fds).map (·.2)) ((putF f v fs).map (·.2)) B'
  | [], [], _, _, _ => ⟨[] ++ [], by simp, .cons (.fz r) .nil (by simp) (by rw [hm]; simp)⟩
  | [], _ :: _, _, h, _ => by cases h
  | _ :: _, [], _, h, _ => by cases h
  | (g, u) :: r0, (g', u') :: r', _, h, hr => by
    simp only [List.map_cons, List.cons.injEq] at h
    obtain ⟨rfl, h⟩ := h
    cases hr with
    | @cons _ _ _ _ A B q t nd w =>
      unfold putF putD
      by_cases e : g' = f
      · rw [if_pos e, if_pos e]
        exact ⟨[] ++ B, fun b hb => List.mem_append_right _ (by simpa using hb), .cons (.fz r) t (by simp) (by rw [hm]; simp)⟩
      · rw [if_neg e, if_neg e]
        obtain ⟨B', h1, h2⟩ := putD_own r hm h t
        exact ⟨A ++ B', fun b hb => by
          rcases List.mem_append.mp hb with z | z
          · exact List.mem_append_left _ z
          · exact List.mem_append_right _ (h1 b z), .cons q h2 (fun a ha hb => nd a ha (h1 a hb)) w⟩
/-- x.f = e: the state behind the value -/
theorem StAt.fld {K : PySem.W.Frag} {E : Ent} {σ : L2.St} {H Hf : Hp} {A : Nat → List Addr} {v y : V} (s : StAt K E ρ σ H Hf A) (hi : ρ[i]? = some (some (.ow (.ins C fds)))) (hσ : σ[i]? = some (some v)) (r : Rep K Hf d y) (hm : mutD d = false) :
    ∃ a dx fs, v = .ref a ∧ H a = some (.ins C dx fs) ∧ fs.length = fds.length ∧ StOk K E (ρ.set i (some (.ow (.ins C (putD f d fds))))) σ (upd H a (.ins C dx (putF f y fs))) := by
  obtain ⟨v', hσ', ow, ne⟩ := s.sl i _ hi
  rw [hσ] at hσ'
  cases hσ'
  generalize hA : A i = Ai at ow ne
  cases ow with
  | fz _ => exact absurd rfl ne
  | @ins a _ dx fs _ B h1 h2 h3 nB =>
    refine ⟨a, dx, fs, rfl, h1, by have := congrArg List.length h2; simpa using this, ?_⟩
    obtain ⟨B', k1, k2⟩ := putD_own (f := f) r hm h2 h3
    refine ⟨Hf, _, s.change (B := a :: B') hi hσ (by rw [hA]; exact List.mem_cons_self) (by simp) (fun b hb => by
      rw [hA]
      rcases List.mem_cons.mp hb with z | z
      · rw [z]; exact List.mem_cons_self
      · exact List.mem_cons_of_mem _ (k1 b z)) (.ins upd_same (putD_names h2) (k2.move (.refl _) fun b hb => upd_ne fun z => nB (by rw [← z]; exact k1 b hb)) fun z => nB (k1 a z))⟩
/-- e is a new object of its own -/
structure JO1 (X : Cx) (e : Expr) (ρ : Rho) (P : D → Prop) : Prop where
  run : ∀ W σ H, Ex W H → Vis X.K ρ W σ → ∀ Q : VK, (∀ (d : D) (a : Addr) (W' H' : Hp) (A' : List Addr), P d → Step W H W' H' → Own X.K W' H' d (.ref a) A' → A' ≠ [] → (∀ b ∈ A', W' b = none ∧ H' b ≠ none ∧ H b = none) → Q (.ref a) H') → wE X e σ H Q
instance {X : Cx} {e : Expr} {ρ : Rho} {P : D → Prop} : CoeFun (JO1 X e ρ P) (fun _ => ∀ W σ H, Ex W H → Vis X.K ρ W σ → ∀ Q : VK, (∀ (d : D) (a : Addr) (W' H' : Hp) (A' : List Addr), P d → Step W H W' H' → Own X.K W' H' d (.ref a) A' → A' ≠ [] → (∀ b ∈ A', W' b = none ∧ H' b ≠ none ∧ H b = none) → Q (.ref a) H') → wE X e σ H Q) := ⟨JO1.run⟩
theorem JO1.imp {P1 P2 : D → Prop} {ρ : Rho} (h : JO1 X e ρ P1) (k : ∀ d, P1 d → P2 d) : JO1 X e ρ P2 := ⟨fun W σ H ex hV Q g => h W σ H ex hV Q fun d a W' H' A' hp => g d a W' H' A' (k d hp)⟩
end
end Pf

namespace Pf
open PySem PyProof.Rows L2
open Evl (Ex)

def OpD (X : Cx) (bo : Operator) (x y z : D) : Prop := ∃ r, OpR X (binaryOp bo) r ∧ R2D X.K r x y z
def CmD (X : Cx) (op : CmpOp) (x y : D) (b : Bool) : Prop := ∃ r, OpR X (compareOp op) r ∧ R2D X.K r x y (.bl b)
section
variable {X : Cx} {a b c e : Expr} {es : List Expr} {ρ : Rho} {x y z d : D} {ds es' : List D} {pos p p2 : Pos} {op op' : CmpOp} {bo : Operator} {t u : Bool} {i j : Int} {s s' : Str}
theorem j_bin (ha : J X a ρ x) (hb : J X b ρ y) (h : OpD X bo x y z) : J X (.BinOp a bo b pos) ρ z := by
  obtain ⟨r, h1, h2⟩ := h
  exact j_op h1 ha hb h2
theorem j_cm (ha : J X a ρ x) (hb : J X b ρ y) (h : CmD X op x y t) (hm : behindInMarks op b = false := by first | exact nobehind _ (by decide) (by decide) | rfl) : J X (.Compare a [op] [b] pos) ρ (.bl t) := by
  obtain ⟨r, h1, h2⟩ := h
  exact j_cmp h1 ha hb h2 hm
theorem jt_cm (ha : J X a ρ x) (hb : J X b ρ y) (h : CmD X op x y t) (hm : behindInMarks op b = false := by first | exact nobehind _ (by decide) (by decide) | rfl) : JT X (.Compare a [op] [b] pos) ρ t := by
  obtain ⟨r, h1, h2⟩ := h
  exact jt_cmp h1 ha hb h2 hm
theorem j_ch (ha : J X a ρ x) (hb : J X b ρ y) (hc : J X c ρ z) (h1 : CmD X op x y t) (h2 : CmD X op' y z u) (hm : lastMarks [op, op'] [b, c] = false := by with_unfolding_all rfl) : J X (.Compare a [op, op'] [b, c] pos) ρ (.bl (t && u)) := by
  obtain ⟨r, k1, k2⟩ := h1
  obtain ⟨r', k1', k2'⟩ := h2
  exact j_chain k1 k1' ha hb (fun _ => hc) k2 (fun _ => k2') hm
theorem jt_ch (ha : J X a ρ x) (hb : J X b ρ y) (hc : J X c ρ z) (h1 : CmD X op x y t) (h2 : CmD X op' y z u) (hm : lastMarks [op, op'] [b, c] = false := by with_unfolding_all rfl) : JT X (.Compare a [op, op'] [b, c] pos) ρ (t && u) := by
  obtain ⟨r, k1, k2⟩ := h1
  obtain ⟨r', k1', k2'⟩ := h2
  exact jt_chain k1 k1' ha hb (fun _ => hc) k2 (fun _ => k2') hm
theorem od_addI : OpD X .Add (.int i) (.int j) (.int (i + j)) := ⟨_, op_add, r2_I0⟩
theorem od_addS (h : s.length + s'.length ≤ sizeLine) : OpD X .Add (.str s) (.str s') (.str (s ++ s')) := ⟨_, op_add_str, r2_addS h⟩
theorem od_subI : OpD X .Sub (.int i) (.int j) (.int (i - j)) := ⟨_, op_sub, r2_I0⟩
theorem od_mulI (h : CMul i j) : OpD X .Mult (.int i) (.int j) (.int (i * j)) := ⟨_, op_mul, r2_I h⟩
theorem od_fdivI (h : CDiv i j) : OpD X .FloorDiv (.int i) (.int j) (.int (i / j)) := ⟨_, op_fdiv, r2_I h⟩
theorem od_modI (h : 0 < j) : OpD X .Mod (.int i) (.int j) (.int (i % j)) := ⟨_, op_mod, r2_I (C := fun _ j => 0 < j) h⟩
theorem od_powI (h : CPow i j) : OpD X .Pow (.int i) (.int j) (.int (i ^ j.toNat)) := ⟨_, op_pow, r2_I (C := CPow) (g := fun i j => i ^ j.toNat) h⟩
theorem cd_ltI : CmD X .Lt (.int i) (.int j) (decide (i < j)) := ⟨_, op_lt, r2_B0⟩
theorem cd_leI : CmD X .LtE (.int i) (.int j) (decide (i ≤ j)) := ⟨_, op_le, r2_B0⟩
theorem cd_gtI : CmD X .Gt (.int i) (.int j) (decide (j < i)) := ⟨_, op_gt, r2_B0 (g := fun i j => decide (j < i))⟩
theorem cd_geI : CmD X .GtE (.int i) (.int j) (decide (j ≤ i)) := ⟨_, op_ge, r2_B0 (g := fun i j => decide (j ≤ i))⟩
theorem cd_eqI : CmD X .Eq (.int i) (.int j) (decide (i = j)) := ⟨_, op_eq, r2_eqI⟩
theorem cd_eqS : CmD X .Eq (.str s) (.str s') (decide (s = s')) := ⟨_, op_eq, r2_eqS⟩
theorem cd_neI : CmD X .NotEq (.int i) (.int j) (!decide (i = j)) := ⟨_, op_ne, r2_neI⟩
theorem cd_neS : CmD X .NotEq (.str s) (.str s') (!decide (s = s')) := ⟨_, op_ne, r2_neS⟩
theorem cd_isN : CmD X .Is d .non (isNon d) := ⟨_, op_isN, r2_isN⟩
theorem cd_inSign {n : Nat} : CmD X .In (.str ⟨#[n]⟩) (.str s) (decide (n ∈ s.cps.toList)) := ⟨_, op_in_sign, r2_inSign⟩
theorem cd_eqD {d e : D} {p q : PyData} (hu : X.A.units + 64 < cLine) (h1 : toPy d = some p) (h2 : toPy e = some q) (s1 : SeqAt.shaped p = true) (s2 : SeqAt.shaped q = true) (hb : PyData.eqv p q = t) : CmD X .Eq d e t := ⟨_, op_eqD hu, r2_eqD h1 h2 s1 s2 hb⟩
theorem cd_neD {d e : D} {p q : PyData} (hu : X.A.units + 64 < cLine) (h1 : toPy d = some p) (h2 : toPy e = some q) (s1 : SeqAt.shaped p = true) (s2 : SeqAt.shaped q = true) (hb : PyData.eqv p q = t) : CmD X .NotEq d e (!t) := ⟨_, op_neD hu, r2_neD h1 h2 s1 s2 hb⟩
def IxD (x y d : D) : Prop := (∃ ds i, x = .lst ds ∧ y = .int i ∧ atI ds i = some d) ∨ (∃ ds i, x = .tup ds ∧ y = .int i ∧ atI ds i = some d) ∨ (∃ (z : Str) (i : Int) (n : Nat), x = .str z ∧ y = .int i ∧ z.length ≤ sizeLine ∧ atI z.cps.toList i = some n ∧ d = .str ⟨#[n]⟩)
theorem j_ix (ha : J X a ρ x) (hb : J X b ρ y) (h : IxD x y d) (hs : PlainIx b := by exact fun _ _ => rfl) : J X (.Subscript a b pos) ρ d := by
  rcases h with ⟨ds, i, rfl, rfl, h⟩ | ⟨ds, i, rfl, rfl, h⟩ | ⟨z, i, n, rfl, rfl, hz, h, rfl⟩
  · exact j_ixL ha hb h hs
  · exact j_ixT ha hb h hs
  · exact j_ixS ha hb hz h hs
theorem ixd_L (h : atI ds i = some d) : IxD (.lst ds) (.int i) d := .inl ⟨ds, i, rfl, rfl, h⟩
theorem ixd_T (h : atI ds i = some d) : IxD (.tup ds) (.int i) d := .inr (.inl ⟨ds, i, rfl, rfl, h⟩)
theorem ixd_I {ns : List Int} (h0 : 0 ≤ i) (h1 : i < ns.length) : IxD (.lst (ns.map D.int)) (.int i) (.int (ns.getD i.toNat 0)) := ixd_L (atI_ints h0 h1)
def SlD (x : D) (o1 o2 : Option Int) (d : D) : Prop := (∃ ds, x = .lst ds ∧ d = .lst (cut ds o1 o2)) ∨ (∃ ds, x = .tup ds ∧ d = .tup (cut ds o1 o2)) ∨ (∃ ns, x = .scr ns ∧ d = .lst ((cut ns o1 o2).map D.int)) ∨ (∃ z : Str, x = .str z ∧ z.length ≤ sizeLine ∧ d = .str (cutS z o1 o2))
theorem j_sl {lo hi : Option Expr} {o1 o2 : Option Int} (ha : J X a ρ x) (h1 : JO X lo ρ o1) (h2 : JO X hi ρ o2) (h : SlD x o1 o2 d) : J X (.Subscript a (.Slice lo hi none p2) pos) ρ d := by
  rcases h with ⟨ds, rfl, rfl⟩ | ⟨ds, rfl, rfl⟩ | ⟨ds, rfl, rfl⟩ | ⟨z, rfl, hz, rfl⟩
  · exact j_slL ha h1 h2
  · exact j_slT ha h1 h2
  · exact j_slScr ha h1 h2
  · exact j_slS ha hz h1 h2
theorem sld_L {o1 o2 : Option Int} : SlD (.lst ds) o1 o2 (.lst (cut ds o1 o2)) := .inl ⟨ds, rfl, rfl⟩
theorem sld_X {ns : List Int} {o1 o2 : Option Int} : SlD (.scr ns) o1 o2 (.lst ((cut ns o1 o2).map D.int)) := .inr (.inr (.inl ⟨ns, rfl, rfl⟩))
end
/-- what the built-ins' names are at the top: none of them is stored -/
structure Bt (mg : Str → Option Value) : Prop where
  len : mg "len" = none
  int : mg "int" = none
  abs : mg "abs" = none
  range : mg "range" = none
  tuple : mg "tuple" = none
  list : mg "list" = none
  sorted : mg "sorted" = none
  set : mg "set" = none
  isinstance : mg "isinstance" = none
  bool : mg "bool" = none
  min : mg "min" = none
  max : mg "max" = none
  sum : mg "sum" = none
  all : mg "all" = none
  any : mg "any" = none
  str : mg "str" = none
  zip : mg "zip" = none
  enumerate : mg "enumerate" = none
section
variable {X : Cx} {e : Expr} {es : List Expr} {ρ : Rho} {d : D} {ds : List D} {pos p : Pos} {i j : Int} {n : Nat} (T : Bt X.mg)
include T
theorem jb_len (ha : JA X [e] ρ [d]) (h : lenD d = some n) (hg : Gl X "len" := by rfl) (he : starEach [e] X.env = (false, eval e X.env) :: starEach [] X.env := by rfl) (hpl : (backTo pos (starEach [] X.env)).any (·.1) = false := by rfl) : J X (.Call (.Name "len" p) [e] [] pos) ρ (.int n) := j_cb call_len T.len PySem.boot_len ha (rc_len h) hg (by decide) (by decide) he hpl
theorem jb_int (ha : JA X [e] ρ [.int i]) (hg : Gl X "int" := by rfl) (he : starEach [e] X.env = (false, eval e X.env) :: starEach [] X.env := by rfl) (hpl : (backTo pos (starEach [] X.env)).any (·.1) = false := by rfl) : J X (.Call (.Name "int" p) [e] [] pos) ρ (.int i) := j_ct call_int1 T.int (by decide +kernel) ha rc_int hg (by decide) (by decide) he hpl
theorem jb_abs (ha : JA X [e] ρ [.int i]) (hg : Gl X "abs" := by rfl) (he : starEach [e] X.env = (false, eval e X.env) :: starEach [] X.env := by rfl) (hpl : (backTo pos (starEach [] X.env)).any (·.1) = false := by rfl) : J X (.Call (.Name "abs" p) [e] [] pos) ρ (.int (if i < 0 then -i else i)) := j_cb call_abs T.abs (by decide +kernel) ha rc_abs hg (by decide) (by decide) he hpl
theorem jb_str (ha : JA X [e] ρ [.int i]) (h : i.natAbs.log2 < 1920) (hg : Gl X "str" := by rfl) (he : starEach [e] X.env = (false, eval e X.env) :: starEach [] X.env := by rfl) (hpl : (backTo pos (starEach [] X.env)).any (·.1) = false := by rfl) : J X (.Call (.Name "str" p) [e] [] pos) ρ (.str (toString i)) := j_ct call_str_int T.str (by decide +kernel) ha (rc_strI h) hg (by decide) (by decide) he hpl
theorem jb_sum {ns : List Int} (ha : JA X [e] ρ [.lst (ns.map D.int)]) (hc : X.calm = true := by rfl) (hg : Gl X "sum" := by rfl) (he : starEach [e] X.env = (false, eval e X.env) :: starEach [] X.env := by rfl) (hpl : (backTo pos (starEach [] X.env)).any (·.1) = false := by rfl) : J X (.Call (.Name "sum" p) [e] [] pos) ρ (.int ns.sum) := j_cb (cr_sum hc) T.sum (by decide +kernel) ha rc_sum hg (by decide) (by decide) he hpl
theorem jb_all {bs : List Bool} (ha : JA X [e] ρ [.lst (bs.map D.bl)]) (hc : X.calm = true := by rfl) (hg : Gl X "all" := by rfl) (he : starEach [e] X.env = (false, eval e X.env) :: starEach [] X.env := by rfl) (hpl : (backTo pos (starEach [] X.env)).any (·.1) = false := by rfl) : J X (.Call (.Name "all" p) [e] [] pos) ρ (.bl (bs.all id)) := j_cb (cr_all hc) T.all (by decide +kernel) ha rc_all hg (by decide) (by decide) he hpl
theorem jb_max2 {e2 : Expr} (ha : JA X [e, e2] ρ [.int i, .int j]) (hc : X.calm = true := by rfl) (hg : Gl X "max" := by rfl) (he : starEach [e, e2] X.env = (false, eval e X.env) :: starEach [e2] X.env := by rfl) (hpl : (backTo pos (starEach [e2] X.env)).any (·.1) = false := by rfl) : J X (.Call (.Name "max" p) [e, e2] [] pos) ρ (.int (if j > i then j else i)) := j_cb (call_max2 hc) T.max (by decide +kernel) ha rc_max2 hg (by decide) (by decide) he hpl
theorem jb_isi {e2 : Expr} {Ty : String} {t : Value} {b : Bool} (ha : JA X [e, e2] ρ [d, .ty Ty]) (h : tyD d = some t) (hk : PySem.W.kitOne X.K t (.type Ty) = some b) (hg : Gl X "isinstance" := by rfl) (he : starEach [e, e2] X.env = (false, eval e X.env) :: starEach [e2] X.env := by rfl) (hpl : (backTo pos (starEach [e2] X.env)).any (·.1) = false := by rfl) : J X (.Call (.Name "isinstance" p) [e, e2] [] pos) ρ (.bl b) := j_cb call_isi T.isinstance (by decide +kernel) ha (rc_isi h hk) hg (by decide) (by decide) he hpl
end
end Pf

namespace Pf
open PySem PyProof.Rows L2
open Evl (Ex)
section
variable {X : Cx} {pin : List Nat} {st : Stmt} {rest body : List Stmt} {ρ : Rho} {σ : RhoS} {Φ : Out → Prop} {e iter tg : Expr} {d : D} {ds : List D} {pos : Pos} {n : Str}
theorem jv (i : Nat) (hr : ρ[i]? = some (some d)) (hN : X.N[i]? = some n := by rfl) (hv : L2.Vis X.env.scope n := by first | exact Or.inl rfl | exact Or.inr (Or.inl rfl) | exact Or.inr (Or.inr rfl)) (hd : (n == ("__debug__" : Str)) = false := by decide) (hcd : (n == ("__classdict__" : Str)) = false := by decide) : J X (.Name n pos) ρ d := j_var hr hN hv hd hcd
theorem jss_mid (Ψ : RhoS → Prop) (h : JS X pin st σ (fun o => ∃ ρ', o = .nx ρ' ∧ Ψ ρ')) (k : ∀ ρ', Ψ ρ' → JSs X pin rest ρ' Φ) : JSs X pin (st :: rest) σ Φ := jss_cons (h.imp fun o ⟨ρ', e, h⟩ => by subst e; exact k ρ' h)
theorem rangeD_get {lo : Int} {n k : Nat} (h : (rangeD lo n)[k]? = some d) : d = .int (lo + k) ∧ k < n := by
  unfold rangeD at h
  rw [List.getElem?_map] at h
  cases e : (List.range n)[k]? with
  | none => rw [e] at h; cases h
  | some m =>
    rw [e] at h
    obtain ⟨hk, e'⟩ := List.getElem?_eq_some_iff.mp e
    rw [List.getElem_range] at e'
    subst e'
    cases h
    rw [List.length_range] at hk
    exact ⟨rfl, hk⟩
theorem rangeD_length {lo : Int} {n : Nat} : (rangeD lo n).length = n := by unfold rangeD; rw [List.length_map, List.length_range]
theorem map_get {α : Type} {f : α → D} {xs : List α} {k : Nat} (h : (xs.map f)[k]? = some d) : ∃ x, xs[k]? = some x ∧ d = f x := by
  rw [List.getElem?_map] at h
  cases e : xs[k]? with
  | none => rw [e] at h; cases h
  | some x => rw [e] at h; cases h; exact ⟨x, rfl, rfl⟩
/-- for k in range(..) -/
theorem js_range {i : Nat} {p : Pos} {a : Expr} (m : Nat) (I : Nat → RhoS → Prop) (T : Bt X.mg) (ha : J X a (fzR σ) (.int (m : Int))) (hm : m < 2 ^ 62) (nd : X.N.Nodup) (h0 : I 0 σ) (turn : ∀ (k : Nat) σ, k < m → I k σ → JSs X pin body (σ.set i (some (.fz (.int (k : Int))))) (turnO (I (k + 1)) Φ)) (done : ∀ σ, I m σ → Φ (.nx σ))
    (hi : X.N[i]? = some n := by rfl) (hx : Loc X.env.scope n := by first | exact Or.inl rfl | exact Or.inr rfl) (hf : X.fn n = true ∨ X.env.scope.names.lookup n = some .local := by first | exact .inl rfl | exact .inr rfl) (hp : i ∉ pin := by decide) (hps : PassesOwn (model X.prog X.w) X.A X.env X.xe := by first | exact PassesOwn.never | assumption)
    (hg : Gl X "range" := by rfl) (hs : starEach [a] X.env = [(false, eval a X.env)] := by rfl) (hc : X.calm = true := by rfl) (hfs : ∀ x, foldedSetIterable (.Call (.Name "range" p) [a] [] pos) X.env x = pure x := by intro _; rfl) {q pos' : Pos} :
    JS X pin (.For (.Name n q) (.Call (.Name "range" p) [a] [] pos) body [] pos') σ Φ := by
  have hj : JI X (.Name n q) (.Call (.Name "range" p) [a] [] pos) (fzR σ) (rangeD 0 m) := by
    have := ji_range1 (X := X) (tg := .Name n q) (p := p) (pos := pos) T.range ha (by omega) (by omega) hg hs
    rwa [Int.toNat_natCast] at this
  refine js_for (pat := .nm i) I hj (pg_name nd hi hx hf) h0 (fun k d σ hd hI => ?_) (fun σ h => done σ (by rw [rangeD_length] at h; exact h)) hps (fun j hj => (List.mem_singleton.mp hj : j = i) ▸ hp) hc hfs
  obtain ⟨rfl, hk⟩ := rangeD_get hd
  refine ⟨_, rfl, ?_⟩
  rw [Int.zero_add]
  exact turn k σ hk hI
/-- for x in a list or tuple of a kind -/
theorem js_each {α : Type} {i : Nat} (xs : List α) (g : α → D) (I : Nat → RhoS → Prop) (hj : JI X (.Name n pos) iter (fzR σ) (xs.map g)) (nd : X.N.Nodup) (h0 : I 0 σ) (turn : ∀ (k : Nat) x σ, xs[k]? = some x → I k σ → JSs X pin body (σ.set i (some (.fz (g x)))) (turnO (I (k + 1)) Φ)) (done : ∀ σ, I xs.length σ → Φ (.nx σ))
    (hi : X.N[i]? = some n := by rfl) (hx : Loc X.env.scope n := by first | exact Or.inl rfl | exact Or.inr rfl) (hf : X.fn n = true ∨ X.env.scope.names.lookup n = some .local := by first | exact .inl rfl | exact .inr rfl) (hp : i ∉ pin := by decide) (hps : PassesOwn (model X.prog X.w) X.A X.env X.xe := by first | exact PassesOwn.never | assumption)
    (hc : X.calm = true := by rfl) (hfs : ∀ x, foldedSetIterable iter X.env x = pure x := by intro _; rfl) {pos' : Pos} :
    JS X pin (.For (.Name n pos) iter body [] pos') σ Φ := by
  refine js_for (pat := .nm i) I hj (pg_name nd hi hx hf) h0 (fun k d σ hd hI => ?_) (fun σ h => done σ (by rw [List.length_map] at h; exact h)) hps (fun j hj => (List.mem_singleton.mp hj : j = i) ▸ hp) hc hfs
  obtain ⟨x, hx, rfl⟩ := map_get hd
  exact ⟨_, rfl, turn k x σ hx hI⟩
end
theorem cmulL {i j : Int} (h1 : -(2 ^ 64) < i := by decide) (h2 : i < 2 ^ 64 := by decide) : CMul i j := .inl ⟨h1, h2⟩
theorem cmulR {i j : Int} (h1 : -(2 ^ 64) < j := by decide) (h2 : j < 2 ^ 64 := by decide) : CMul i j := .inr ⟨h1, h2⟩
end Pf

namespace Pf
open PySem PyProof.Rows L2
open Evl (Ex)
mutual
def fitD : Nat → D → Bool
  | _, .non => true
  | _, .bl _ => true
  | _, .int _ => true
  | _, .str x => PySem.PyData.strOk x
  | n + 1, .lst xs => fitAllD n xs
  | n + 1, .tup xs => fitAllD n xs
  | _, _ => false
def fitAllD : Nat → List D → Bool
  | _, [] => true
  | n, x :: xs => fitD n x && fitAllD n xs
end
mutual
def eqvD : D → D → Bool
  | .non, .non => true
  | .bl a, .bl b => a == b
  | .bl a, .int b => (if a then 1 else 0) == b
  | .int a, .bl b => a == (if b then 1 else 0)
  | .int a, .int b => a == b
  | .str a, .str b => a == b
  | .lst xs, .lst ys => eqvAllD xs ys
  | .tup xs, .tup ys => eqvAllD xs ys
  | _, _ => false
def eqvAllD : List D → List D → Bool
  | [], [] => true
  | x :: xs, y :: ys => eqvD x y && eqvAllD xs ys
  | _, _ => false
end
mutual
theorem fit_py : ∀ (n : Nat) (d : D), fitD n d = true → ∃ p, toPy d = some p ∧ p.canLay0 = true ∧ p.depth ≤ n
  | _, .non, _ => ⟨.none, by simp [toPy], by simp [PyData.canLay0], by simp [PyData.depth]⟩
  | _, .bl b, _ => ⟨.bool b, by simp [toPy], by simp [PyData.canLay0], by simp [PyData.depth]⟩
  | _, .int b, _ => ⟨.int b, by simp [toPy], by simp [PyData.canLay0], by simp [PyData.depth]⟩
  | _, .str x, h => ⟨.str x, by simp [toPy], by simpa [PyData.canLay0, fitD] using h, by simp [PyData.depth]⟩
  | n + 1, .lst xs, h => by
    obtain ⟨ps, h1, h2, h3⟩ := fitAll_py n xs (by simpa [fitD] using h)
    exact ⟨.list ps, by simp [toPy, h1], by simpa [PyData.canLay0] using h2, by simp [PyData.depth]; omega⟩
  | n + 1, .tup xs, h => by
    obtain ⟨ps, h1, h2, h3⟩ := fitAll_py n xs (by simpa [fitD] using h)
    exact ⟨.tuple ps, by simp [toPy, h1], by simpa [PyData.canLay0] using h2, by simp [PyData.depth]; omega⟩
  | 0, .lst xs, h => by simp [fitD] at h
  | 0, .tup xs, h => by simp [fitD] at h
  | _, .dct _, h => by simp [fitD] at h
  | _, .ins _ _, h => by simp [fitD] at h
  | _, .scr _, h => by simp [fitD] at h
  | _, .ty _, h => by simp [fitD] at h
theorem fitAll_py : ∀ (n : Nat) (ds : List D), fitAllD n ds = true → ∃ ps, toPys ds = some ps ∧ PyData.canLayAll0 ps = true ∧ PyData.depthAll ps ≤ n
  | _, [], _ => ⟨[], by simp [toPys], by simp [PyData.canLayAll0], by simp [PyData.depthAll]⟩
  | n, x :: xs, h => by
    have h' : fitD n x = true ∧ fitAllD n xs = true := by simpa [fitAllD] using h
    obtain ⟨p, h1, h2, h3⟩ := fit_py n x h'.1
    obtain ⟨ps, k1, k2, k3⟩ := fitAll_py n xs h'.2
    exact ⟨p :: ps, by simp [toPys, h1, k1], by simp [PyData.canLayAll0, h2, k2], by simp [PyData.depthAll]; omega⟩
end
mutual
theorem eqv_py : ∀ (n : Nat) (d e : D) (p q : PyData), fitD n d = true → fitD n e = true → toPy d = some p → toPy e = some q → PyData.eqv p q = eqvD d e := by
  intro n d e p q h1 h2 h3 h4
  cases d <;> simp only [toPy, Option.some.injEq, Option.map_eq_some_iff, reduceCtorEq] at h3 <;>
    cases e <;> simp only [toPy, Option.some.injEq, Option.map_eq_some_iff, reduceCtorEq] at h4 <;>
    first
    | (subst h3; subst h4; simp [PyData.eqv, eqvD]; done)
    | (obtain ⟨ps, h3, rfl⟩ := h3; subst h4; simp [PyData.eqv, eqvD]; done)
    | (obtain ⟨ps, h4, rfl⟩ := h4; subst h3; simp [PyData.eqv, eqvD]; done)
    | (obtain ⟨ps, h3, rfl⟩ := h3
       obtain ⟨qs, h4, rfl⟩ := h4
       first
       | (simp [PyData.eqv, eqvD]; done)
       | (simp only [PyData.eqv, eqvD]
          cases n with
          | zero => simp [fitD] at h1
          | succ n => exact eqvAll_py n _ _ ps qs (by simpa [fitD] using h1) (by simpa [fitD] using h2) h3 h4))
theorem eqvAll_py : ∀ (n : Nat) (ds es : List D) (ps qs : List PyData), fitAllD n ds = true → fitAllD n es = true → toPys ds = some ps → toPys es = some qs → PyData.eqvAll ps qs = eqvAllD ds es
  | n, [], [], ps, qs, _, _, h3, h4 => by simp [toPys] at h3 h4; subst h3; subst h4; simp [PyData.eqvAll, eqvAllD]
  | n, [], e :: es, ps, qs, _, h2, h3, h4 => by
    have h' : fitD n e = true ∧ fitAllD n es = true := by simpa [fitAllD] using h2
    obtain ⟨q, k1, _, _⟩ := fit_py n e h'.1
    obtain ⟨qs', k2, _, _⟩ := fitAll_py n es h'.2
    simp [toPys] at h3; subst h3
    simp [toPys, k1, k2] at h4; subst h4
    simp [PyData.eqvAll, eqvAllD]
  | n, e :: es, [], ps, qs, h2, _, h4, h3 => by
    have h' : fitD n e = true ∧ fitAllD n es = true := by simpa [fitAllD] using h2
    obtain ⟨q, k1, _, _⟩ := fit_py n e h'.1
    obtain ⟨qs', k2, _, _⟩ := fitAll_py n es h'.2
    simp [toPys] at h3; subst h3
    simp [toPys, k1, k2] at h4; subst h4
    simp [PyData.eqvAll, eqvAllD]
  | n, d :: ds, e :: es, ps, qs, h1, h2, h3, h4 => by
    have h1' : fitD n d = true ∧ fitAllD n ds = true := by simpa [fitAllD] using h1
    have h2' : fitD n e = true ∧ fitAllD n es = true := by simpa [fitAllD] using h2
    obtain ⟨p, k1, _, _⟩ := fit_py n d h1'.1
    obtain ⟨ps', k2, _, _⟩ := fitAll_py n ds h1'.2
    obtain ⟨q, l1, _, _⟩ := fit_py n e h2'.1
    obtain ⟨qs', l2, _, _⟩ := fitAll_py n es h2'.2
    simp [toPys, k1, k2] at h3; subst h3
    simp [toPys, l1, l2] at h4; subst h4
    simp only [PyData.eqvAll, eqvAllD, eqv_py n d e p q h1'.1 h2'.1 k1 l1, eqvAll_py n ds es ps' qs' h1'.2 h2'.2 k2 l2]
end
theorem shaped_of {p : PyData} {n : Nat} (h1 : p.canLay0 = true) (h2 : p.depth ≤ n) (hn : n ≤ 60) : SeqAt.shaped p = true := by
  unfold SeqAt.shaped
  rw [h1, Bool.true_and]
  exact decide_eq_true (by omega)
section
variable {X : Cx} {d e : D} {n : Nat}
theorem cd_eqF (n : Nat) (hu : X.A.units + 64 < cLine) (h1 : fitD n d = true) (h2 : fitD n e = true) (hn : n ≤ 60 := by decide) : CmD X .Eq d e (eqvD d e) := by
  obtain ⟨p, a1, a2, a3⟩ := fit_py n d h1
  obtain ⟨q, b1, b2, b3⟩ := fit_py n e h2
  exact cd_eqD hu a1 b1 (shaped_of a2 a3 hn) (shaped_of b2 b3 hn) (eqv_py n d e p q h1 h2 a1 b1)
theorem cd_neF (n : Nat) (hu : X.A.units + 64 < cLine) (h1 : fitD n d = true) (h2 : fitD n e = true) (hn : n ≤ 60 := by decide) : CmD X .NotEq d e (!eqvD d e) := by
  obtain ⟨p, a1, a2, a3⟩ := fit_py n d h1
  obtain ⟨q, b1, b2, b3⟩ := fit_py n e h2
  exact cd_neD hu a1 b1 (shaped_of a2 a3 hn) (shaped_of b2 b3 hn) (eqv_py n d e p q h1 h2 a1 b1)
end
mutual
theorem eqvD_refl : ∀ (n : Nat) (d : D), fitD n d = true → eqvD d d = true
  | _, .non, _ => by simp [eqvD]
  | _, .bl b, _ => by simp [eqvD]
  | _, .int b, _ => by simp [eqvD]
  | _, .str x, h => by simp [eqvD]
  | n + 1, .lst xs, h => by simp only [eqvD]; exact eqvAllD_refl n xs (by simpa [fitD] using h)
  | n + 1, .tup xs, h => by simp only [eqvD]; exact eqvAllD_refl n xs (by simpa [fitD] using h)
  | 0, .lst xs, h => by simp [fitD] at h
  | 0, .tup xs, h => by simp [fitD] at h
  | _, .dct _, h => by simp [fitD] at h
  | _, .ins _ _, h => by simp [fitD] at h
  | _, .scr _, h => by simp [fitD] at h
  | _, .ty _, h => by simp [fitD] at h
theorem eqvAllD_refl : ∀ (n : Nat) (ds : List D), fitAllD n ds = true → eqvAllD ds ds = true
  | _, [], _ => by simp [eqvAllD]
  | n, x :: xs, h => by
    have h' : fitD n x = true ∧ fitAllD n xs = true := by simpa [fitAllD] using h
    simp [eqvAllD, eqvD_refl n x h'.1, eqvAllD_refl n xs h'.2]
end
end Pf

namespace Pf
open PySem PyProof.Rows L2
open Evl (Ex)
theorem atI_mem {α : Type} {L : List α} {i : Int} (h0 : 0 ≤ i) (h1 : i < L.length) : ∃ d, atI L i = some d ∧ d ∈ L := by
  have h2 : i.toNat < L.length := by omega
  refine ⟨L[i.toNat], ?_, List.getElem_mem _⟩
  unfold atI ixN
  rw [if_pos h0, if_pos h1]
  show L[i.toNat]? = _
  rw [List.getElem?_eq_getElem h2]
theorem atI_map {α : Type} (f : α → D) (x0 : α) {L : List α} {i : Int} (h0 : 0 ≤ i) (h1 : i < L.length) : atI (L.map f) i = some (f (L.getD i.toNat x0)) := by
  have h2 : i.toNat < L.length := by omega
  unfold atI ixN
  rw [List.length_map, if_pos h0, if_pos h1]
  show (L.map f)[i.toNat]? = _
  rw [List.getElem?_map, List.getElem?_eq_getElem h2, List.getD_eq_getElem?_getD, List.getElem?_eq_getElem h2]
  rfl
theorem cut_len {α : Type} (xs : List α) (a b : Option Int) : (cut xs a b).length ≤ xs.length := by
  unfold cut
  rw [List.length_take, List.length_drop]
  omega
section
variable {X : Cx} {elt tg iter : Expr} {ifs : List Expr} {scope : Scope} {own : List (Str × Nat)} {pos : Pos} {ρ : Rho}
/-- a comprehension without a test -/
theorem j_lcM {α : Type} {i : Nat} (xs : List α) (g : α → D) (h : α → D) (hi : JI X tg iter ρ (xs.map g)) (ok : BlkOk X.N X.env.scope scope own) (hg : ∀ s H C cl fp, PG (blkX X scope s H C cl fp) tg (gName i)) (hlen : xs.length < sizeLine)
    (turn : ∀ x ∈ xs, ∀ s H C cl fp, J (blkX X scope s H C cl fp) elt ((wipeR ρ (own.map (·.2))).set i (some (g x))) (h x)) (hN : X.N.Nodup) (hown : i ∈ own.map (·.2) := by decide) (hc : X.calm = true := by rfl) (hs : ∀ x, foldedSetIterable iter X.env x = pure x := by intro _; rfl) :
    J X (.ListComp elt [⟨tg, iter, [], 0⟩] scope pos) ρ (.lst (xs.map h)) := by
  have := j_lcN (X := X) (elt := elt) (tg := tg) (iter := iter) (ifs := []) (scope := scope) (own := own) (pos := pos) (ρ := ρ) (i := i) xs g (fun _ => true) h hi ok hg hlen (fun x hx s H C cl fp => ⟨jts_nil, fun _ => turn x hx s H C cl fp⟩) hN hown hc hs
  rwa [List.filter_eq_self.mpr (fun _ _ => rfl)] at this
end
section
variable {X : Cx} {a b c : Expr} {rest : List Expr} {ρ : Rho} {pos : Pos} {d1 d2 : D}
theorem jw_orT (h : JT X a ρ true) : JW X (.BoolOp .Or (a :: b :: rest) pos) ρ true := jw_or (u := true) h (fun z => Bool.noConfusion z)
theorem jw_andF (h : JT X a ρ false) : JW X (.BoolOp .And (a :: b :: rest) pos) ρ false := jw_and (u := true) h (fun z => Bool.noConfusion z)
theorem j_orTr (h : J X a ρ (.bl true)) : J X (.BoolOp .Or (a :: b :: rest) pos) ρ (.bl true) := j_or (u := true) h (fun z => Bool.noConfusion z)
end
theorem ji_rangeN {X : Cx} {tg a : Expr} {ρ : Rho} {i : Int} {p pos : Pos} (n : Nat) (T : Bt X.mg) (h : J X a ρ (.int i)) (hn : i.toNat = n) (h1 : -(2 ^ 62) ≤ i) (h2 : i < 2 ^ 62) (hg : Gl X "range" := by rfl) (hs : starEach [a] X.env = [(false, eval a X.env)] := by rfl) :
    JI X tg (.Call (.Name "range" p) [a] [] pos) ρ ((List.range n).map fun k => D.int (0 + (k : Nat))) := by
  have := ji_range1 (X := X) (tg := tg) (p := p) (pos := pos) T.range h h1 h2 hg hs
  rw [hn] at this
  exact this
theorem atI_mapN {α : Type} (f : α → D) (x0 : α) {L : List α} {i : Int} (n : Nat) (h0 : i = (n : Int)) (h1 : n < L.length) : atI (L.map f) i = some (f (L.getD n x0)) := by
  subst h0
  have := atI_map f x0 (L := L) (i := (n : Int)) (by omega) (by omega)
  rwa [Int.toNat_natCast] at this
end Pf

namespace Pf
open PySem L2
open Evl (Ex)
section
variable {K : PySem.W.Frag} {Hf H : Hp}
end
section
variable {K : PySem.W.Frag} {E : Ent} {ρ : RhoS} {σ : L2.St} {H Hf : Hp} {A : Nat → List Addr} {i : Nat} {C : Addr} {fds : List (Str × D)} {f : Str} {d : D}
end
end Pf

namespace Pf
open PySem L2
open Evl (Ex)
def getD (kds : List (Key × D)) (k : Key) : Option D := (kds.find? fun kv => decide (kv.1 = k)).map (·.2)
def hasD (kds : List (Key × D)) (k : Key) : Bool := kds.any fun kv => decide (kv.1 = k)
def setD (kds : List (Key × D)) (k : Key) (d : D) : List (Key × D) := if hasD kds k = true then kds.map (fun kv => if kv.1 = k then (kv.1, d) else kv) else kds ++ [(k, d)]
section
variable {K : PySem.W.Frag} {Hf H : Hp}
end
section
variable {X : Cx} {pin : List Nat} {ρ : RhoS} {Φ : Out → Prop} {e ke : Expr} {d : D} {pos p' p1 p2 p3 : Pos} {i : Nat} {x f : Str} {C : Addr} {fds : List (Str × D)}
end
section
variable {K : PySem.W.Frag} {E : Ent} {ρ : RhoS} {σ : L2.St} {H Hf : Hp} {A : Nat → List Addr} {i : Nat} {C : Addr} {fds : List (Str × D)} {f : Str} {d : D} {kds : List (Key × D)}
end
section
variable {X : Cx} {pin : List Nat} {ρ : RhoS} {Φ : Out → Prop} {e ke : Expr} {d : D} {pos p' p1 p2 p3 : Pos} {i : Nat} {x f : Str} {C : Addr} {fds : List (Str × D)} {kds : List (Key × D)} {z : Str}
end
end Pf

namespace Pf
open PySem L2
open Evl (Ex)
theorem DpAll.len {K : PySem.W.Frag} {H : Hp} : ∀ {xs : List V} {ps : List PyData}, DpAll K H xs ps → xs.length = ps.length
  | _, _, .nil => rfl
  | _, _, .cons _ t => congrArg (· + 1) (DpAll.len t)
end Pf

namespace Pf
open PySem L2
open Evl (Ex)
section
variable {X : Cx} {elt : Expr} {elts : List Expr} {scope : Scope} {own : List (Str × Nat)} {pos tpos apos cpos p1 p2 : Pos} {kk : Nat} {ρ : Rho} {its : List (D × Option D)} {is : List Nat} {x f : Str} {i : Nat} {C : Addr} {fds : List (Str × D)} {kds : List (Key × D)}
end
end Pf

namespace Pf
open PySem L2
open Evl (Ex)
def dcD (its : List (D × (Str × D))) : List (Key × D) := its.foldl (fun kds q => setD kds (.inr q.2.1) q.2.2) []
theorem setD_in {kds : List (Key × D)} {k : Key} {d x : D} (h : x ∈ (setD kds k d).map (·.2)) : x = d ∨ x ∈ kds.map (·.2) := by
  unfold setD at h
  split at h
  · obtain ⟨kv, h1, h2⟩ := List.mem_map.mp h
    obtain ⟨kw, h3, h4⟩ := List.mem_map.mp h1
    by_cases c : kw.1 = k
    · rw [if_pos c] at h4; rw [← h4] at h2; exact .inl h2.symm
    · rw [if_neg c] at h4; rw [← h4] at h2; exact .inr (List.mem_map.mpr ⟨kw, h3, h2⟩)
  · rw [List.map_append] at h
    rcases List.mem_append.mp h with z | z
    · exact .inr z
    · exact .inl (by simpa using z)
theorem dcD_in {x : D} : ∀ (its : List (D × (Str × D))) (kds : List (Key × D)), x ∈ (its.foldl (fun kds q => setD kds (.inr q.2.1) q.2.2) kds).map (·.2) → x ∈ kds.map (·.2) ∨ ∃ q ∈ its, x = q.2.2
  | [], _, h => .inl h
  | q :: its, kds, h => by
    rcases dcD_in its _ h with z | ⟨r, hr, e⟩
    · rcases setD_in z with y | y
      · exact .inr ⟨q, by simp, y⟩
      · exact .inl y
    · exact .inr ⟨r, by simp [hr], e⟩
theorem NoM.dm {α : Type} {f : α → D × (Str × D)} {xs : List α} (h : ∀ x, insM (f x).2.2 = false) : NoM ((dcD (xs.map f)).map (·.2)) := fun d hd => by
  rcases dcD_in _ _ hd with z | ⟨q, hq, e⟩
  · cases z
  · obtain ⟨x, _, rfl⟩ := List.mem_map.mp hq
    rw [e]; exact h x
theorem NoM.dn {α : Type} {f : α → Key × D} {xs : List α} (h : ∀ x, insM (f x).2 = false) : NoM ((xs.map f).map (·.2)) := fun d hd => by
  obtain ⟨q, hq, rfl⟩ := List.mem_map.mp hd
  obtain ⟨x, _, rfl⟩ := List.mem_map.mp hq
  exact h x
section
variable {X : Cx} {kx vx tg iter : Expr} {scope : Scope} {own : List (Str × Nat)} {pos : Pos} {ρ : Rho} {its : List (D × (Str × D))} {pat : Pat}
end
section
variable {X : Cx} {pin : List Nat} {ρ : RhoS} {Φ : Out → Prop} {e ke o : Expr} {d : D} {pos p' p1 p2 p3 : Pos} {i j : Nat} {x y f : Str} {C : Addr} {fds : List (Str × D)} {kds : List (Key × D)} {z : Str}
end
end Pf

namespace Pf
open PySem L2
open Evl (Ex)
theorem RepAll.any {K : PySem.W.Frag} {H H' : Hp} : ∀ {ds : List D} {vs : List V}, RepAll K H ds vs → ds.all flatD = true → RepAll K H' ds vs
  | _, _, .nil, _ => .nil
  | _, _, .cons r t, h => by
    rw [List.all_cons, Bool.and_eq_true] at h
    exact .cons (r.any h.1) (RepAll.any t h.2)
section
variable {X : Cx} {elt : Expr} {elts : List Expr} {scope : Scope} {own : List (Str × Nat)} {pos tpos apos cpos p1 p2 : Pos} {kk : Nat} {ρ : Rho} {its : List (D × Option D)} {pat : Pat} {x f : Str} {i : Nat} {C : Addr} {fds : List (Str × D)} {kds : List (Key × D)}
end
section
variable {X : Cx} {pin : List Nat} {ρ : RhoS} {Φ : Out → Prop} {es : List Expr} {ds ts : List D} {pos tpos p1 p2 p3 : Pos} {kk : Nat} {i : Nat} {x : Str}
end
def stillD : D → Bool
  | .lst _ => false
  | .dct _ => false
  | .ins _ _ => false
  | _ => true
theorem OwnAll.still {K : PySem.W.Frag} {Hf H : Hp} : ∀ {ds : List D} {vs : List V} {A : List Addr}, OwnAll K Hf H ds vs A → (∀ d ∈ ds, stillD d = true) → RepAll K Hf ds vs
  | _, _, _, .nil, _ => .nil
  | _, _, _, .cons q t _ _, h => .cons (by
      cases q with
      | fz r => exact r
      | lst _ _ _ => have := h _ List.mem_cons_self; cases this
      | dct _ _ _ _ => have := h _ List.mem_cons_self; cases this
      | ins _ _ _ _ => have := h _ List.mem_cons_self; cases this) (OwnAll.still t fun d hd => h d (List.mem_cons_of_mem _ hd))
section
variable {X : Cx} {pin : List Nat} {ρ : RhoS} {Φ : Out → Prop} {pos p' : Pos} {i j : Nat} {x : Str}
end
end Pf

namespace Pf
open PySem L2 PySem.Spec PyProof.Rows
open Evl (Ex)
section
variable {prog : Program} {w : World} {A : Around} {E : Value → Shared → Prop} {s : Shared}
end
section
variable {X : Cx} {pos tpos p2 : Pos}
end
end Pf

namespace Pf
open PySem L2
open Evl (Ex)
theorem OwnAll.drop {K : PySem.W.Frag} {Hf H : Hp} : ∀ {ds : List D} {vs : List V} {B : List Addr} (n : Nat), OwnAll K Hf H ds vs B → ∃ B', (∀ b ∈ B', b ∈ B) ∧ OwnAll K Hf H (ds.drop n) (vs.drop n) B'
  | _, _, B, 0, h => ⟨B, fun _ q => q, h⟩
  | _, _, _, _ + 1, .nil => ⟨[], fun _ q => q, .nil⟩
  | _, _, _, n + 1, .cons q t _ _ => by
    obtain ⟨B', h1, h2⟩ := OwnAll.drop n t
    exact ⟨B', fun b hb => List.mem_append_right _ (h1 b hb), h2⟩
theorem OwnAll.dropLast {K : PySem.W.Frag} {Hf H : Hp} : ∀ {ds : List D} {vs : List V} {B : List Addr}, OwnAll K Hf H ds vs B → ∃ B', (∀ b ∈ B', b ∈ B) ∧ OwnAll K Hf H ds.dropLast vs.dropLast B'
  | _, _, _, .nil => ⟨[], fun _ q => q, .nil⟩
  | _, _, _, .cons q .nil _ _ => ⟨[], fun _ h => absurd h (by simp), .nil⟩
  | _, _, _, .cons (A := A1) q (.cons (A := A2) (B := B2) q2 t2 n2 w2) nd w => by
    obtain ⟨B', h1, h2⟩ := OwnAll.dropLast (.cons q2 t2 n2 w2)
    exact ⟨A1 ++ B', fun b hb => by
      rcases List.mem_append.mp hb with z | z
      · exact List.mem_append_left _ z
      · exact List.mem_append_right _ (h1 b z), .cons q h2 (fun a ha hb => nd a ha (h1 a hb)) w⟩
section
variable {K : PySem.W.Frag} {E : Ent} {ρ : RhoS} {σ : L2.St} {H Hf : Hp} {A : Nat → List Addr} {i : Nat} {C : Addr} {fds : List (Str × D)} {f : Str} {ds : List D}
end
section
variable {X : Cx} {pin : List Nat} {ρ : RhoS} {Φ : Out → Prop} {e : Expr} {d : D} {pos tpos p' p1 p2 p3 : Pos} {i j : Nat} {x y f : Str} {C : Addr} {fds : List (Str × D)} {ds : List D}
end
end Pf

namespace Pf
open PySem L2
open Evl (Ex)
def Fx (i : Nat) (f : Str) (l : Addr) (vs : List V) (σ : L2.St) (H : Hp) : Prop := ∃ ad C dx fs, σ[i]? = some (some (.ref ad)) ∧ H ad = some (.ins C dx fs) ∧ fs.lookup f = some (.ref l) ∧ l ≠ ad ∧ H l = some (.lst vs)
theorem Fx.slot {i j : Nat} {f : Str} {l : Addr} {vs : List V} {σ σ' : L2.St} {H : Hp} (h : Fx i f l vs σ H) (e : σ'[i]? = σ[i]?) : Fx i f l vs σ' H := by
  obtain ⟨ad, C, dx, fs, h1, h2, h3, h4, h5⟩ := h
  exact ⟨ad, C, dx, fs, e.trans h1, h2, h3, h4, h5⟩
section
variable {X : Cx} {pin : List Nat} {st : Stmt} {rest a b body : List Stmt} {ρ : RhoS} {Φ : Out → Prop} {e c tg : Expr} {d : D} {pos p' p1 p2 : Pos} {i j : Nat} {x f g : Str} {t : Bool} {C : Addr} {fds : List (Str × D)}
end
end Pf

namespace Pf
open PySem L2 PySem.Spec PyProof.Rows
open Evl (Ex)
section
variable {K : PySem.W.Frag}
theorem r1_neg {i : Int} : R1D K (rU fun i => .int (-i)) (.int i) (.int (-i)) := fun W H v ex r Q q => by
  cases r; exact ⟨i, rfl, q.now ex (.int _)⟩
end
section
variable {X : Cx} {ρ : Rho} {e a b c : Expr} {pos p p2 pos2 : Pos}
theorem j_neg {i : Int} (ha : J X a ρ (.int i)) : J X (.UnaryOp .USub a pos) ρ (.int (-i)) := j_un un_neg ha r1_neg
end
section
variable {E : Ent} {σ : L2.St} {H Hf : Hp} {A : Nat → List Addr}
end
section
variable {X : Cx} {pin : List Nat} {st : Stmt} {rest a b body : List Stmt} {ρ : RhoS} {Φ : Out → Prop} {e c tg iter : Expr} {es : List Expr} {d : D} {ds : List D} {pos p p' p1 p2 p3 : Pos} {i : Nat} {x : Str} {t : Bool}
end
end Pf

namespace Pf
open PySem L2 PySem.Spec PyProof.Rows
open Evl (Ex)
/-- the signs of z, each in a new pair with its number from k0 on -/
def ItX (z : PySem.Str) (k0 : Int) : It :=
  ⟨fun i _ => i < z.cps.size, fun i H v H' => ∃ T c, v = .ref T ∧ H T = none ∧ H' = upd H T (.tup [.int (k0 + (i : Nat)), .str ⟨#[c]⟩]) ∧ z.cps[i]? = some c, fun i _ => i = z.cps.size⟩
theorem turn_enumX {P : Program} {w : World} {K : PySem.W.Frag} {elts : List Expr} {kk : Nat} {tpos : Pos} (z : PySem.Str) (t : Tok) (k0 : Int) (e it : Addr) :
    Turn P w K (.Tuple elts kk tpos) (ItX z k0) [e, it] e (fun i h => (∃ old, IsEnum h e it (k0 + ((i : Nat) : Int)) old) ∧ h.IsStrIter it (strIterType z) z t i ∧ e ≠ it) where
  mem := List.mem_cons_self
  obj := by
    rintro i h ⟨⟨old, he⟩, ⟨o, ho, _, hd⟩, _⟩ b hb
    rcases List.mem_cons.mp hb with q | q
    · rw [q]; exact ⟨_, he, fun v r => nomatch r⟩
    · exact ⟨o, List.mem_singleton.mp q ▸ ho, fun v q => by rw [hd] at q; cases q⟩
  keep := by
    rintro i h h' ⟨⟨old, he⟩, ⟨o, ho, hr⟩, hne⟩ k
    exact ⟨⟨old, k e List.mem_cons_self _ he⟩, ⟨o, k it (List.mem_cons_of_mem _ List.mem_cons_self) o ho, hr⟩, hne⟩
  item := by
    rintro X rfl rfl rfl hc i pins s σ H E I hf ⟨⟨old, he⟩, hit, hne⟩ hg
    have hD := Draws.text (prog := X.prog) (w := X.w) (A := X.A.in1) (show X.A.in1.handled = none from I.ok.hd hc) it z t
    have le : e < s.heap.objs.size := Heap.lt_size he
    have li : it < s.heap.objs.size := by obtain ⟨_, q, _⟩ := hit; exact Heap.lt_size q
    refine wpAny_pyNext_enum_itemC hD he hit hg hne (fun q => hne (List.mem_singleton.mp q)) fun x h1 tk ⟨c, u, hcx, hx⟩ out hit1 hT hsz hk => ?_
    subst hx
    refine ⟨_, rfl, wpAny_letOwnedTupleGo_enum out fun h2 he2 sb => ?_⟩
    have hT2 := (sb.2 _ (Nat.ne_of_gt le)).trans hT
    have hnew : ObjOk X.prog X.w (upd H s.heap.objs.size (.tup [.int (k0 + (i : Nat)), .str ⟨#[c]⟩])) h2 s.heap.objs.size (.tup [.int (k0 + (i : Nat)), .str ⟨#[c]⟩]) :=
      ⟨by show 2 ≤ _; decide, [.int (k0 + (i : Nat)) tk, .str ⟨#[c]⟩ u], .cons ⟨_, rfl⟩ (.cons ⟨_, rfl⟩ .nil), ⟨_, hT2, rfl, _, rfl⟩⟩
    have I2 := I.turnedNew (h' := h2) (t' := tk + 1) (ch := [e, it]) (fun b ob hb q => (sb.2 b fun y => hb (y ▸ List.mem_cons_self)).trans (hk b ob (fun y => hb (y ▸ List.mem_cons_self)) (fun y => hb (y ▸ List.mem_cons_of_mem _ List.mem_cons_self)) q)) hf (Nat.le_refl _) hnew
    refine ⟨.ref s.heap.objs.size, _, I2, rfl, ⟨_, c, rfl, I.hok.fresh (Nat.le_refl _), rfl, hcx⟩, ⟨⟨.str ⟨#[c]⟩ u, ?_⟩, ?_, hne⟩, fun b hb => ?_⟩
    · rw [show k0 + (((i + 1 : Nat)) : Int) = k0 + (i : Int) + 1 by omega]
      exact he2
    · obtain ⟨o, ho, hr⟩ := hit1
      exact ⟨o, (sb.2 it (Ne.symm hne)).trans ho, hr⟩
    · have lb : b < s.heap.objs.size := by
        rcases List.mem_cons.mp hb with q | q
        · exact q ▸ le
        · exact List.mem_singleton.mp q ▸ li
      rw [upd_ne (Nat.ne_of_lt lb)]
      exact (hf b hb).1
  done := by
    rintro X rfl rfl rfl hc i pins s σ H E I hf ⟨⟨old, he⟩, hit, hne⟩ hg
    have hD := Draws.text (prog := X.prog) (w := X.w) (A := X.A.in1) (show X.A.in1.handled = none from I.ok.hd hc) it z t
    obtain ⟨f0, f1, f2, f3, f4, f5⟩ := hf it (List.mem_cons_of_mem _ List.mem_cons_self)
    replace hg : i = z.cps.size := hg
    subst hg
    exact wpAny_pyNext_enum_endD hD he hit fun h' eb => ⟨rfl, I.turned (t' := s.toks) (fun b o hb q => eb b o hb q) f0 f1 f3 f4 f5⟩
  self := by
    rintro A i s Q E ⟨⟨_, he⟩, _⟩ h
    exact wpAny_pyIter_enum he h
def enumD (z : PySem.Str) (k0 : Int) : List D := z.cps.toList.zipIdx.map fun p => .tup [.int (k0 + (p.2 : Nat)), .str ⟨#[p.1]⟩]
theorem enumD_get {z : PySem.Str} {k0 : Int} {i : Nat} {d : D} (h : (enumD z k0)[i]? = some d) : ∃ c, z.cps[i]? = some c ∧ d = .tup [.int (k0 + (i : Nat)), .str ⟨#[c]⟩] := by
  unfold enumD at h
  rw [List.getElem?_map, List.getElem?_zipIdx, Array.getElem?_toList, Nat.zero_add] at h
  cases hc : z.cps[i]? with
  | none => rw [hc] at h; cases h
  | some c => rw [hc] at h; cases h; exact ⟨c, rfl, rfl⟩
theorem enumD_length {z : PySem.Str} {k0 : Int} : (enumD z k0).length = z.cps.size := by unfold enumD; rw [List.length_map, List.length_zipIdx, Array.length_toList]
theorem walks_enumX {K : PySem.W.Frag} {W : Hp} {z : PySem.Str} {k0 : Int} : Walks K (ItX z k0) W (enumD z k0) where
  go := fun i H _ h => by rw [enumD_length] at h; exact h
  yld := fun i H x H' d _ hd ⟨T, c, hx, hT, hH, hc⟩ W2 _ e2 => by
    obtain ⟨c', hc', rfl⟩ := enumD_get hd
    rw [hc] at hc'
    cases hc'
    subst hx hH
    exact ⟨_, .new e2 hT, .tup (SqT.of upd_same) (.cons (.int _) (.cons (.str _) .nil))⟩
  stop := fun H _ => enumD_length
/-- a built-in class called with keywords -/
theorem callWith_typeK {M : Model} {A : Around} {E : Value → Shared → Prop} {s : Shared} {env : Env} {pos : Pos} {T : String} {e : Expr} {kws : List Keyword} {Q : Value → Shared → Prop}
    (h : wpAny M A (spliced (backTo pos (starEach [e] env))) (fun vs s1 => wpAny M A (evalAll ((backToKw pos (keywordEach kws env)).map (·.2))) (fun kvs s2 => wpAny M A (call (.type T) vs (((backToKw pos (keywordEach kws env)).filterMap (·.1)).zip kvs)) Q E s2) E s1) E s)
    (he : backTo pos (starEach [e] env) = (false, eval e env) :: backTo pos (starEach [] env)) (hp : (backTo pos (starEach [e] env)).any (·.1) = false) (hall : (backToKw pos (keywordEach kws env)).all (·.1.isSome) = true) (hkw : (backToKw pos (keywordEach kws env)).any (·.1.isNone) = false) :
    wpAny M A (callWith pos (.type T) [] (backTo pos (starEach [e] env)) (backToKw pos (keywordEach kws env))) Q E s := by
  have hb : wpAny M A (evalArgs (.type T) true (backTo pos (starEach [e] env)) (backToKw pos (keywordEach kws env))) (fun a s1 => wpAny M A (call (.type T) ([] ++ a.pos) a.kw) Q E s1) E s := by
    rw [he] at h ⊢
    exact evalArgs_kwB hall h
  unfold callWith
  refine wpAny_bind (wpAny_holding (wpAny_mono hb (fun a s1 h1 => wpAny_bind (wpAny_standAt ?_)) fun _ _ x => x))
  simp only [hp, hkw, Bool.or_false]
  exact wpAny_bind (wpAny_pure (wpAny_bind (wpAny_mono h1 (fun r s2 hr => wpAny_bind (wpAny_holding (wpAny_point (wpAny_pure hr)))) fun _ _ x => x)))
section
variable {X : Cx} {ρ : Rho} {a : Expr} {pos p p2 kp tpos : Pos} {elts : List Expr} {kk kt : Nat}
theorem ji_enumX {z : PySem.Str} {k0 : Int} (T : Bt X.mg) (ha : J X a ρ (.str z)) (h0 : -(2 ^ 63) ≤ k0) (h1 : k0 < 2 ^ 63) (hg : Gl X "enumerate" := by rfl) (hs : starEach [a] X.env = (false, eval a X.env) :: starEach [] X.env := by rfl)
    (he : backTo pos (starEach [a] X.env) = (false, eval a X.env) :: backTo pos (starEach [] X.env) := by rfl) (hp : (backTo pos (starEach [a] X.env)).any (·.1) = false := by rfl)
    (hall : (backToKw pos (keywordEach [⟨some "start", .Constant (.int k0) kk p2, kp⟩] X.env)).all (·.1.isSome) = true := by rfl) (hkw : (backToKw pos (keywordEach [⟨some "start", .Constant (.int k0) kk p2, kp⟩] X.env)).any (·.1.isNone) = false := by rfl) :
    JI X (.Tuple elts kt tpos) (.Call (.Name "enumerate" p) [a] [⟨some "start", .Constant (.int k0) kk p2, kp⟩] pos) ρ (enumD z k0) := ⟨fun W σ H ex hV R g => fun pins s I => by
  refine wpAny_Call_Name_kw (ld_blt I hg T.enumerate boot_enumerate (callWith_typeK (args_cons (thn (pe_w.run pins s σ H _ I (ha W σ H ex hV (fun v H' => ∃ W', Step W H W' H' ∧ v = .str z) fun v W' H' st r => ⟨W', st, by cases r; rfl⟩)) fun u s1 ⟨vv, H1, I1, r1, W', st, ev⟩ => args_nil ?_) hs) he hp hall hkw))
  subst ev
  obtain ⟨tk, rfl⟩ := r1
  refine kws_cons (thn ((pe_int (X := X) (i := k0)).run pins s1 σ H1 (fun v H' => v = .int k0 ∧ H' = H1) I1 ⟨rfl, rfl⟩) fun u s2 ⟨vv, H2, I2, r2, e1, e2⟩ => kws_nil ?_)
  subst e1 e2
  obtain ⟨tk2, rfl⟩ := r2
  refine enum_begins_start (begins_text z tk) trivial h0 h1 fun h' hen hit hsz hk => wpAny_pyIter_enum hen ?_
  have I3 := I2.kept (t' := s2.toks) hk
  refine ⟨s2.heap.objs.size + 1, [s2.heap.objs.size + 1, s2.heap.objs.size], _, _, _, rfl, I3, turn_enumX z tk k0 (s2.heap.objs.size + 1) s2.heap.objs.size, ⟨⟨.none, ?_⟩, ⟨_, hit, rfl, rfl⟩, Nat.succ_ne_self _⟩, fun b hb => ?_, g _ _ _ st walks_enumX⟩
  · show IsEnum h' _ _ (k0 + ((0 : Nat) : Int)) _
    rw [show k0 + ((0 : Nat) : Int) = k0 by omega]
    exact hen
  · have lb : s2.heap.objs.size ≤ b := by
      rcases List.mem_cons.mp hb with q | q
      · rw [q]; exact Nat.le_add_right _ _
      · rw [List.mem_singleton.mp q]; exact Nat.le_refl _
    exact I2.fpOk lb (I2.hok.fresh lb)⟩
end
end Pf

namespace Pf
open PySem L2 PySem.Spec PyProof.Rows PySem.W
open Evl (Ex)
/-- three digits -/
def d3 (n : Nat) : PySem.Str := ⟨#[48 + n / 100, 48 + n / 10 % 10, 48 + n % 10]⟩
open PySem.Builtin PySem.Builtin.Str PySem.Builtin.Int in
theorem three_meets {n : Nat} {t : Tok} (h : n < 1000) : ∀ u, Meets (Builtin.«int.__format__» ⟨[.int (n : Int) t, .str (Str.ofString "03d") u], []⟩) (fun _ R s => ∀ t' k, R (.ok (.ret (.str (d3 n) t'))) { s with toks := k }) := by
  have hl : ((n : Nat) : Int).natAbs.log2 < 1920 := (by decide +kernel : ∀ n : Nat, n < 1000 → ((n : Nat) : Int).natAbs.log2 < 1920) n h
  intro u
  apply KPc.meets_of
  intro _ _ _ _ _ _ q
  unfold Builtin.«int.__format__»
  refine wpAny_bind (wpAny_of_eq (a := (_, _)) rfl (wpAny_bind (wpAny_of_eq (a := _) rfl ?_)))
  kxf_if
  refine wpAny_bind (wpAny_typeNameOf (typeIs_str _ _ _) (T := "str") (by decide) fun _ => wpAny_bind (wpAny_of_eq (a := some _) rfl ?_))
  kxf_if
  kxf_if
  refine wpAny_bind (wpAny_typeNameOfCut_int ?_)
  repeat kxf_if
  refine wpAny_bind (wpAny_of_eq (PyProof.Rows.overDigitLimit_small hl) ?_)
  dsimp only
  repeat kxf_if
  refine KXf.ret_text (T := d3 n) ?_ ?_ q
  · clear q hl
    revert n
    decide +kernel
  · clear q hl
    revert n
    decide +kernel
end Pf

namespace Pf
open PySem L2 PySem.Spec PyProof.Rows
open Evl (Ex)
section
variable {X : Cx} {ρ : Rho} {e o a b c : Expr} {es : List Expr} {pos p p1 p2 p3 apos cpos : Pos} {kk : Nat}
theorem j_fmt3 {n : Nat} (ha : J X e ρ (.int (n : Int))) (h : n < 1000) : J X (.FormattedValue e (-1) (some (.JoinedStr [.Constant (.str "03d") kk p1] p2)) pos) ρ (.str (d3 n)) := ⟨fun W σ H ex hV Q g => fun pins s I => by
  refine wpAny_FormattedValue_spec (thn (pe_w.run pins s σ H _ I (ha W σ H ex hV (fun v H' => ∃ W', Step W H W' H' ∧ v = .int (n : Int)) fun v W' H' st r => ⟨W', st, by cases r; rfl⟩)) fun u s1 ⟨vv, H1, I1, r1, W', st, ev⟩ => ?_)
  subst ev
  obtain ⟨tk, rfl⟩ := r1
  refine thn ((pe_joined1 (pos := p2) (pe_str (X := X) (x := "03d") (j := kk) (pos := p1))).run pins s1 σ H1 (fun v H' => v = .str "03d" ∧ H' = H1) I1 ⟨rfl, rfl⟩) fun u s2 ⟨vv, H2, I2, r2, e1, e2⟩ => ?_
  subst e1 e2
  obtain ⟨tk2, rfl⟩ := r2
  exact ⟨_, tk2, rfl, PySem.W.KXf.field_int rfl (by decide +kernel) (by decide +kernel) (three_meets h) fun t' k => ⟨.str (d3 n), _, I2.tok _, ⟨t', rfl⟩, g _ _ _ st (.str _)⟩⟩⟩
theorem j_fmtI {i : Int} (ha : J X e ρ (.int i)) (h : i.natAbs.log2 < 1920) : J X (.FormattedValue e (-1) none pos) ρ (.str (toString i)) := ⟨fun W σ H ex hV Q g => .of (pe_fmt pe_w) (ha W σ H ex hV _ fun v W1 H1 s1 r1 => by
  cases r1; exact .inr ⟨i, rfl, h, g _ _ _ s1 (.str _)⟩)⟩
theorem j_fmtS {y : PySem.Str} (ha : J X e ρ (.str y)) (h : y.length ≤ sizeLine) : J X (.FormattedValue e (-1) none pos) ρ (.str y) := ⟨fun W σ H ex hV Q g => .of (pe_fmt pe_w) (ha W σ H ex hV _ fun v W1 H1 s1 r1 => by
  cases r1; exact .inl ⟨y, rfl, h, g _ _ _ s1 (.str _)⟩)⟩
inductive JF (X : Cx) (ρ : Rho) : List Expr → List PySem.Str → Prop
  | nil : JF X ρ [] []
  | cons {e : Expr} {y : PySem.Str} {es : List Expr} {ys : List PySem.Str} (h : J X e ρ (.str y)) (r : JF X ρ es ys) : JF X ρ (e :: es) (y :: ys)
def joinS (acc : PySem.Str) : List PySem.Str → PySem.Str
  | [] => acc
  | y :: ys => joinS (acc ++ y) ys
theorem app_len (x y : PySem.Str) : (x ++ y).length = x.length + y.length := by
  show (x.cps ++ y.cps).size = _
  rw [Array.size_append]; rfl
theorem joinS_le : ∀ (ys : List PySem.Str) (acc : PySem.Str), acc.length ≤ (joinS acc ys).length
  | [], _ => Nat.le_refl _
  | y :: ys, acc => Nat.le_trans (by rw [app_len]; omega) (joinS_le ys (acc ++ y))
theorem pj_w : ∀ es : List Expr, PJ X es (es.map (wE X))
  | [] => .nil
  | _ :: es => .cons pe_w (pj_w es)
theorem jf_run {ys : List PySem.Str} (h : JF X ρ es ys) : ∀ (acc : PySem.Str) (W : Hp) (σ : L2.St) (H : Hp) (Q : PySem.Str → Hp → Prop), Ex W H → Vis X.K ρ W σ → (joinS acc ys).length ≤ sizeLine → (∀ W' H', Step W H W' H' → Q (joinS acc ys) H') → tJs (es.map (wE X)) acc σ H Q := by
  induction h with
  | nil => intro acc W σ H Q ex hV hl g; exact g W H (.refl ex)
  | @cons e y es ys h r ih =>
    intro acc W σ H Q ex hV hl g
    refine h W σ H ex hV _ fun v W1 H1 s1 r1 => ?_
    cases r1
    exact ⟨y, rfl, Nat.le_trans (joinS_le ys (acc ++ y)) hl, ih (acc ++ y) W1 σ H1 Q s1.wh (hV.mono s1.ww) hl fun W' H' s2 => g W' H' (s1.trans s2)⟩
theorem j_fs {v1 v2 : Expr} {rest : List Expr} {ys : List PySem.Str} {z : PySem.Str} (h : JF X ρ (v1 :: v2 :: rest) ys) (hz : joinS Str.empty ys = z) (hl : z.length ≤ sizeLine) : J X (.JoinedStr (v1 :: v2 :: rest) pos) ρ (.str z) := ⟨fun W σ H ex hV Q g => by
  subst hz
  exact .of (pe_joined (pj_w _)) (jf_run h Str.empty W σ H _ ex hV hl fun W' H' st => g _ _ _ st (.str _))⟩
def signsD (z : PySem.Str) : List D := z.cps.toList.map fun c => .str ⟨#[c]⟩
theorem signsD_get {z : PySem.Str} {i : Nat} {d : D} (h : (signsD z)[i]? = some d) : ∃ c, z.cps[i]? = some c ∧ d = .str ⟨#[c]⟩ := by
  unfold signsD at h
  rw [List.getElem?_map, Array.getElem?_toList] at h
  cases hc : z.cps[i]? with
  | none => rw [hc] at h; cases h
  | some c => rw [hc] at h; cases h; exact ⟨c, rfl, rfl⟩
theorem signsD_length {z : PySem.Str} : (signsD z).length = z.cps.size := by unfold signsD; rw [List.length_map, Array.length_toList]
theorem walks_signs {K : PySem.W.Frag} {W : Hp} {z : PySem.Str} : Walks K (Its z) W (signsD z) where
  go := fun i H _ h => by rw [signsD_length] at h; exact h
  yld := fun i H x H' d _ hd ⟨hH, c, hc, hx⟩ W2 _ e2 => by
    obtain ⟨c', hc', rfl⟩ := signsD_get hd
    rw [hc] at hc'
    cases hc'
    subst hx hH
    exact ⟨W2, .refl e2, .str _⟩
  stop := fun H _ => Nat.le_of_eq signsD_length.symm
theorem ji_str {tg : Expr} {z : PySem.Str} (ha : J X a ρ (.str z)) : JI X tg a ρ (signsD z) := ⟨fun W σ H ex hV R g => .of (pi_str pe_w) (ha W σ H ex hV _ fun v W1 H1 s1 r1 => by
  cases r1; exact ⟨z, rfl, g _ _ _ s1 walks_signs⟩)⟩
theorem j_join {x : PySem.Str} {ys : List PySem.Str} {z : PySem.Str} (ho : J X o ρ (.str x)) (ha : J X a ρ (.lst (ys.map D.str))) (hz : (ys.map (·.length)).sum + ys.length * x.length ≤ 16777216) (hj : Txt.join x ys = z) (hs : starEach [a] X.env = [(false, eval a X.env)] := by rfl) (hbase : attributeBase o "join" X.env (eval o X.env) = eval o X.env := by rfl) (hline : (apos.endLine == pos.line) = true := by rfl) :
    J X (.Call (.Attribute o "join" apos) [a] [] pos) ρ (.str z) := ⟨fun W σ H ex hV Q g => .of (pe_join pe_w pe_w hs hbase hline) (ho W σ H ex hV _ fun v W1 H1 s1 r1 => by
  cases r1
  refine ⟨⟨x, rfl⟩, ha W1 σ H1 s1.wh (hV.mono s1.ww) _ fun u W2 H2 s2 r2 => ?_⟩
  cases r2 with
  | lst h1 k => cases k.strs; subst hj; exact ⟨x, _, ys, rfl, rfl, .inl (SqL.of (s2.wh _ _ h1)), hz, g _ _ _ (s1.trans s2) (.str _)⟩)⟩
theorem j_splitMax {x y : PySem.Str} {k : Int} (ho : J X o ρ (.str x)) (ha : JA X [a, b] ρ [.str y, .int k]) (hy : (y.length == 0) = false) (h0 : -(2 ^ 63) ≤ k) (h1 : k < 2 ^ 63) (hl : x.length + 2 ≤ sizeLine) (hbase : attributeBase o "split" X.env (eval o X.env) = eval o X.env := by rfl)
    (hfew : ((backTo cpos (starEach [a, b] X.env)).all (fun x => !x.1) && (backToKw cpos (keywordEach [] X.env)).all (fun x => x.1.isSome) && decide ([a, b].length + ([] : List Keyword).length + (if ([] : List Keyword).isEmpty then 0 else 1) < 30)) = true := by rfl)
    (hline : (apos.endLine == cpos.line) = true := by rfl) (hs : starEach [a, b] X.env = (false, eval a X.env) :: starEach [b] X.env := by rfl) (hplain : (backTo cpos (starEach [b] X.env)).any (·.1) = false := by rfl) :
    J X (.Call (.Attribute o "split" apos) [a, b] [] cpos) ρ (.lst ((Txt.splitMax x y k).map D.str)) := ⟨fun W σ H ex hV Q g =>
  .of (pe_bm PySem.F.plainAttrs_str PySem.F.slot_str_split PySem.F.type_str_split mt_splitMax pe_w pa_w hbase hfew hline hs hplain) (ho W σ H ex hV _ fun v W1 H1 s1 r1 => by
  cases r1
  refine ⟨rfl, ha W1 σ H1 s1.wh (hV.mono s1.ww) _ fun us W2 H2 s2 r2 => ?_⟩
  cases r2 with
  | cons q1 r2 =>
    cases q1
    cases r2 with
    | cons q1 r2 =>
      cases q1
      cases r2
      exact ⟨x, y, k, rfl, rfl, hy, h0, h1, hl, fun q hq => g _ _ _ ((s1.trans s2).trans (.new s2.wh hq)) (.lst upd_same (RepAll.toStrs _))⟩)⟩
theorem rc_ord {K : PySem.W.Frag} {n : Nat} : RCD K (fun xs H Q => ∃ x, xs = [V.str x] ∧ x.length = 1 ∧ Q (V.int (x.cps.getD 0 0 : Nat)) H) [.str ⟨#[n]⟩] (.int (n : Int)) := fun W H vs ex r Q q => by
  cases r with | cons r t => cases t; cases r; exact ⟨_, rfl, rfl, q.now ex (.int _)⟩
theorem rc_intS {K : PySem.W.Frag} {x : PySem.Str} {n : Int} (h : PySem.intText? x = some n) (hl : x.length ≤ 640) : RCD K (fun xs H Q => ∃ a n, xs = [V.str a] ∧ PySem.intText? a = some n ∧ a.length ≤ 640 ∧ Q (V.int n) H) [.str x] (.int n) := fun W H vs ex r Q q => by
  cases r with | cons r t => cases t; cases r; exact ⟨x, n, rfl, h, hl, q.now ex (.int _)⟩
theorem jb_ord {n : Nat} (hm : X.mg "ord" = none) (ha : JA X [e] ρ [.str ⟨#[n]⟩]) (hg : Gl X "ord" := by rfl) (he : starEach [e] X.env = (false, eval e X.env) :: starEach [] X.env := by rfl) (hpl : (backTo pos (starEach [] X.env)).any (·.1) = false := by rfl) :
    J X (.Call (.Name "ord" p) [e] [] pos) ρ (.int (n : Int)) := j_cb call_ord hm (by decide +kernel) ha rc_ord hg (by decide) (by decide) he hpl
theorem jb_intS {x : PySem.Str} {n : Int} (T : Bt X.mg) (ha : JA X [e] ρ [.str x]) (h : PySem.intText? x = some n) (hl : x.length ≤ 640) (hg : Gl X "int" := by rfl) (he : starEach [e] X.env = (false, eval e X.env) :: starEach [] X.env := by rfl) (hpl : (backTo pos (starEach [] X.env)).any (·.1) = false := by rfl) :
    J X (.Call (.Name "int" p) [e] [] pos) ρ (.int n) := j_ct call_int_str T.int (by decide +kernel) ha (rc_intS h hl) hg (by decide) (by decide) he hpl
theorem cd_leS {x y : PySem.Str} : CmD X .LtE (.str x) (.str y) (!decide (y.cps.toList < x.cps.toList)) := ⟨_, op_le_str, fun W H v u ex r1 r2 Q q => by
  cases r1; cases r2; exact ⟨x, y, rfl, rfl, q.now ex (.bl _)⟩⟩
end
end Pf

namespace Pf
open PySem L2 PySem.Spec PyProof.Rows
open Evl (Ex)

section
open PySem.W PySem.Calls
variable {prog : Program} {w : World} {A : Around} {E : Value → Shared → Prop} {h : Heap} {g : Array GenState} {d : Drawn} {t : Nat} {os : OsState}
end

section
variable {X : Cx} {pins : List (Addr × Obj)} {σ : L2.St} {H : Hp} {s : Shared} {A : Around} {E : Value → Shared → Prop} {a C u : Addr}
end

section
variable {P : Program} {w : World} {K : PySem.W.Frag} {mg : Str → Option Value} {base : Heap} {k : Nat} {f C cc c : Addr} {qual pa fld : Str} {params : Arguments} {scope : Scope} {dV kV doc pm ct oc : Value} {an od : Option Addr} {osl : Array (Option Value)} {fd : FuncData} {msg : Expr} {p0 p1 p2 p3 p4 q0 q1 q2 q3 : Pos} {G : D → Prop} {body : List Stmt}
end
end Pf

namespace Pf
open PySem L2 PySem.Spec PyProof.Rows
open Evl (Ex)

abbrev HdT := Value × Option Nat × (Addr → Value → Option Addr → TS)
def SuiteOk (X : Cx) (st : List Stmt) (ts : Addr → Value → Option Addr → TS) : Prop := ∀ (a : Addr) (oe : Obj) (cls : Value) (d : Option Addr) (pn : List (Addr × Obj)), Zc cls d oe → (∃ vs, oe.data = .fields vs) → PSs (X.suite a ((a, oe) :: pn)) st (ts a cls d)
inductive HdM (X : Cx) : List ExceptHandler → List HdT → Prop
  | nil : HdM X [] []
  | plain {x : Str} {c : Value} {ts : Addr → Value → Option Addr → TS} {b₀ : Stmt} {suite : List Stmt} {np pos' : Pos} {hds : List ExceptHandler} {l : List HdT} : Names X x c → SuiteOk X (b₀ :: suite) ts → HdM X hds l → HdM X (.ExceptHandler (some (.Name x np)) none (b₀ :: suite) pos' :: hds) ((c, none, ts) :: l)
  | named {x n : Str} {i : Nat} {c : Value} {ts : Addr → Value → Option Addr → TS} {b₀ : Stmt} {suite : List Stmt} {np pos' : Pos} {hds : List ExceptHandler} {l : List HdT} : Names X x c → X.N[i]? = some n → X.env.kindOf n = some .local → SuiteOk X (b₀ :: suite) ts → HdM X hds l →
      HdM X (.ExceptHandler (some (.Name x np)) (some n) (b₀ :: suite) pos' :: hds) ((c, some i, ts) :: l)

section
variable {X : Cx} {body : List Stmt} {h₀ : ExceptHandler} {hds : List ExceptHandler} {l : List HdT} {pos : Pos} {tb : L2.WX → TS} {Wo : L2.WX}
end
end Pf

namespace Pf
open PySem L2 PySem.Spec PyProof.Rows
open Evl (Ex)

section
variable {P : Program} {w : World} {K : PySem.W.Frag} {mg : Str → Option Value} {base : Heap} {x qual : Str} {st : Stmt} {f : Addr} {fd : FuncData} {N ps : List Str} {k : Nat} {G : List D → (D → Prop) → (Er → Prop) → Prop}
end

section
variable {X : Cx} {pin : List Nat} {ρ : RhoS} {Φ : Out → Prop} {e : Expr} {es : List Expr} {ds : List D} {pos p p' : Pos} {i k j n : Nat} {x : Str} {P : D → Prop} {R : Er → Prop} {G : List D → (D → Prop) → (Er → Prop) → Prop}
end

section
variable {X : Cx} {pin : List Nat} {ρ : RhoS} {Φ : Out → Prop} {e : Expr} {es : List Expr} {ds : List D} {pos p p' : Pos} {i k j n : Nat} {x : Str} {er : Er}
end

/-- an except clause: its class, the slot of its name, its suite -/
structure Hd where
  c : Value
  i : Option Nat
  st : List Stmt
inductive HdJ (X : Cx) : List ExceptHandler → List Hd → Prop
  | nil : HdJ X [] []
  | plain {x : Str} {c : Value} {b₀ : Stmt} {suite : List Stmt} {np pos' : Pos} {hds : List ExceptHandler} {l : List Hd} : Names X x c → HdJ X hds l → HdJ X (.ExceptHandler (some (.Name x np)) none (b₀ :: suite) pos' :: hds) (⟨c, none, b₀ :: suite⟩ :: l)
  | named {x n : Str} {i : Nat} {c : Value} {b₀ : Stmt} {suite : List Stmt} {np pos' : Pos} {hds : List ExceptHandler} {l : List Hd} : Names X x c → X.N[i]? = some n → X.env.kindOf n = some .local → HdJ X hds l →
      HdJ X (.ExceptHandler (some (.Name x np)) (some n) (b₀ :: suite) pos' :: hds) (⟨c, some i, b₀ :: suite⟩ :: l)
/-- the dict of a caught error: there where it has fields, none else -/
structure DOk (er : Er) (d : Option Addr) : Prop where
  has : er.fs.isSome = true → ∃ dd, d = some dd
  no : er.fs = none → d = none
instance {er : Er} {d : Option Addr} : CoeFun (DOk er d) (fun _ => er.fs.isSome = true → ∃ dd, d = some dd) := ⟨DOk.has⟩
def tsOf (X : Cx) (st : List Stmt) : Addr → Value → Option Addr → TS := fun a cls d D σ H => ∀ (oe : Obj) (pn : List (Addr × Obj)), Zc cls d oe → (∃ vs, oe.data = .fields vs) → wSs (X.suite a ((a, oe) :: pn)) st D σ H
theorem tsOf_ok {X : Cx} {st : List Stmt} : SuiteOk X st (tsOf X st) := fun a oe cls d pn hz hf => ⟨fun pins s σ H D I h => h oe pn hz hf pins s I⟩
def hdT (X : Cx) (h : Hd) : HdT := (h.c, h.i, tsOf X h.st)
theorem HdJ.m {X : Cx} : ∀ {hds : List ExceptHandler} {l : List Hd}, HdJ X hds l → HdM X hds (l.map (hdT X))
  | _, _, .nil => .nil
  | _, _, .plain hc r => .plain hc tsOf_ok r.m
  | _, _, .named hc hi hl r => .named hc hi hl tsOf_ok r.m
section
variable {K : PySem.W.Frag} {E : Ent} {ρ : RhoS} {σ : L2.St} {H Hf : Hp} {A : Nat → List Addr}
end
section
variable {X : Cx} {pin : List Nat} {ρ : RhoS} {Φ : Out → Prop} {body : List Stmt} {h₀ : ExceptHandler} {hds : List ExceptHandler} {l : List Hd} {pos : Pos}
end
end Pf

namespace Pf
open PySem L2 PySem.Spec PyProof.Rows
open Evl (Ex)
section
variable {X : Cx} {K : PySem.W.Frag} {ρ : Rho} {a b e o : Expr} {es : List Expr} {ds es' : List D} {pos p tpos apos cpos : Pos} {elts : List Expr} {kk : Nat} {d : D}
end
def tx (cs : List Nat) : Str := ⟨cs.toArray⟩
theorem tx_cps (cs : List Nat) : (tx cs).cps.toList = cs := rfl
theorem tx_len (cs : List Nat) : (tx cs).length = cs.length := by show cs.toArray.size = _; simp
theorem tx_of (z : Str) : tx z.cps.toList = z := by show (⟨z.cps.toList.toArray⟩ : Str) = z; rw [Array.toArray_toList]
theorem tx_app (a b : List Nat) : tx a ++ tx b = tx (a ++ b) := by
  show (⟨a.toArray ++ b.toArray⟩ : Str) = ⟨(a ++ b).toArray⟩
  rw [List.append_toArray]
theorem tx_inj {a b : List Nat} (h : tx a = tx b) : a = b := congrArg (fun z : Str => z.cps.toList) h
theorem le_size {n : Nat} (h : n ≤ 10000) : n ≤ sizeLine := Nat.le_trans h (by decide)
theorem lt_size {n : Nat} (h : n ≤ 10000) : n < sizeLine := Nat.lt_of_le_of_lt h (by decide)
theorem cutS_tx (cs : List Nat) (a b : Option Int) : cutS (tx cs) a b = tx (cut cs a b) := by
  unfold cutS cut tx
  congr 1
theorem atI_getD {α : Type} (d : α) {xs : List α} {i : Int} (h0 : 0 ≤ i) (h1 : i < xs.length) : atI xs i = some (xs.getD i.toNat d) := by
  unfold atI ixN
  rw [if_pos h0, if_pos (by omega)]
  show xs[i.toNat]? = _
  rw [List.getD_eq_getElem?_getD, List.getElem?_eq_getElem (by omega)]
  rfl
theorem atI_N {α : Type} (d : α) {xs : List α} {i : Int} (n : Nat) (h0 : i = (n : Int)) (h1 : n < xs.length) : atI xs i = some (xs.getD n d) := by
  subst h0
  exact atI_getD d (by omega) (by omega)
theorem cut_take {α : Type} (xs : List α) (n : Nat) (h : n ≤ xs.length) : cut xs none (some (n : Int)) = xs.take n := by
  unfold cut
  rw [HT.sIx_none, HT.sIx_nat, List.drop_zero]
  congr 1
  omega
theorem lenS {z : Str} (h : z.length ≤ sizeLine) : lenD (.str z) = some z.length := if_pos h
theorem j_gI {X : Cx} {ρ : Rho} {pos : Pos} {n : Str} {i : Int} (h : ∃ t, X.mg n = some (.int i t)) (hg : Gl X n := by rfl) (hdb : (n == ("__debug__" : Str)) = false := by decide) : J X (.Name n pos) ρ (.int i) := by
  obtain ⟨t, h⟩ := h
  exact j_glob (v := .int i) h ⟨t, rfl⟩ (fun H => .int _) hg hdb
theorem j_gS {X : Cx} {ρ : Rho} {pos : Pos} {n : Str} {i : Str} (h : ∃ t, X.mg n = some (.str i t)) (hg : Gl X n := by rfl) (hdb : (n == ("__debug__" : Str)) = false := by decide) : J X (.Name n pos) ρ (.str i) := by
  obtain ⟨t, h⟩ := h
  exact j_glob (v := .str i) h ⟨t, rfl⟩ (fun H => .str _) hg hdb
end Pf

namespace Pf
open PySem L2 PySem.Spec PyProof.Rows
open Evl (Ex)
open PySem.NumText (AllDigits digitsVal)
section
variable {X : Cx} {K : PySem.W.Frag} {ρ : Rho} {a b e o : Expr} {es : List Expr} {ds : List D} {pos p apos cpos : Pos} {d : D}
theorem j_split {x y : PySem.Str} (ho : J X o ρ (.str x)) (ha : JA X [a] ρ [.str y]) (hy : (y.length == 0) = false) (hl : x.length + 2 ≤ sizeLine) (hbase : attributeBase o "split" X.env (eval o X.env) = eval o X.env := by rfl)
    (hfew : ((backTo cpos (starEach [a] X.env)).all (fun x => !x.1) && (backToKw cpos (keywordEach [] X.env)).all (fun x => x.1.isSome) && decide ([a].length + ([] : List Keyword).length + (if ([] : List Keyword).isEmpty then 0 else 1) < 30)) = true := by rfl)
    (hline : (apos.endLine == cpos.line) = true := by rfl) (hs : starEach [a] X.env = (false, eval a X.env) :: starEach [] X.env := by rfl) (hplain : (backTo cpos (starEach [] X.env)).any (·.1) = false := by rfl) :
    J X (.Call (.Attribute o "split" apos) [a] [] cpos) ρ (.lst ((Txt.split x y).map D.str)) := ⟨fun W σ H ex hV Q g =>
  .of (pe_bm PySem.F.plainAttrs_str PySem.F.slot_str_split PySem.F.type_str_split mt_split pe_w pa_w hbase hfew hline hs hplain) (ho W σ H ex hV _ fun v W1 H1 s1 r1 => by
  cases r1
  refine ⟨rfl, ha W1 σ H1 s1.wh (hV.mono s1.ww) _ fun us W2 H2 s2 r2 => ?_⟩
  cases r2 with
  | cons q1 r2 =>
    cases q1
    cases r2
    exact ⟨x, y, rfl, rfl, hy, hl, fun q hq => g _ _ _ ((s1.trans s2).trans (.new s2.wh hq)) (.lst upd_same (RepAll.toStrs _))⟩)⟩
end
def numS (n : Int) : List Nat := ((toString n : String) : Str).cps.toList
def isDg (c : Nat) : Bool := decide (48 ≤ c) && decide (c ≤ 57)
def okNum (cs : List Nat) (k : Nat) : Bool := (decide (1 ≤ cs.length) && decide (cs.length ≤ k)) && cs.all isDg
def zeroed (cs : List Nat) : Bool := decide (cs.getD 0 0 = 48) && !decide (cs = [48])
def pNum (cs : List Nat) (k : Nat) : Option Nat := if okNum cs k = true then (if zeroed cs = true then none else some (digitsVal cs)) else none
def optN : Option Nat → D
  | none => .non
  | some n => .int (n : Int)
theorem dg_mem (c : Nat) : decide (c ∈ ("0123456789" : Str).cps.toList) = isDg c := by
  rw [show ("0123456789" : Str).cps.toList = [48, 49, 50, 51, 52, 53, 54, 55, 56, 57] from by decide +kernel]
  unfold isDg
  rw [Bool.eq_iff_iff, Bool.and_eq_true, decide_eq_true_iff, decide_eq_true_iff, decide_eq_true_iff]
  simp only [List.mem_cons, List.not_mem_nil, or_false]
  omega
theorem val_lt : ∀ cs : List Nat, AllDigits cs → digitsVal cs < 10 ^ cs.length := by
  have key : ∀ (cs : List Nat) (acc : Nat), AllDigits cs → cs.foldl (fun acc c => acc * 10 + (c - 48)) acc < (acc + 1) * 10 ^ cs.length := by
    intro cs
    induction cs with
    | nil => intro acc _; simp
    | cons c cs ih =>
      intro acc h
      have hc := h c List.mem_cons_self
      have := ih (acc * 10 + (c - 48)) fun d hd => h d (List.mem_cons_of_mem _ hd)
      rw [List.foldl_cons, List.length_cons, Nat.pow_succ]
      refine Nat.lt_of_lt_of_le this ?_
      rw [Nat.mul_comm (10 ^ cs.length) 10, ← Nat.mul_assoc]
      exact Nat.mul_le_mul_right _ (by omega)
  intro cs h
  have := key cs 0 h
  unfold digitsVal
  simpa using this
theorem signs_of (n : Nat) : numS (n : Int) = (Nat.toDigits 10 n).map Char.toNat := PySem.W.KIN.signs_num n
theorem dig_range {c : Char} (h : c.isDigit = true) : 48 ≤ c.toNat ∧ c.toNat ≤ 57 := by
  unfold Char.isDigit at h
  rw [Bool.and_eq_true, decide_eq_true_iff, decide_eq_true_iff] at h
  exact ⟨h.1, h.2⟩
theorem numS_dig (n : Nat) : AllDigits (numS (n : Int)) := by
  intro c hc
  rw [signs_of] at hc
  obtain ⟨ch, hch, rfl⟩ := List.mem_map.mp hc
  exact dig_range (Nat.isDigit_of_mem_toDigits (by decide) (by decide) hch)
theorem numS_val (n : Nat) : digitsVal (numS (n : Int)) = n := by rw [signs_of]; exact PySem.W.KIN.val_back n
theorem numS_le {n k : Nat} (hk : 1 ≤ k) (h : n < 10 ^ k) : (numS (n : Int)).length ≤ k := by rw [signs_of, List.length_map]; exact digits10_le hk h
theorem numS_pos (n : Nat) : 1 ≤ (numS (n : Int)).length := by rw [signs_of, List.length_map]; exact tDigits_len_ge 10 n
theorem pNum_num {n k : Nat} (hk : 1 ≤ k) (h : n < 10 ^ k) : pNum (numS (n : Int)) k = some n := by
  have hd := numS_dig n
  have hl := numS_le hk h
  have hp := numS_pos n
  have hok : okNum (numS (n : Int)) k = true := by
    unfold okNum
    rw [Bool.and_eq_true, Bool.and_eq_true, decide_eq_true_iff, decide_eq_true_iff]
    refine ⟨⟨hp, hl⟩, List.all_eq_true.mpr fun c hc => ?_⟩
    unfold isDg
    rw [Bool.and_eq_true, decide_eq_true_iff, decide_eq_true_iff]
    exact hd c hc
  have hz : zeroed (numS (n : Int)) = false := by
    have hv := numS_val n
    cases hcs : numS (n : Int) with
    | nil => rfl
    | cons c rest =>
      cases rest with
      | nil =>
        unfold zeroed
        by_cases q : c = 48
        · subst q; rfl
        · show (decide (c = 48) && _) = false
          rw [decide_eq_false q]; rfl
      | cons e rest =>
        unfold zeroed
        show (decide (c = 48) && _) = false
        by_cases q : c = 48
        · exfalso
          subst q
          rw [hcs] at hv hd
          have h2 : digitsVal (e :: rest) = n := by rw [← hv]; rfl
          have h3 := val_lt (e :: rest) (fun c hc => hd c (List.mem_cons_of_mem _ hc))
          rw [h2] at h3
          have h4 := numS_le (n := n) (k := (e :: rest).length) (by simp) h3
          rw [hcs] at h4
          simp at h4
          omega
        · rw [decide_eq_false q]; rfl
  unfold pNum
  rw [if_pos hok, hz, numS_val]
  rfl
theorem cut_init {α : Type} (xs : List α) : cut xs none (some (-1)) = xs.dropLast := by
  unfold cut
  rw [HT.sIx_none, List.drop_zero, Nat.sub_zero, List.dropLast_eq_take]
  refine congrArg (fun k => xs.take k) ?_
  show (if (-1 : Int) < 0 then ((-1 : Int) + (xs.length : Int)).toNat else min (-1 : Int).toNat xs.length) = _
  rw [if_pos (by decide)]
  omega
theorem ji_tx {X : Cx} {ρ : Rho} {a tg : Expr} {cs : List Nat} (ha : J X a ρ (.str (tx cs))) : JI X tg a ρ (cs.map fun c : Nat => D.str ⟨#[c]⟩) := ji_str ha
end Pf

namespace Pf
open PySem L2 PySem.Spec PyProof.Rows
open Evl (Ex)

/-- the texts that a set's entries bear -/
def txtOf (e : Int × Value) : Str := strOf e.2
def TxE (P : Program) (w : World) (e : Int × Value) : Prop := ∃ z tk, e = ((PySem.strKind P w).hash z, Value.str z tk)
/-- a set of texts at a: its members, each once, and a table that can be walked -/
structure TSet (P : Program) (w : World) (h : Heap) (a : Addr) (xs : List Str) (o : Obj) (es : Array (Int × Value)) (ep : Nat) (t : SetTable) : Prop where
  at' : h.get? a = some o
  ex : o.ExactSet
  da : o.data = .set es ep t
  tx : ∀ e ∈ es.toList, TxE P w e
  pm : (es.toList.map txtOf).Perm xs
  nd : xs.Nodup
  few : xs.length < scanBound
  fits : t.fits es.size = true
  ris : Ris t.place.toList
  led : w.params.followText "set-order" = true ∨ t.led = true
def TS1 (P : Program) (w : World) (h : Heap) (a : Addr) (xs : List Str) : Prop := ∃ o es ep t, TSet P w h a xs o es ep t
section
variable {P : Program} {w : World} {h h' : Heap} {a : Addr} {xs : List Str} {o : Obj} {es : Array (Int × Value)} {ep : Nat} {t : SetTable}
theorem TSet.size (R : TSet P w h a xs o es ep t) : es.size = xs.length := by rw [← Array.length_toList, ← R.pm.length_eq, List.length_map]
theorem TSet.has (R : TSet P w h a xs o es ep t) (k : Str) : k ∈ xs ↔ ∃ e ∈ es.toList, (PySem.strKind P w).is k e.2 = true := by
  rw [← R.pm.mem_iff, List.mem_map]
  constructor
  · rintro ⟨e, he, q⟩
    obtain ⟨z, tk, rfl⟩ := R.tx e he
    have q' : z = k := q
    exact ⟨_, he, by rw [q']; exact strKind_is _ _ _ _⟩
  · rintro ⟨e, he, q⟩
    obtain ⟨z, tk, rfl⟩ := R.tx e he
    exact ⟨_, he, (PySem.strKind P w).inj _ _ _ (strKind_is P w z tk) q⟩
theorem TS1.keep (R : TS1 P w h a xs) (k : ∀ o, h.get? a = some o → h'.get? a = some o) : TS1 P w h' a xs := by
  obtain ⟨o, es, ep, t, r⟩ := R
  exact ⟨o, es, ep, t, k o r.at', r.ex, r.da, r.tx, r.pm, r.nd, r.few, r.fits, r.ris, r.led⟩
end
section
variable {P : Program} {w : World} {A : Around} {E : Value → Shared → Prop} {s : Shared} {a : Addr} {xs : List Str}
end
section
variable {prog : Program} {w : World} {A : Around} {R : Result → Shared → Prop} {I : Addr} {fp wr : List Addr} {G : Array GenState → Array GenState → Prop} {n : Nat} {Pv : Nat → Value → Prop} {St : Nat → Shared → Prop}
end
section
variable {P : Program} {w : World} {A : Around} {E : Value → Shared → Prop} {s : Shared}
end
section
variable {P : Program} {w : World} {A : Around} {E : Value → Shared → Prop} {s : Shared}
end
end Pf

namespace Pf
open PySem L2 PySem.Spec PyProof.Rows
open Evl (Ex)
section
variable {P : Program} {w : World} {A : Around} {E : Value → Shared → Prop} {s : Shared} {a : Addr} {xs : List Str}
end
section
variable {X : Cx} {a : Expr} {ta : TE} {p p2 q pos : Pos} {ρ : Rho} {zs : List Str}
end
section
variable {X : Cx} {a : Expr} {p p2 q pos : Pos} {ρ : Rho} {xs : List Str}
end
end Pf

namespace Pf
open PySem L2 PySem.Spec PyProof.Rows
open Evl (Ex)
section
variable {X : Cx} {ρ : Rho} {a b c d e : Expr} {x y z u : D} {pos p : Pos} {op op' op'' : CmpOp} {t t' t'' : Bool}
end
section
variable {X : Cx} {ρ : Rho} {a b e : Expr} {pos p : Pos} {n z : Str} {T : List (Str × Option (List Int))} {ns : List Int}
end
section
variable {X : Cx} {K : PySem.W.Frag} {ρ : Rho} {a b : Expr} {ds es' : List D} {pos p tpos : Pos} {elts : List Expr} {kk : Nat}
end
section
variable {X : Cx} {ρ : Rho} {e e2 : Expr} {pos p : Pos} {fds : List (Str × D)} {a C : Addr} {oe : Obj} {pn : List (Addr × Obj)} {b : Bool}
end
section
variable {X : Cx} {ρ : Rho} {pos : Pos}
inductive JPs (X : Cx) (ρ : Rho) : List (Option Expr) → List Expr → List (Str × D) → Prop
  | nil : JPs X ρ [] [] []
  | cons {k v : Expr} {ks : List (Option Expr)} {vs : List Expr} {z : Str} {d : D} {r : List (Str × D)} : J X k ρ (.str z) → J X v ρ d → JPs X ρ ks vs r → JPs X ρ (some k :: ks) (v :: vs) ((z, d) :: r)
def trsOf (X : Cx) : List (Option Expr) → List Expr → List (TE × TE)
  | some k :: ks, v :: vs => (wE X k, wE X v) :: trsOf X ks vs
  | _, _ => []
theorem JPs.len : ∀ {ks : List (Option Expr)} {vs : List Expr} {r : List (Str × D)}, JPs X ρ ks vs r → ks.length = vs.length ∧ ks.length = r.length ∧ ks.all (·.isSome) = true
  | _, _, _, .nil => ⟨rfl, rfl, rfl⟩
  | _, _, _, .cons _ _ h => by
    obtain ⟨a, b, c⟩ := h.len
    exact ⟨by simp [a], by simp [b], by simp [c]⟩
theorem JPs.run : ∀ {ks : List (Option Expr)} {vs : List Expr} {r : List (Str × D)}, JPs X ρ ks vs r → ∀ W σ H, Ex W H → Vis X.K ρ W σ → ∀ Q : List (V × V) → Hp → Prop, (∀ (us : List V) W' H', Step W H W' H' → RepAll X.K W' (r.map (·.2)) us → Q ((r.map fun q => V.str q.1).zip us) H') → tPairs (trsOf X ks vs) σ H Q
  | _, _, _, .nil => fun W σ H ex hV Q g => g [] W H (.refl ex) .nil
  | _, _, _, .cons hk hv h => fun W σ H ex hV Q g => hk W σ H ex hV _ fun x W1 H1 s1 r1 => hv W1 σ H1 s1.wh (hV.mono s1.ww) _ fun y W2 H2 s2 r2 => h.run W2 σ H2 s2.wh (hV.mono (s1.trans s2).ww) _ fun us W3 H3 s3 r3 => by
    cases r1
    exact g (y :: us) W3 H3 ((s1.trans s2).trans s3) (.cons (r2.mono s3.ww) r3)
end
end Pf

namespace Pf
open PySem L2 PySem.Spec PyProof.Rows
open Evl (Ex)
section
variable {K : PySem.W.Frag} {E : Ent} {ρ : RhoS} {σ : L2.St} {H Hf : Hp} {A : Nat → List Addr} {i : Nat} {d : D}
end
section
variable {X : Cx} {pin : List Nat} {st : List Stmt} {ρ : RhoS} {Φ : Out → Prop} {d : D}
end
section
variable {X : Cx} {ρ : Rho} {a b : Expr} {ds : List D} {pos : Pos} {P2 : D → Prop}
end
end Pf

namespace Pf
open PySem L2 PySem.Spec PyProof.Rows
open Evl (Ex)
open SrtO (Swo Srtd Stb SortableO Cmp)
/-- the text at the beginning of a tuple -/
def nmAt (h : Heap) (v : Value) : Str := match v with
  | .ref a => match h.get? a with
    | some o => match o.data with
      | .seq its _ => match its.toList with
        | Value.str z _ :: _ => z
        | _ => Str.empty
      | _ => Str.empty
    | none => Str.empty
  | _ => Str.empty
def HasTxt (h : Heap) (v : Value) : Prop := ∃ a o z t r n, v = .ref a ∧ h.get? a = some o ∧ o.cls = .type "tuple" ∧ o.data = .seq (Value.str z t :: r).toArray n
theorem HasTxt.nm {h : Heap} {v : Value} (x : HasTxt h v) : ∃ a o t r n, v = .ref a ∧ h.get? a = some o ∧ o.cls = .type "tuple" ∧ o.data = .seq (Value.str (nmAt h v) t :: r).toArray n := by
  obtain ⟨a, o, z, t, r, n, rfl, h1, h2, h3⟩ := x
  refine ⟨a, o, t, r, n, rfl, h1, h2, ?_⟩
  have : nmAt h (.ref a) = z := by
    unfold nmAt
    simp only [h1, h3]
  rw [this]; exact h3
section
variable {prog : Program} {w : World} {A : Around} {s : Shared}
theorem HasTxt.keeps {h h' : Heap} {v : Value} (x : HasTxt h v) (k : ∀ b o, h.get? b = some o → o.cls = .type "tuple" → h'.get? b = some o) : HasTxt h' v ∧ nmAt h' v = nmAt h v := by
  obtain ⟨a, o, z, t, r, n, rfl, h1, h2, h3⟩ := x
  have h4 := k _ _ h1 h2
  refine ⟨⟨a, o, z, t, r, n, rfl, h4, h2, h3⟩, ?_⟩
  unfold nmAt
  simp only [h1, h4]
end
section
variable {X : Cx} {β : Type} {nm : β → Str}
end
section
variable {X : Cx} {a : Expr} {p pos : Pos} {ρ : Rho}
end
end Pf

namespace Pf
open PySem L2 PySem.Spec PyProof.Rows
open Evl (Ex)
structure JNP (X : Cx) (e : Expr) (ρ : Rho) (P : List D → Prop) : Prop where
  run : ∀ W σ H, Ex W H → Vis X.K ρ W σ → ∀ Q : VK, (∀ ds, P ds → ∀ (a : Addr) (W' H' : Hp) (vs : List V), Step W H W' H' → H a = none → W' a = none → H' a = some (.lst vs) → RepAll X.K W' ds vs → Q (.ref a) H') → wE X e σ H Q
section
variable {X : Cx} {ρr : Rho} {e a o : Expr} {es : List Expr} {ds : List D} {d : D} {P : List D → Prop} {pos p apos : Pos}
theorem jn_of (h : JNP X e ρr P) (k : ∀ l, P l → l = ds) : JN X e ρr ds := ⟨fun W σ H ex hV Q g => h.run W σ H ex hV Q fun l hl => by
  have := k l hl
  subst this
  exact g⟩
theorem JNP.imp {P2 : List D → Prop} (h : JNP X e ρr P) (k : ∀ l, P l → P2 l) : JNP X e ρr P2 := ⟨fun W σ H ex hV Q g => h.run W σ H ex hV Q fun l hl => g l (k l hl)⟩
theorem j_N (h : JN X e ρr ds) : J X e ρr (.lst ds) := ⟨fun W σ H ex hV Q g => h.run W σ H ex hV Q fun a W' H' vs st h1 h2 h3 r =>
  g (.ref a) (upd W' a (.lst vs)) H' (st.show' h1 h2 h3) (.lst upd_same (r.mono fun b u hb => by rw [upd_ne (ne_of_none hb h2)]; exact hb))⟩
end
section
variable {X : Cx} {pin : List Nat} {ρ : RhoS} {Φ : Out → Prop} {e : Expr} {ds : List D} {P : List D → Prop} {pos p' p1 : Pos} {i : Nat} {x f : Str} {C : Addr} {fds : List (Str × D)}
theorem js_setNP (h : JNP X e (fzR ρ) P) (hk : ∀ l, P l → Φ (.nx (ρ.set i (some (.ow (.lst l)))))) (hN : X.N.Nodup) (hM : ∀ l, P l → NoM l := by (intro l hl; first | (cases hl; (repeat (first | exact NoM.nil | exact NoM.map fun _ => rfl | exact NoM.fm fun _ => rfl | exact NoM.dm fun _ => rfl | exact NoM.dn fun _ => rfl | refine NoM.cons rfl ?_ | refine NoM.app ?_ ?_)); done) | (obtain ⟨_, rfl⟩ := hl; (repeat (first | exact NoM.nil | exact NoM.map fun _ => rfl | exact NoM.fm fun _ => rfl | exact NoM.dm fun _ => rfl | exact NoM.dn fun _ => rfl | refine NoM.cons rfl ?_ | refine NoM.app ?_ ?_)); done) | (obtain ⟨_, rfl, _⟩ := hl; (repeat (first | exact NoM.nil | exact NoM.map fun _ => rfl | exact NoM.fm fun _ => rfl | exact NoM.dm fun _ => rfl | exact NoM.dn fun _ => rfl | refine NoM.cons rfl ?_ | refine NoM.app ?_ ?_)); done))) (hi : X.N[i]? = some x := by rfl) (hx : Loc X.env.scope x := by first | exact Or.inl rfl | exact Or.inr rfl) (hp : i ∉ pin := by decide) (hs : swapsWith e (some (.Name x p')) pos.line X.env = pure false := by rfl)
    (hf : X.fn x = true ∨ X.env.scope.names.lookup x = some .local := by first | exact .inl rfl | exact .inr rfl) : JS X pin (.Assign [.Name x p'] e pos) ρ Φ := ⟨fun E σ H D hpn ⟨Hf, A, s⟩ k =>
  .of (ps_set hN hi hx pe_w hs hf) (h.run Hf σ H s.fh s.vis _ fun l hl a W' H' vs st h1 h2 h3 r => k _ (hk l hl) _ H' (s.newL st h1 h2 h3 r (hpn.none hp) (hM l hl)))⟩
end
def spN (K : PySem.W.Frag) (n : Nat) (G : List D → (List D → Prop) → Prop) : Sp := fun vs H Q _ => vs.length = n ∧ ∃ W ds P, Ex W H ∧ RepAll K W ds vs ∧ G ds P ∧ ∀ l, P l → ∀ (a : Addr) (W' H' : Hp) (us : List V), Step W H W' H' → H a = none → W' a = none → H' a = some (.lst us) → RepAll K W' l us → Q (.ref a) H'
section
variable {P : Program} {w : World} {K : PySem.W.Frag} {mg : Str → Option Value} {base : Heap} {x qual : Str} {st : Stmt} {f : Addr} {fd : FuncData} {N ps : List Str} {k : Nat} {G : List D → (List D → Prop) → Prop} {e : Expr} {pos : Pos}
end
section
variable {X : Cx} {ρ : Rho} {o e : Expr} {es : List Expr} {ds : List D} {C : Addr} {fds : List (Str × D)} {pos apos : Pos} {m f : Str} {k j n : Nat} {G : List D → (List D → Prop) → Prop} {P : List D → Prop}
end
section
variable {X : Cx} {a : Expr} {p pos : Pos} {ρ : Rho}
end
section
variable {X : Cx} {d : D} {ds : List D} {t u : Bool}
end
end Pf

namespace Pf
open PySem L2 PySem.Spec PyProof.Rows
open Evl (Ex)
inductive All2 {α β : Type} (R : α → β → Prop) : List α → List β → Prop
  | nil : All2 R [] []
  | cons {a : α} {b : β} {as : List α} {bs : List β} : R a b → All2 R as bs → All2 R (a :: as) (b :: bs)
section
variable {α β γ : Type} {R : α → β → Prop}
theorem All2.len : ∀ {as : List α} {bs : List β}, All2 R as bs → as.length = bs.length
  | _, _, .nil => rfl
  | _, _, .cons _ h => congrArg (· + 1) h.len
theorem All2.imp {S : α → β → Prop} {as : List α} {bs : List β} (h : All2 R as bs) (k : ∀ a ∈ as, ∀ b, R a b → S a b) : All2 S as bs := by
  induction h with
  | nil => exact .nil
  | cons a _ ih => exact .cons (k _ List.mem_cons_self _ a) (ih fun x hx => k x (List.mem_cons_of_mem _ hx))
theorem All2.right {P : β → Prop} {as : List α} {bs : List β} (h : All2 R as bs) (k : ∀ a ∈ as, ∀ b, R a b → P b) : ∀ b ∈ bs, P b := by
  induction h with
  | nil => intro b hb; cases hb
  | cons a _ ih =>
    intro b hb
    rcases List.mem_cons.mp hb with rfl | hb
    · exact k _ List.mem_cons_self _ a
    · exact ih (fun x hx => k x (List.mem_cons_of_mem _ hx)) b hb
end
section
variable {X : Cx} {elt tg iter : Expr} {scope : Scope} {own : List (Str × Nat)} {pos : Pos} {ρ : Rho}
end
end Pf

namespace Pf
open PySem L2 PySem.Spec PyProof.Rows
open Evl (Ex)
mutual
/-- no list, dict or object within -/
def tupD : D → Bool
  | .non => true
  | .bl _ => true
  | .int _ => true
  | .str _ => true
  | .tup xs => tupAll xs
  | _ => false
def tupAll : List D → Bool
  | [] => true
  | x :: xs => tupD x && tupAll xs
end
section
variable {K : PySem.W.Frag} {W : Hp} {l : Addr} {vs0 : List V}
/-- without a list's address -/
def dropA (W : Hp) (l : Addr) : Hp := fun b => if b = l then none else W b
theorem sqT_drop (hl : W l = some (.lst vs0)) {a : Addr} {vs : List V} (h : SqT K W a vs) : SqT K (dropA W l) a vs := by
  rcases h with h | h
  · refine .inl ?_
    rcases h with h | ⟨q, h⟩
    · exact .inl (by unfold dropA; rw [if_neg fun z => by rw [z, hl] at h; cases h]; exact h)
    · exact .inr ⟨q, by unfold dropA; rw [if_neg fun z => by rw [z, hl] at h; cases h]; exact h⟩
  · exact .inr h
mutual
theorem rep_drop (hl : W l = some (.lst vs0)) : ∀ (d : D) (v : V), tupD d = true → Rep K W d v → Rep K (dropA W l) d v
  | .non, _, _, .non => .non
  | .bl _, _, _, .bl b => .bl b
  | .int _, _, _, .int b => .int b
  | .str _, _, _, .str b => .str b
  | .tup ds, _, h, .tup h1 h2 => .tup (sqT_drop hl h1) (repAll_drop hl ds _ (by simpa [tupD] using h) h2)
theorem repAll_drop (hl : W l = some (.lst vs0)) : ∀ (ds : List D) (vs : List V), tupAll ds = true → RepAll K W ds vs → RepAll K (dropA W l) ds vs
  | [], _, _, .nil => .nil
  | d :: ds, _, h, .cons r t => by
    have h' : tupD d = true ∧ tupAll ds = true := by simpa [tupAll] using h
    exact .cons (rep_drop hl d _ h'.1 r) (repAll_drop hl ds _ h'.2 t)
end
end
section
variable {X : Cx} {pin : List Nat} {ρ : RhoS} {Φ : Out → Prop} {e : Expr} {ds : List D} {pos p' : Pos} {i j : Nat} {x fld : Str} {C : Addr} {Pd : D → Prop}
end
end Pf

namespace Pf
open PySem L2 PySem.Spec PyProof.Rows
open Evl (Ex)
section
variable {X : Cx} {ρ : Rho} {pos : Pos}
/-- {k: v, ..}, the keys numbers -/
inductive JPi (X : Cx) (ρ : Rho) : List (Option Expr) → List Expr → List (Int × D) → Prop
  | nil : JPi X ρ [] [] []
  | cons {k v : Expr} {ks : List (Option Expr)} {vs : List Expr} {z : Int} {d : D} {r : List (Int × D)} : J X k ρ (.int z) → J X v ρ d → JPi X ρ ks vs r → JPi X ρ (some k :: ks) (v :: vs) ((z, d) :: r)
theorem JPi.len : ∀ {ks : List (Option Expr)} {vs : List Expr} {r : List (Int × D)}, JPi X ρ ks vs r → ks.length = vs.length ∧ ks.length = r.length ∧ ks.all (·.isSome) = true
  | _, _, _, .nil => ⟨rfl, rfl, rfl⟩
  | _, _, _, .cons _ _ h => by
    obtain ⟨a, b, c⟩ := h.len
    exact ⟨by simp [a], by simp [b], by simp [c]⟩
theorem JPi.run : ∀ {ks : List (Option Expr)} {vs : List Expr} {r : List (Int × D)}, JPi X ρ ks vs r → ∀ W σ H, Ex W H → Vis X.K ρ W σ → ∀ Q : List (V × V) → Hp → Prop, (∀ (us : List V) W' H', Step W H W' H' → RepAll X.K W' (r.map (·.2)) us → Q ((r.map fun q => V.int q.1).zip us) H') → tPairs (trsOf X ks vs) σ H Q
  | _, _, _, .nil => fun W σ H ex hV Q g => g [] W H (.refl ex) .nil
  | _, _, _, .cons hk hv h => fun W σ H ex hV Q g => hk W σ H ex hV _ fun x W1 H1 s1 r1 => hv W1 σ H1 s1.wh (hV.mono s1.ww) _ fun y W2 H2 s2 r2 => h.run W2 σ H2 s2.wh (hV.mono (s1.trans s2).ww) _ fun us W3 H3 s3 r3 => by
    cases r1
    exact g (y :: us) W3 H3 ((s1.trans s2).trans s3) (.cons (r2.mono s3.ww) r3)
end
end Pf

namespace Pf
open PySem L2
open Evl (Ex)
section
variable {X : Cx} {pin : List Nat} {ρ : RhoS} {Φ : Out → Prop} {e ke fe o : Expr} {es : List Expr} {d : D} {ds : List D} {pos p p' p1 p2 p3 : Pos} {i j : Nat} {x y : Str} {kds : List (Key × D)} {z : Str}
end
end Pf

namespace Pf
open PySem L2 PySem.Spec PyProof.Rows
open Evl (Ex)
section
variable {X : Cx} {elt tg iter tg1 iter1 : Expr} {scope : Scope} {own : List (Str × Nat)} {pos : Pos} {ρ : Rho}
end
structure JR (X : Cx) (sts : List Stmt) (ρ : RhoS) (P : List D → Prop) : Prop where
  run : ∀ (E : Ent) σ H (D : Ends), E.Pins [] → (∀ b, ¬ E.M b) → StOk X.K E ρ σ H → (∀ l, P l → ∀ (a : Addr) (W' H' : Hp) (us : List V), Step E.W0 E.H0 W' H' → E.H0 a = none → W' a = none → H' a = some (.lst us) → RepAll X.K W' l us → D.rt (.ref a) H') → wSs X sts D σ H
/-- what a statement ahead of the rest must come to -/
def thenR (X : Cx) (rest : List Stmt) (P : List D → Prop) : Out → Prop
  | .nx ρ => JR X rest ρ P
  | _ => False
section
variable {X : Cx} {st : Stmt} {rest a b : List Stmt} {ρ : RhoS} {P : List D → Prop} {e c : Expr} {ds : List D} {pos p : Pos} {i : Nat} {x : Str}
theorem jr_cons (h : JS X [] st ρ (thenR X rest P)) : JR X (st :: rest) ρ P := ⟨fun E σ H D hp hM s k =>
  .of (pss_cons ps_w pss_w) (h E σ H _ hp s fun o ho => by
    cases o with
    | nx ρ' => exact fun σ' H' s' => JR.run (show JR X rest ρ' P from ho) E σ' H' D hp hM s' k
    | rt d ρ' => exact ho.elim
    | bk ρ' => exact ho.elim
    | ct ρ' => exact ho.elim
    | ex er ρ' => exact ho.elim)⟩
theorem jr_retO (hi : ρ[i]? = some (some (.ow (.lst ds)))) (hst : ∀ d ∈ ds, stillD d = true) (h : P ds) (hN : X.N[i]? = some x := by rfl) (hv : L2.Vis X.env.scope x := by first | exact Or.inl rfl | exact Or.inr (Or.inl rfl)) (hd : (x == ("__debug__" : Str)) = false := by decide) (hcd : (x == ("__classdict__" : Str)) = false := by decide) :
    JR X (.Return (some (.Name x p)) pos :: rest) ρ P := ⟨fun E σ H D hp hM ⟨Hf, A, s⟩ k => by
  refine .of (pss_cons (ps_ret (pe_var hN hv hd hcd)) pss_w) ?_
  obtain ⟨v, hσ, ow, ne⟩ := s.sl i _ hi
  refine ⟨v, hσ, ?_⟩
  generalize hA : A i = Ai at ow ne
  cases ow with
  | fz _ => exact absurd rfl ne
  | @lst l vs _ B hl1 ha nB =>
    obtain ⟨q1, q2, q3⟩ := s.ap i l (by rw [hA]; exact List.mem_cons_self)
    have q4 : E.H0 l = none := by
      rcases q3 with q | q
      · exact q
      · exact absurd q.1 (hM l)
    exact k ds h l Hf H vs ⟨s.w0, s.fh, fun b o hb => s.hh b o hb (hM b), s.fr⟩ q4 q1 hl1 (ha.still hst)⟩
end
section
variable {P : Program} {w : World} {K : PySem.W.Frag} {mg : Str → Option Value} {base : Heap} {x qual : Str} {st : Stmt} {f : Addr} {fd : FuncData} {N ps : List Str} {k : Nat} {G : List D → (List D → Prop) → Prop}
theorem fn_newB (F : Fun K x qual st f fd) (S : FnScope N ps (defScope st)) (hG : ∀ ds Pd, G ds Pd → ds.length = ps.length)
    (body : ∀ (cdv : Value) (A : Around) (outer : List Env) (s : Shared) (H : Hp) (E : XK) (ds : List D) (Pd : List D → Prop), Room k (A.deeper (envOfC qual (defScope st) s.heap.objs.size f cdv)) → G ds Pd →
      JR (cxOf CX0 P w K mg base N qual (defScope st) f cdv A outer s H E).nox (defBody st) (startR N ds) Pd) : FnOk P w K mg base CX0 (k + 1) f fd ps (spN K ps.length G) := by
  refine F.ok S (fun vs H Q E h => h.1) fun cdv A outer s H vs Q E hr h => ?_
  obtain ⟨_, W, ds, Pd, ex, r, hg, q⟩ := h
  refine ⟨_, pss_w, ?_⟩
  exact (body cdv A outer s H E ds Pd hr hg).run ⟨W, H, fun _ => False, fun _ => none⟩ (L2.start N vs) H _ (fun i => ⟨fun z => absurd rfl z, fun z => absurd z (by simp)⟩) (fun _ z => z) ⟨W, _, start_ok ex r⟩ q
end
/-- a def that hands back a new list -/
structure NFn (P : Program) (w : World) (K : PySem.W.Frag) (mg : Str → Option Value) (base : Heap) (k : Nat) (x : Str) (n : Nat) (G : List D → (List D → Prop) → Prop) : Prop where
  ex : ∃ f fd ps, FnOk P w K mg base CX0 k f fd ps (spN K n G) ∧ mg x = some (.ref f) ∧ PySem.W.keepIn K (.ref f) = true ∧ Binds K fd ps []
section
variable {X : Cx} {ρ : Rho} {e : Expr} {es : List Expr} {ds : List D} {pos p : Pos} {x : Str} {k j n : Nat} {G : List D → (List D → Prop) → Prop} {P : List D → Prop}
theorem jnp_call (c : NFn X.prog X.w X.K X.mg X.base k x n G) (hr : Room j X.A) (ha : JA X (e :: es) ρ ds) (hG : G ds P) (hk : k ≤ j := by decide) (hn : ds.length = n := by rfl) (hg : Gl X x := by rfl) (hdb : (x == ("__debug__" : Str)) = false := by decide)
    (he : starEach (e :: es) X.env = (false, eval e X.env) :: starEach es X.env := by rfl) (hpl : (backTo pos (starEach es X.env)).any (·.1) = false := by rfl) : JNP X (.Call (.Name x p) (e :: es) [] pos) ρ P := ⟨fun W σ H ex hV Q g => by
  obtain ⟨f, fd, ps, F, hm, hkp, hb⟩ := c.ex
  refine .of (pe_call (F.mono hk) hr hg hm hkp hb .nil pass0 pa_w hdb he hpl) (ha W σ H ex hV _ fun vs W1 H1 s1 r1 => ?_)
  rw [List.append_nil]
  exact ⟨by rw [← r1.length]; exact hn, W1, ds, P, s1.wh, r1, hG, fun l hl a W' H' us st z1 z2 z3 z4 => g l hl a W' H' us (s1.trans st) (Evl.fresh_back s1.hh z1) z2 z3 z4⟩⟩
end
end Pf

namespace Pf
open PySem L2
open Evl (Ex)
section
variable {X : Cx} {tg e : Expr} {ρ : Rho} {ds : List D} {P : List D → Prop}
theorem ji_N (h : JNP X e ρ P) (k : ∀ l, P l → l = ds) : JI X tg e ρ ds := ji_list (j_N (jn_of h k))
theorem j_NP (h : JNP X e ρ P) (k : ∀ l, P l → l = ds) : J X e ρ (.lst ds) := j_N (jn_of h k)
end
end Pf

namespace Pf
open PySem L2
open Evl (Ex)
theorem OwnAll.len {K : PySem.W.Frag} {Hf H : Hp} : ∀ {ds : List D} {vs : List V} {A : List Addr}, OwnAll K Hf H ds vs A → ds.length = vs.length
  | _, _, _, .nil => rfl
  | _, _, _, .cons _ r _ _ => by rw [List.length_cons, List.length_cons, r.len]
section
variable {X : Cx} {ρ : RhoS} {ke : Expr} {ds es : List D} {pos p1 : Pos} {i : Nat} {x : Str} {k : Nat}
end
end Pf

namespace Pf
open PySem L2 PySem.Spec PyProof.Rows
open Evl (Ex)
section
variable {X : Cx} {pin : List Nat} {ρ : RhoS} {Φ : Out → Prop} {e ke : Expr} {d : D} {ds : List D} {pos p' p1 : Pos} {i k : Nat} {x : Str}
end
section
variable {X : Cx} {st : Stmt} {rest : List Stmt} {ρ : RhoS} {P : List D → Prop} {d : D}
theorem jr_mid (Ψ : RhoS → Prop) (h : JS X [] st ρ (fun o => ∃ ρ', o = .nx ρ' ∧ Ψ ρ')) (k : ∀ ρ', Ψ ρ' → JR X rest ρ' P) : JR X (st :: rest) ρ P := jr_cons (h.imp fun o ⟨ρ', e, h⟩ => by subst e; exact k ρ' h)
end
end Pf

namespace Pf
open PySem L2 PySem.Spec PyProof.Rows
open Evl (Ex)
section
variable {X : Cx} {ρ : Rho} {e : Expr} {pos p : Pos}
def rRepr (K : PySem.W.Frag) : List V → Hp → VK → Prop := fun vs H Q => ∃ (a : Addr) (q : PyData), vs = [V.ref a] ∧ Dp K H (.ref a) q ∧ q.showable = true ∧ q.hasDict = false ∧ q.depth ≤ 60 ∧ q.shown.length ≤ sizeLine ∧ Q (.str q.shown) H
theorem cr_repr {X : Cx} (hg : X.A.guards = some []) (hu : X.A.units + 64 < cLine) : CallR X (.builtin "repr") (rRepr X.K) := by
  intro pins s σ H vs us Q Jv r h
  obtain ⟨a, q, rfl, hd, h1, h2, h3, h4, k⟩ := h
  obtain ⟨u, rfl, rel⟩ := vals1 r
  obtain ⟨as, rd⟩ := Dp.reads Jv _ _ _ hd rel
  obtain rfl : u = Value.ref a := rel
  exact repr_of_reads' rd h1 (fun z => by rw [h2] at z; cases z) hg (by omega) (fun _ _ z => z) (fun h' u tk kp => ⟨.str q.shown, H, Jv.kept kp, ⟨u, rfl⟩, k⟩) h4
/-- data in a list or a tuple -/
def boxed : D → Bool
  | .lst _ => true
  | .tup _ => true
  | _ => false
theorem j_repr {d : D} {q : PyData} (hG : X.A.guards = some []) (hu : X.A.units + 64 < cLine) (hm : X.mg "repr" = none) (ha : JA X [e] ρ [d]) (hp : toPy d = some q) (hb : boxed d = true) (h1 : q.showable = true) (h2 : q.hasDict = false) (h3 : q.depth ≤ 60) (h4 : q.shown.length ≤ sizeLine)
    (hg : Gl X "repr" := by rfl) (he : starEach [e] X.env = (false, eval e X.env) :: starEach [] X.env := by rfl) (hpl : (backTo pos (starEach [] X.env)).any (·.1) = false := by rfl) : J X (.Call (.Name "repr" p) [e] [] pos) ρ (.str q.shown) :=
  j_cb (cr_repr hG hu) hm (by decide +kernel) ha (fun W H vs ex r Q g => by
    cases r with
    | cons r t =>
      cases t
      have hd := (r.mono ex).dp _ hp
      rename_i v
      obtain ⟨a, rfl⟩ : ∃ a, v = V.ref a := by
        cases r with
        | lst h _ => exact ⟨_, rfl⟩
        | tup h _ => exact ⟨_, rfl⟩
        | _ => first | exact Bool.noConfusion hb | exact ⟨_, rfl⟩
      exact ⟨a, q, rfl, hd, h1, h2, h3, h4, g.now ex (.str _)⟩) hg (by decide) (by decide) he hpl
end
structure FnG (P : Program) (w : World) (K : PySem.W.Frag) (mg : Str → Option Value) (base : Heap) (k : Nat) (f : Addr) (fd : FuncData) (ps : List Str) (sp : Sp) : Prop where
  go : ∀ (s : Shared) (H : Hp) (us : List Value) (vs : List V) (Q : VK), Room k callerA → Env0 P w K mg base callerA [] s H → BindsTo s fd ⟨us, []⟩ (ps.zip us) → Vals vs us → vs.length = ps.length → sp vs H Q (fun _ _ _ => False) →
    codeAny (model P w) callerA (.call (.ref f) ⟨us, []⟩) (CR CX0 [] P w H s Q fun _ _ _ => False) s
section
variable {P : Program} {w : World} {K : PySem.W.Frag} {mg : Str → Option Value} {base : Heap} {x qual : Str} {st : Stmt} {f : Addr} {fd : FuncData} {N ps : List Str} {k : Nat} {G : List D → (D → Prop) → Prop}
theorem fn_g (F : Fun K x qual st f fd) (S : FnScope N ps (defScope st))
    (body : ∀ (cdv : Value) (s : Shared) (H : Hp) (ds : List D) (Pd : D → Prop), Room k (callerA.deeper (envOfC qual (defScope st) s.heap.objs.size f cdv)) → G ds Pd →
      JSs (cxOf CX0 P w K mg base N qual (defScope st) f cdv callerA [] s H fun _ _ _ => False).nox [] (defBody st) (startR N ds) (fin Pd)) : FnG P w K mg base (k + 1) f fd ps (spP K ps.length G) := by
  refine ⟨fun s H us vs Q hr en hb rv hlen hsp => ?_⟩
  obtain ⟨oc, od, kV, doc, pm, an, cdv, ct, osl, rfl, lk, hcd⟩ := F.ex
  have kin : K.In s.heap := en.mod.kin.keeps fun b o z => (en.bs b o z).1
  have nol : s.heap.NoLimit := en.mod.nolimit.keeps fun b o z => (en.bs b o z).1
  have kinds : ∀ y ∈ ps.zip us, (defScope st).names.lookup y.1 = some .local ∨ ((defScope st).names.lookup y.1 = some .cell ∧ ((cellsFrom (s.heap.objs.size + 1) (defScope st).names []).lookup y.1).isSome = true) := fun y hy => by
    rcases S.par y.1 (List.of_mem_zip (a := y.1) (b := y.2) hy).1 with z | z
    · exact .inl z
    · exact .inr ⟨z, PySem.W.cellsFrom_some _ _ _ (.inl z)⟩
  refine codeAny_call_function hr.depth (kin _ _ lk) rfl S.co S.gen rfl (PySem.W.codeRec_of kin hcd) (hb _ _ _ _ (wpAny_newFunctionEnv_cells S.kind kinds fun env he s1 ic => ?_))
  subst he
  obtain ⟨_, W, ds, Pd, ex, r, hg, q⟩ := hsp
  have start := inv_start (CX := CX0) (E := fun _ _ _ => False) S hr.hd en hlen rv ic
  have read : wSs (cxOf CX0 P w K mg base N qual (defScope st) f cdv callerA [] s H fun _ _ _ => False).nox (defBody st) { nx := fun _ H' => Q .non H', rt := Q } (L2.start N vs) H := by
    refine body cdv s H ds Pd (hr.deeper _) hg ⟨W, H, fun _ => False, fun _ => none⟩ (L2.start N vs) H _ (fun i => ⟨fun z => absurd rfl z, fun z => absurd z (by simp)⟩) ⟨W, _, start_ok ex r⟩ fun o ho => ?_
    cases o with
    | nx ρ => exact fun σ' H' ⟨Hf, A', s'⟩ => q _ ho .non Hf H' ⟨s'.w0, s'.fh, fun b o h => s'.hh b o h (fun z => z), s'.fr⟩ .non
    | rt d ρ => exact fun v H' ⟨σ', Hf, A', W', s', h1, h2, h3, _, h5⟩ => q _ ho v W' H' ⟨s'.w0.trans h1, h2, fun b o h => s'.hh b o h (fun z => z), h3⟩ h5
    | bk ρ => exact ho.elim
    | ct ρ => exact ho.elim
    | ex er ρ => exact ho.elim
  refine ⟨nol.keeps ic.toInCall.keep, codeAny_func (wpAny_mono (pss_w.nox.run [] s1 (L2.start N vs) H _ start read) (fun fl s' z => ?_) fun _ _ z => z)⟩
  cases fl with
  | ret u => obtain ⟨v, σ', H', J, rel, hQ⟩ := z; exact ⟨v, H', J.os, J.bare, J.base, J.hok, rel, hQ⟩
  | next => obtain ⟨σ', H', J, hQ⟩ := z; exact ⟨V.non, H', J.os, J.bare, J.base, J.hok, rfl, hQ⟩
  | brk => obtain ⟨_, _, _, z⟩ := z; cases z
  | cont => obtain ⟨_, _, _, z⟩ := z; cases z
end
/-- the script alone is known, if it is no object of the module's -/
def onlyS (K : PySem.W.Frag) (a : Addr) (o : Obj) (u : HO) : Hp := fun b => if b = a ∧ K.lookup a = none then some (.frz o u) else none
theorem onlyS_some {K : PySem.W.Frag} {a b : Addr} {o : Obj} {u z : HO} (h : onlyS K a o u b = some z) : b = a ∧ K.lookup a = none ∧ z = .frz o u := by
  unfold onlyS at h
  split at h
  · rename_i q
    cases h
    exact ⟨q.1, q.2, rfl⟩
  · cases h
theorem onlyS_non {K : PySem.W.Frag} {a b : Addr} {o : Obj} {u : HO} (h : b = a → K.lookup a = none → False) : onlyS K a o u b = none := if_neg fun q => h q.1 q.2
theorem law_g {P : Program} {w : World} {K : PySem.W.Frag} {mg mb : Str → Option Value} {k : Nat} {fa a : Addr} {fd : FuncData} {x : Str} {sp : Sp} {s : Shared} {vs : List Value} {ns : List Int} (kin : K.In s.heap)
    (nG : s.heap.Ns mainGlobals mg) (nB : s.heap.Ns builtinsNs mb) (boot : ∀ y : Str, y ≠ "__name__" → mb y = bootBuiltins y) (nol : s.heap.NoLimit) (gens : s.gens = #[])
    (scr : s.heap.get? a = some { cls := .type "list", data := .seq vs.toArray }) (isInts : IntsAre vs ns) (few : ns.length ≤ sizeLine) (hr : Room k callerA)
    (F : ∀ base : Heap, K.In base → base.Ns mainGlobals mg → FnG P w K mg base k fa fd [x] sp) (bind : ∀ (s : Shared) (u : Value), BindsTo s fd ⟨[u], []⟩ [(x, u)])
    (says : ∀ H : Hp, Only H → SqL K H a (ns.map V.int) → sp [.ref a] H (fun v _ => v = .bl true) fun _ _ _ => False) :
    codeAny (model P w) callerA (.call (.ref fa) ⟨[.ref a], []⟩) (fun r s' => r = .ok (.ret (.bool true)) ∧ OldK s.heap s'.heap ∧ s'.os = s.os ∧ AllBare s'.gens) s := by
  let o : Obj := { cls := .type "list", data := .seq vs.toArray }
  let H : Hp := onlyS K a o (.lst (ns.map V.int))
  have vals := vals_ints isInts
  have len := isInts.length
  have only : Only H := fun b => by
    cases q : H b with
    | none => exact .inl rfl
    | some z => obtain ⟨_, _, rfl⟩ := onlyS_some q; exact .inr ⟨_, _, rfl⟩
  have hok : HOk P w H s.heap := fun b z q => by
    obtain ⟨rfl, _, rfl⟩ := onlyS_some q
    exact ⟨scr, by rw [List.length_map]; exact few, vs, _, vals, scr⟩
  have sq : SqL K H a (ns.map V.int) := by
    cases q : K.lookup a with
    | none => exact .inl (.inr ⟨o, if_pos ⟨rfl, q⟩⟩)
    | some o' =>
      have z := kin a o' q
      rw [scr] at z
      cases z
      exact .inr ⟨_, vs.toArray, _, q, rfl, rfl, rfl, by rw [List.size_toArray, len]; exact few, by simpa using vals⟩
  have hid : ∀ {b : Addr} {m : Str → Option Value}, s.heap.Ns b m → (hidT s.heap H).Ns b m := fun {b m} ⟨o', es, ep, e, d, r⟩ => ⟨o', es, ep, hidT_get e (onlyS_non fun e1 _ => by
    subst e1
    rw [scr] at e
    cases e
    cases (show Data.seq vs.toArray _ = Data.dict es ep from d)), d, r⟩
  have kinB : K.In (hidT s.heap H) := fun b o' e => hidT_get (kin b o' e) (onlyS_non fun e1 e2 => by subst e1; rw [e2] at e; cases e)
  have en : Env0 P w K mg (hidT s.heap H) callerA [] s H := by
    refine ⟨rfl, ⟨kinB, hid nG, ⟨mb, hid nB, boot⟩, ?_⟩, fun b o e => of_hidT e, Nat.le_of_eq (hidT_size _ _), trivial, fun b z => ?_, hok, .of_eq gens⟩
    · obtain ⟨mc, h1, h2⟩ := nol
      exact ⟨mc, hid h1, h2⟩
    · exact absurd (show b ∈ ([] : List Addr) from z) (by simp)
  refine codeAny_mono ((F _ kinB (hid nG)).go s H [.ref a] [.ref a] _ hr en (bind s _) (.cons rfl .nil) rfl (says H only sq)) fun r s' z => ?_
  match r, z with
  | .ok (.ret u), z =>
    obtain ⟨v, H', os, bare, un, hok', rel, rfl⟩ := z
    obtain rfl : u = Value.bool true := rel
    refine ⟨rfl, OldK.of_keep fun b ob e => ?_, os, bare⟩
    cases q : H b with
    | none => exact un.keep b ob e q (fun z => absurd (show b ∈ ([] : List Addr) from z) (by simp)) (by simp)
    | some z =>
      obtain ⟨_, _, rfl⟩ := onlyS_some q
      have e1 := (hok b _ q).1
      rw [e] at e1
      cases e1
      exact (hok' b _ (un.frzs b _ _ q)).1
/-- the end of a law over such a def -/
theorem walk_g {l : PySem.W.OpenLaw} {n k : Nat} {q : Program} {loose : List Str} {XP : (Str → Option Value) → Heap → Prop} {YP : World → Heap → Prop} {d : DefRec} {x : Str} (hn : l.most = some n) (hn2 : n ≤ sizeLine) (hdf : d.params.defaults = []) (hr : Room k callerA)
    (F : ∀ (w : World) (mg : Str → Option Value) (fa : Addr) (h : Heap), YP w h → h.Ns mainGlobals mg → mg d.name = some (.ref fa) → ∃ (K : PySem.W.Frag) (fd : FuncData) (sp : Sp), K.In h ∧ (∀ (s : Shared) (u : Value), BindsTo s fd ⟨[u], []⟩ [(x, u)]) ∧
      (∀ (H : Hp) (a : Addr) (ns : List Int), ns.length ≤ n → Only H → SqL K H a (ns.map V.int) → sp [.ref a] H (fun v _ => v = .bl true) fun _ _ _ => False) ∧ ∀ base : Heap, K.In base → base.Ns mainGlobals mg → FnG l.prog w K mg base k fa fd [x] sp) :
    PySem.W.WalkO q loose XP YP l.row.toRowW d [] (fun f vs => PySem.call f vs) := Att.attach_call hn hdf fun w s₀ s₁ mg mb fa o pm cd doc a vs ns G Y ho hd hcd hmg hobj hints hlen hg => by
  obtain ⟨K, fd, sp, kin, bind, says, run⟩ := F w mg fa _ Y G.T.g hmg
  exact law_g kin G.T.g G.T.b G.T.builtins G.T.nolimit hg hobj hints (Nat.le_trans hlen hn2) hr run bind fun H o z => says H a ns hlen o z
end Pf

namespace Toy
open PySem PyProof.Rows L2 Pf
section
variable {P : Program} {w : World} {K : PySem.W.Frag} {mg : Str → Option Value} {base : Heap}
abbrev sRow : Stmt := top 17
theorem scRow : FnScope ["cell", "many", "row", "rest", "state", "k"] ["cell", "many"] (defScope sRow) := ⟨rfl, rfl, rfl, by decide +kernel, rfl, by decide +kernel, by decide +kernel⟩
def gRow : List D → (D → Prop) → Prop := fun ds P => ∃ (c : Int) (m : Nat), ds = [.int c, .int m] ∧ m ≤ 10000 ∧ P = fun d => ∃ ns : List Int, d = .lst (ns.map D.int) ∧ ns.length = m ∧ ∀ n ∈ ns, 0 ≤ n ∧ n < 1009
theorem mod1009 (a : Int) : 0 ≤ a % 1009 ∧ a % 1009 < 1009 := by omega
theorem ok_row {f : Addr} {fd : FuncData} (F : Fun K "_law_row" "_law_row" sRow f fd) (T : Bt mg) : FnOk P w K mg base CX0 1 f fd ["cell", "many"] (spP K 2 gRow) := by
  refine fn_pure F scRow (by rintro ds Pd ⟨c, m, rfl, _⟩; rfl) fun cdv A outer s H E ds Pd hr hG => ?_
  obtain ⟨c, m, rfl, hm, rfl⟩ := hG
  have nd := scRow.nd
  -- row = []; rest = 0
  refine jss_cons (js_setN (i := 2) (jn_lst ja_nil) ?_ nd)
  refine jss_cons (js_set (i := 3) j_int ?_ nd)
  -- if abs(cell) >= 10 ** 18: rest = abs(cell)
  refine jss_mid (fun ρ => ∃ r : Int, ρ = [some (.fz (.int c)), some (.fz (.int m)), some (.ow (.lst [])), some (.fz (.int r)), none, none]) (js_if (jt_cm (jb_abs T (ja_cons (jv 0 rfl) ja_nil)) (j_bin j_int j_int (od_powI ⟨by decide, by decide, by decide⟩)) cd_geI) (fun _ => ?_) (fun _ => ?_)) ?_
  · exact jss_cons (js_set (i := 3) (jb_abs T (ja_cons (jv 0 rfl) ja_nil)) (jss_nil ⟨_, rfl, _, rfl⟩) nd)
  · exact jss_nil ⟨_, rfl, _, rfl⟩
  rintro _ ⟨r, rfl⟩
  -- state = int(abs(cell)) % 2147483647
  refine jss_cons (js_set (i := 4) (j_bin (jb_int T (ja_cons (jb_abs T (ja_cons (jv 0 rfl) ja_nil)) ja_nil)) j_int (od_modI (by decide))) ?_ nd)
  -- for k in range(many)
  refine jss_mid (fun ρ => ∃ (r s : Int) (ns : List Int) (o : Option SV), ρ = [some (.fz (.int c)), some (.fz (.int m)), some (.ow (.lst (ns.map D.int))), some (.fz (.int r)), some (.fz (.int s)), o] ∧ ns.length = m ∧ ∀ n ∈ ns, 0 ≤ n ∧ n < 1009)
    (js_range m (i := 5) (fun k ρ => ∃ (r s : Int) (ns : List Int) (o : Option SV), ρ = [some (.fz (.int c)), some (.fz (.int m)), some (.ow (.lst (ns.map D.int))), some (.fz (.int r)), some (.fz (.int s)), o] ∧ ns.length = k ∧ ∀ n ∈ ns, 0 ≤ n ∧ n < 1009) T (jv 1 rfl) (by omega) nd ⟨_, _, [], _, rfl, rfl, by simp⟩ ?_ ?_) ?_
  · rintro k _ hk ⟨r, s, ns, o, rfl, hl, hb⟩
    refine jss_cons (js_set (i := 4) (j_bin (jb_int T (ja_cons (j_bin (j_bin (j_bin (jv 4 rfl) j_int od_addI) j_int (od_mulI cmulR)) (j_bin j_int (jv 5 rfl) (od_mulI cmulL)) od_addI) ja_nil)) j_int (od_modI (by decide))) ?_ nd)
    refine jss_cons (js_if (jt_cm (jv 3 rfl) j_int cd_gtI) (fun _ => ?_) (fun _ => ?_))
    · refine jss_cons (js_append (i := 2) (ds := ns.map D.int) rfl (j_bin (jb_int T (ja_cons (jv 3 rfl) ja_nil)) j_int (od_modI (by decide))) (by rw [List.length_map, hl]; exact Nat.lt_of_lt_of_le (Nat.lt_of_lt_of_le hk hm) (by decide)) ?_)
      refine jss_cons (js_set (i := 3) (j_bin (jv 3 rfl) j_int (od_fdivI ⟨by decide, by decide⟩)) ?_ nd)
      refine jss_nil (jss_nil ⟨_, _, ns ++ [r % 1009], _, by rw [List.map_append]; rfl, by simp [hl], ?_⟩)
      intro n hn
      rcases List.mem_append.mp hn with h | h
      · exact hb n h
      · simp at h; subst h; exact mod1009 _
    · refine jss_cons (js_append (i := 2) (ds := ns.map D.int) rfl (j_bin (jb_int T (ja_cons (j_bin (jv 4 rfl) j_int (od_fdivI ⟨by decide, by decide⟩)) ja_nil)) j_int (od_modI (by decide))) (by rw [List.length_map, hl]; exact Nat.lt_of_lt_of_le (Nat.lt_of_lt_of_le hk hm) (by decide)) ?_)
      refine jss_nil (jss_nil ⟨_, _, ns ++ [_], _, by rw [List.map_append]; rfl, by simp [hl], ?_⟩)
      intro n hn
      rcases List.mem_append.mp hn with h | h
      · exact hb n h
      · simp at h; subst h; exact mod1009 _
  · rintro _ ⟨r, s, ns, o, rfl, hl, hb⟩
    exact ⟨_, rfl, r, s, ns, o, rfl, hl, hb⟩
  rintro _ ⟨r, s, ns, o, rfl, hl, hb⟩
  -- return row
  exact jss_cons (js_ret (jv 2 rfl) ⟨ns, rfl, hl, hb⟩)
end
end Toy

namespace Toy
open PySem PyProof.Rows L2 Pf
section
variable {P : Program} {w : World} {K : PySem.W.Frag} {mg : Str → Option Value} {base : Heap}
abbrev sNumbers : Stmt := top 18
theorem scNumbers : FnScope ["script", "many", "cells", "each", "numbers", "cell", "number"] ["script", "many"] (defScope sNumbers) := ⟨rfl, rfl, rfl, by decide +kernel, rfl, by decide +kernel, by decide +kernel⟩
/-- so many numbers below 1009 -/
def isNums (m : Nat) (d : D) : Prop := ∃ ns : List Int, d = .lst (ns.map D.int) ∧ ns.length = m ∧ ∀ n ∈ ns, 0 ≤ n ∧ n < 1009
def gNumbers : List D → (D → Prop) → Prop := fun ds P => ∃ (ns : List Int) (m : Nat), ds = [.scr ns, .int m] ∧ ns.length ≤ 63 ∧ m ≤ 1000 ∧ P = isNums m
def lenAt (i m : Nat) (ρ : RhoS) : Nat := match ρ[i]? with
  | some (some (.ow (.lst ds))) => m - ds.length
  | _ => 0
theorem cut_len_le {α : Type} (xs : List α) (a b : Option Int) : (cut xs a b).length ≤ xs.length := by
  unfold cut
  rw [List.length_take, List.length_drop]
  omega
theorem cut_to {α : Type} (xs : List α) (m : Nat) (h : m ≤ xs.length) : (cut xs none (some (m : Int))).length = m ∧ ∀ x ∈ cut xs none (some (m : Int)), x ∈ xs := by
  unfold cut
  rw [HT.sIx_none, HT.sIx_nat]
  constructor
  · rw [List.length_take, List.length_drop]; omega
  · intro x hx
    exact List.mem_of_mem_drop (List.mem_of_mem_take hx)
theorem map_cut (ns : List Int) (a b : Option Int) : cut (ns.map D.int) a b = (cut ns a b).map D.int := by
  unfold cut
  rw [List.length_map, ← List.map_drop, ← List.map_take]
theorem ok_numbers {f : Addr} {fd : FuncData} (F : Fun K "_law_numbers" "_law_numbers" sNumbers f fd) (T : Bt mg) (cR : PFn P w K mg base 1 "_law_row" 2 gRow) : FnOk P w K mg base CX0 2 f fd ["script", "many"] (spP K 2 gNumbers) := by
  refine fn_pure F scNumbers (by rintro ds Pd ⟨c, m, rfl, _⟩; rfl) fun cdv A outer s H E ds Pd hr hG => ?_
  obtain ⟨sc, m, rfl, hsc, hm, rfl⟩ := hG
  have nd := scNumbers.nd
  -- cells = script[:63]
  refine jss_cons (js_set (i := 2) (j_sl (jv 0 rfl) jo_none (jo_some j_int) sld_X) ?_ nd)
  have hcl : (cut sc none (some 63)).length ≤ 63 := Nat.le_trans (cut_len_le _ _ _) hsc
  generalize cut sc none (some 63) = cells at hcl
  -- each = 1 + many // max(1, len(cells))
  refine jss_cons (js_set (i := 3) (j_bin j_int (j_bin (jv 1 rfl) (jb_max2 T (ja_cons j_int (ja_cons (jb_len T (ja_cons (jv 2 rfl) ja_nil) rfl) ja_nil))) (od_fdivI ⟨?_, ?_⟩)) od_addI) ?_ nd)
  · split <;> omega
  · rw [List.length_map]; split <;> omega
  obtain ⟨e, he, he2⟩ : ∃ e : Nat, (1 + (m : Int) / (if ((cells.map D.int).length : Int) > 1 then ((cells.map D.int).length : Int) else 1)) = (e : Int) ∧ e ≤ 1 + m := by
    have h1 : (0 : Int) ≤ (m : Int) / (if ((cells.map D.int).length : Int) > 1 then ((cells.map D.int).length : Int) else 1) := Int.ediv_nonneg (by omega) (by split <;> omega)
    have h2 : (m : Int) / (if ((cells.map D.int).length : Int) > 1 then ((cells.map D.int).length : Int) else 1) ≤ m := Int.ediv_le_self _ (by omega)
    exact ⟨(1 + (m : Int) / (if ((cells.map D.int).length : Int) > 1 then ((cells.map D.int).length : Int) else 1)).toNat, by omega, by omega⟩
  rw [he]
  -- numbers = []
  refine jss_cons (js_setN (i := 4) (jn_lst ja_nil) ?_ nd)
  -- for cell in cells
  refine jss_mid (fun ρ => ∃ (xs : List Int) (o1 o2 : Option SV), ρ = [some (.fz (.scr sc)), some (.fz (.int m)), some (.fz (.lst (cells.map D.int))), some (.fz (.int e)), some (.ow (.lst (xs.map D.int))), o1, o2] ∧ xs.length ≤ 63 * 1001 ∧ ∀ n ∈ xs, 0 ≤ n ∧ n < 1009)
    (js_each (i := 5) cells D.int (fun k ρ => ∃ (xs : List Int) (o1 o2 : Option SV), ρ = [some (.fz (.scr sc)), some (.fz (.int m)), some (.fz (.lst (cells.map D.int))), some (.fz (.int e)), some (.ow (.lst (xs.map D.int))), o1, o2] ∧ xs.length ≤ k * 1001 ∧ ∀ n ∈ xs, 0 ≤ n ∧ n < 1009) (ji_list (jv 2 rfl)) nd ⟨[], _, _, rfl, by simp, by simp⟩ ?_ ?_) ?_
  · rintro k c _ hk ⟨xs, o1, o2, rfl, hl, hb⟩
    have hk' : k < cells.length := (List.getElem?_eq_some_iff.mp hk).1
    refine jss_cons (js_forP (pat := .nm 6) (Pd := fun ds => ∃ ys : List Int, ds = ys.map D.int ∧ ys.length = e ∧ ∀ n ∈ ys, 0 ≤ n ∧ n < 1009)
      (fun ds j ρ => ∃ (zs : List Int) (o2 : Option SV), ρ = [some (.fz (.scr sc)), some (.fz (.int m)), some (.fz (.lst (cells.map D.int))), some (.fz (.int e)), some (.ow (.lst (zs.map D.int))), some (.fz (.int c)), o2] ∧ zs.length = xs.length + j ∧ ∀ n ∈ zs, 0 ≤ n ∧ n < 1009)
      (jip_call (jp_call cR hr (ja_cons (jv 5 rfl) (ja_cons (jv 3 rfl) ja_nil)) ⟨c, e, rfl, by omega, rfl⟩) (by rintro d ⟨ns, rfl, h1, h2⟩; exact ⟨_, rfl, ns, rfl, h1, h2⟩)) (pg_name nd rfl (Or.inl rfl)) ?_ ?_ ?_ PassesOwn.never)
    · rintro ds ⟨ys, rfl, hy, hy2⟩
      exact ⟨xs, _, rfl, by simp, hb⟩
    · rintro ds ⟨ys, rfl, hy, hy2⟩ j d ρ hd ⟨zs, o2', rfl, hz, hz2⟩
      obtain ⟨y, hy3, rfl⟩ := map_get hd
      have hj : j < ys.length := (List.getElem?_eq_some_iff.mp hy3).1
      refine ⟨_, rfl, ?_⟩
      refine jss_cons (js_append (i := 4) (ds := zs.map D.int) rfl (jv 6 rfl) (by rw [List.length_map, hz]; exact Nat.lt_of_lt_of_le (by omega : _ < 100000) (by decide)) ?_)
      refine jss_nil ⟨zs ++ [y], _, by rw [List.map_append]; rfl, by simp [hz]; omega, ?_⟩
      intro n hn
      rcases List.mem_append.mp hn with h | h
      · exact hz2 n h
      · simp at h; subst h; exact hy2 _ (List.mem_of_getElem? hy3)
    · rintro ds ⟨ys, rfl, hy, hy2⟩ ρ ⟨zs, o2', rfl, hz, hz2⟩
      rw [List.length_map] at hz
      exact jss_nil ⟨zs, _, _, rfl, by omega, hz2⟩
  · rintro _ ⟨xs, o1, o2, rfl, hl, hb⟩
    exact ⟨_, rfl, xs, o1, o2, rfl, by omega, hb⟩
  rintro _ ⟨xs, o1, o2, rfl, hl, hb⟩
  -- while len(numbers) < many
  refine jss_mid (fun ρ => ∃ (xs : List Int), ρ = [some (.fz (.scr sc)), some (.fz (.int m)), some (.fz (.lst (cells.map D.int))), some (.fz (.int e)), some (.ow (.lst (xs.map D.int))), o1, o2] ∧ m ≤ xs.length ∧ ∀ n ∈ xs, 0 ≤ n ∧ n < 1009)
    (js_while (fun ρ => ∃ (xs : List Int), ρ = [some (.fz (.scr sc)), some (.fz (.int m)), some (.fz (.lst (cells.map D.int))), some (.fz (.int e)), some (.ow (.lst (xs.map D.int))), o1, o2] ∧ xs.length ≤ 63 * 1001 + m ∧ ∀ n ∈ xs, 0 ≤ n ∧ n < 1009) (lenAt 4 m) ⟨xs, rfl, by omega, hb⟩ ?_ PassesOwn.never) ?_
  · rintro _ ⟨xs, rfl, hl, hb⟩
    refine ⟨_, jt_cm (jb_len T (ja_cons (jv 4 rfl) ja_nil) rfl) (jv 1 rfl) cd_ltI, fun ht => ?_, fun ht => ?_⟩
    · have ht' : xs.length < m := by simpa using ht
      refine jss_cons (js_append (i := 4) (ds := xs.map D.int) rfl j_int (by rw [List.length_map]; exact Nat.lt_of_lt_of_le (by omega : _ < 100000) (by decide)) ?_)
      refine jss_nil ⟨⟨xs ++ [0], by rw [List.map_append]; rfl, by simp; omega, ?_⟩, ?_⟩
      · intro n hn
        rcases List.mem_append.mp hn with h | h
        · exact hb n h
        · simp at h; subst h; omega
      · show lenAt 4 m [_, _, _, _, some (.ow (.lst (xs.map D.int ++ [D.int 0]))), _, _] < lenAt 4 m [_, _, _, _, some (.ow (.lst (xs.map D.int))), _, _]
        simp [lenAt]; omega
    · have ht' : m ≤ xs.length := by simpa using ht
      exact ⟨_, rfl, xs, rfl, ht', hb⟩
  rintro _ ⟨xs, rfl, hl, hb⟩
  -- return numbers[:many]
  refine jss_cons (js_ret (j_sl (jv 4 rfl) jo_none (jo_some (jv 1 rfl)) sld_L) ⟨cut xs none (some (m : Int)), ?_, (cut_to xs m hl).1, fun n hn => hb n ((cut_to xs m hl).2 n hn)⟩)
  rw [map_cut]
end
end Toy

namespace Toy
open PySem PyProof.Rows L2 Pf
section
variable {P : Program} {w : World} {K : PySem.W.Frag} {mg : Str → Option Value} {base : Heap}
theorem join_ones (x : PySem.Str) (hx : x.cps = #[]) : ∀ L : List Nat, Txt.join x (L.map fun c => tx [c]) = tx L := by
  have key : ∀ (L : List Nat) (acc : Array Nat), (L.map fun c => tx [c]).foldl (fun acc p => acc ++ x.cps ++ p.cps) acc = acc ++ L.toArray := by
    intro L
    induction L with
    | nil => intro acc; simp
    | cons c L ih =>
      intro acc
      rw [List.map_cons, List.foldl_cons, ih, hx]
      simp [tx]
  intro L
  unfold Txt.join Builtin.Str.glued
  cases L with
  | nil => rfl
  | cons c L =>
    show (⟨List.foldl _ (tx [c]).cps (L.map fun c => tx [c])⟩ : PySem.Str) = _
    rw [key]
    unfold tx
    simp
def signsZ : PySem.Str := " !\"#$&'()*+,-./0123456789:;<=>?@ABCDEFGHIJKLMNOPQRSTUVWXYZ[\\]^_`abcdefghijklmnopqrstuvwxyz{|}~"
def signN (n : Int) : Nat := signsZ.cps.toList.getD (n % 94).toNat 32
theorem signs_len : signsZ.cps.toList.length = 94 := by decide +kernel
theorem sign_ok (n : Int) : 32 ≤ signN n ∧ signN n ≤ 126 := by
  have h : ∀ k : Nat, k < 94 → 32 ≤ signsZ.cps.toList.getD k 32 ∧ signsZ.cps.toList.getD k 32 ≤ 126 := by decide +kernel
  exact h (n % 94).toNat (by omega)
abbrev sSign : Stmt := top 23
theorem scSign : FnScope ["number", "signs"] ["number"] (defScope sSign) := ⟨rfl, rfl, rfl, by decide +kernel, rfl, by decide +kernel, by decide +kernel⟩
def gSign : List D → (D → Prop) → Prop := fun ds P => ∃ n : Int, ds = [.int n] ∧ P = fun d => d = .str (tx [signN n])
theorem ok_sign {f : Addr} {fd : FuncData} (F : Fun K "_law_sign" "_law_sign" sSign f fd) (T : Bt mg) : FnOk P w K mg base CX0 1 f fd ["number"] (spP K 1 gSign) := by
  refine fn_pure F scSign (by rintro ds Pd ⟨_, rfl, _⟩; rfl) fun cdv A outer s H E ds Pd hr hG => ?_
  obtain ⟨n, rfl, rfl⟩ := hG
  have nd := scSign.nd
  refine jss_cons (js_set (i := 1) (J.to j_str (congrArg D.str (by decide +kernel : _ = signsZ))) ?_ nd)
  exact jss_cons (js_ret (j_ixS (jv 1 rfl) (j_bin (jb_int T (ja_cons (jv 0 rfl) ja_nil)) j_int (od_modI (by decide))) (le_size (by show signsZ.cps.size ≤ _; rw [← Array.length_toList, signs_len]; decide)) (atI_getD 32 (by omega) (by rw [signs_len]; omega))) rfl)
theorem sum_ones : ∀ L : List Nat, ((L.map fun c => tx [c]).map (·.length)).sum = L.length
  | [] => rfl
  | c :: L => by rw [List.map_cons, List.map_cons, List.sum_cons, sum_ones L, List.length_cons, tx_len]; simp; omega
end
end Toy

namespace Toy
open PySem PyProof.Rows L2 Pf
section
variable {P : Program} {w : World} {K : PySem.W.Frag} {mg : Str → Option Value} {base : Heap}
/-- the module's constants -/
structure Gb (mg : Str → Option Value) : Prop where
  digs : ∃ t, mg "DIGITS" = some (.str "0123456789" t)
  longest : ∃ t, mg "LONGEST_BODY" = some (.int 700 t)
  prime : ∃ t, mg "PRIME" = some (.int 997 t)
  sized : ∃ t, mg "SIZE_DIGITS" = some (.int 3 t)
  numd : ∃ t, mg "NUMBER_DIGITS" = some (.int 6 t)
  endn : ∃ t, mg "END" = some (.int 7 t)
def dig3 (n : Nat) : List Nat := [48 + n / 100, 48 + n / 10 % 10, 48 + n % 10]
def placedN (cs : List Nat) : Nat := (cs.zipIdx.map fun p => (1 + p.2) * p.1).sum
def chkL (cs : List Nat) : List Nat := dig3 (cs.sum % 997) ++ dig3 (placedN cs % 997)
theorem chk_len (cs : List Nat) : (chkL cs).length = 6 := rfl
theorem sum_cast : ∀ cs : List Nat, (cs.map fun c : Nat => (c : Int)).sum = ((cs.sum : Nat) : Int)
  | [] => rfl
  | c :: cs => by rw [List.map_cons, List.sum_cons, sum_cast cs, List.sum_cons]; omega
abbrev nChk : List Str := ["text", "plain", "placed", "sign", "place"]
abbrev sChk : Stmt := top 9
theorem scChk : FnScope nChk ["text"] (defScope sChk) := ⟨rfl, rfl, rfl, by decide +kernel, rfl, by decide +kernel, by decide +kernel⟩
def gChk : List D → (D → Prop) → Prop := fun ds P => ∃ cs : List Nat, ds = [.str (tx cs)] ∧ cs.length ≤ 2000 ∧ P = fun d => d = .str (tx (chkL cs))
theorem ok_chk {f : Addr} {fd : FuncData} (F : Fun K "check_digits" "check_digits" sChk f fd) (T : Bt mg) (G : Gb mg) (ho : mg "ord" = none) : FnOk P w K mg base CX0 1 f fd ["text"] (spP K 1 gChk) := by
  refine fn_pure F scChk (by rintro ds Pd ⟨_, rfl, _⟩; rfl) fun cdv A outer s H E ds Pd hr hG => ?_
  obtain ⟨cs, rfl, hl, rfl⟩ := hG
  have nd := scChk.nd
  refine jss_cons (js_set (i := 1) (J.to (j_bin (jb_sum T (ns := cs.map fun c : Nat => (c : Int)) (ja_cons (J.to (j_lcM (own := [("sign", 3)]) (i := 3) cs (fun c : Nat => D.str ⟨#[c]⟩) (fun c : Nat => D.int (c : Int)) (ji_tx (jv 0 rfl)) (blkOk_by (N := nChk) (sc := defScope sChk) (by decide +kernel)) (fun _ _ _ _ _ => pg_name nd rfl (Or.inl rfl)) (lt_size (by omega)) (fun c hc s H C cl fp => jb_ord ho (ja_cons (jv 3 rfl) ja_nil)) nd) (by rw [List.map_map]; rfl)) ja_nil)) (j_gI G.prime) (od_modI (by decide))) (d' := .int ((cs.sum % 997 : Nat) : Int)) (by rw [sum_cast]; exact congrArg D.int (by omega))) ?_ nd)
  refine jss_cons (js_set (i := 2) (J.to (j_bin (jb_sum T (ns := (cs.zipIdx.map fun p => (1 + p.2) * p.1).map fun c : Nat => (c : Int)) (ja_cons (J.to (j_lc (own := [("place", 4), ("sign", 3)]) (pat := .tp [4, 3]) (its := cs.zipIdx.map fun p => (D.tup [.int (1 + (p.2 : Nat)), .str ⟨#[p.1]⟩], some (D.int ((((1 + p.2) * p.1 : Nat)) : Int)))) (by rw [show (cs.zipIdx.map fun p => (D.tup [.int (1 + (p.2 : Nat)), .str ⟨#[p.1]⟩], some (D.int ((((1 + p.2) * p.1 : Nat)) : Int)))).map (·.1) = enumD (tx cs) 1 from by rw [List.map_map]; rfl]; exact ji_enumX T (jv 0 rfl) (by decide) (by decide)) (blkOk_by (N := nChk) (sc := defScope sChk) (by decide +kernel)) (fun _ _ _ _ _ => pg_tup rfl (pgs_cons (pg_name nd rfl (Or.inl rfl)) (pgs_cons (pg_name nd rfl (Or.inl rfl)) pgs_nil))) (by decide) (by rw [List.length_map, List.length_zipIdx]; exact lt_size (by omega)) (fun q hq => ?_) nd) ?_) ja_nil)) (j_gI G.prime) (od_modI (by decide))) (d' := .int ((placedN cs % 997 : Nat) : Int)) (by rw [sum_cast]; exact congrArg D.int (by unfold placedN; omega))) ?_ nd)
  · obtain ⟨p, hp, rfl⟩ := List.mem_map.mp hq
    have hlt : p.2 < cs.length := by
      have := List.mem_zipIdx (x := p.1) (i := p.2) (k := 0) hp
      omega
    refine ⟨_, rfl, fun _ _ _ _ _ => ⟨jts_nil, J.to (j_bin (jv 4 rfl) (jb_ord ho (ja_cons (jv 3 rfl) ja_nil)) (od_mulI (cmulL (by show -(2 ^ 64) < (1 + (p.2 : Nat) : Int); omega) (by show (1 + (p.2 : Nat) : Int) < 2 ^ 64; omega)))) ?_⟩⟩
    exact congrArg D.int (by rw [Int.natCast_mul]; rfl)
  · rw [List.filterMap_map, List.map_map, List.map_map]
    exact congrArg D.lst (List.filterMap_eq_map (f := fun p : Nat × Nat => D.int ((((1 + p.2) * p.1 : Nat)) : Int)) ▸ rfl)
  refine jss_cons (js_ret (j_fs (.cons (j_fmt3 (jv 1 rfl) (by omega)) (.cons (j_fmt3 (jv 2 rfl) (by omega)) .nil)) rfl ?_) ?_)
  · show (joinS Str.empty [d3 _, d3 _]).length ≤ _
    unfold joinS joinS joinS
    rw [app_len, app_len]
    exact le_size (by show 0 + 3 + 3 ≤ _; decide)
  · exact congrArg D.str (by show (tx [] ++ tx (dig3 _)) ++ tx (dig3 _) = _; rw [tx_app, tx_app]; rfl)
theorem numS_tx (n : Int) : ((toString n : String) : Str) = tx (numS n) := (tx_of _).symm
theorem numS_len {n : Int} (h0 : 0 ≤ n) (h1 : n < 2000000) : (numS n).length ≤ 10 := by
  have := PySem.W.KT.len_num h0 (by omega)
  unfold numS
  rw [Array.length_toList]
  exact this
theorem log_of {n : Int} (h0 : 0 ≤ n) (h1 : n < 2000000) : n.natAbs.log2 < 1920 := by
  rcases Nat.eq_zero_or_pos n.natAbs with h | h
  · rw [h]; decide
  · exact (Nat.log2_lt (by omega)).mpr (Nat.lt_of_lt_of_le (by omega : n.natAbs < 2 ^ 21) (Nat.pow_le_pow_right (by decide) (by decide)))
def headN (n : Int) (b : List Nat) : List Nat := numS b.length ++ 32 :: (numS n ++ 32 :: b)
def lineN (n : Int) (b : List Nat) : List Nat := headN n b ++ 32 :: chkL (headN n b)
abbrev sRec : Stmt := top 10
theorem scRec : FnScope ["number", "body", "text"] ["number", "body"] (defScope sRec) := ⟨rfl, rfl, rfl, by decide +kernel, rfl, by decide +kernel, by decide +kernel⟩
def gRec : List D → (D → Prop) → Prop := fun ds P => ∃ (n : Int) (b : List Nat), ds = [.int n, .str (tx b)] ∧ 0 ≤ n ∧ n < 2000000 ∧ b.length ≤ 1000 ∧ P = fun d => d = .str (tx (lineN n b))
theorem head_len {n : Int} {b : List Nat} (h0 : 0 ≤ n) (h1 : n < 2000000) (hb : b.length ≤ 1000) : (headN n b).length ≤ 1100 := by
  have k1 := numS_len (n := (b.length : Int)) (by omega) (by omega)
  have k2 := numS_len h0 h1
  unfold headN
  rw [List.length_append, List.length_cons, List.length_append, List.length_cons]
  omega
theorem ok_rec {f : Addr} {fd : FuncData} (F : Fun K "record_line" "record_line" sRec f fd) (T : Bt mg) (cC : PFn P w K mg base 1 "check_digits" 1 gChk) : FnOk P w K mg base CX0 2 f fd ["number", "body"] (spP K 2 gRec) := by
  refine fn_pure F scRec (by rintro ds Pd ⟨_, _, rfl, _⟩; rfl) fun cdv A outer s H E ds Pd hr hG => ?_
  obtain ⟨n, b, rfl, h0, h1, hb, rfl⟩ := hG
  have nd := scRec.nd
  have hh := head_len h0 h1 hb
  refine jss_cons (js_set (i := 2) (j_fs (z := tx (headN n b)) (.cons (j_fmtI (jb_len T (ja_cons (jv 1 rfl) ja_nil) (lenS (by rw [tx_len]; exact le_size (by omega)))) (log_of (by omega) (by rw [show ((tx b).length : Int) = (b.length : Nat) from by rw [tx_len]]; omega))) (.cons j_str (.cons (j_fmtI (jv 0 rfl) (log_of h0 h1)) (.cons j_str (.cons (j_fmtS (jv 1 rfl) (by rw [tx_len]; exact le_size (by omega))) .nil))))) ?_ (by rw [tx_len]; exact le_size (by omega))) ?_ nd)
  · unfold joinS joinS joinS joinS joinS joinS
    rw [show ((tx b).length : Int) = ((b.length : Nat) : Int) from by rw [tx_len], numS_tx, numS_tx, show (" " : Str) = tx [32] from by decide +kernel, show Str.empty = tx [] from rfl]
    rw [tx_app, tx_app, tx_app, tx_app, tx_app]
    unfold headN
    congr 1
    simp
  refine jss_cons (js_ret (J.to (j_bin (j_bin (jv 2 rfl) j_str (od_addS ?_)) (j_call cC hr (ja_cons (jv 2 rfl) ja_nil) ⟨_, rfl, by omega, rfl⟩ (fun _ h => h)) (od_addS ?_)) (d' := .str (tx (lineN n b))) ?_) rfl)
  · rw [show (" " : Str) = tx [32] from by decide +kernel, tx_len, tx_len]; exact le_size (by simp; omega)
  · rw [show (" " : Str) = tx [32] from by decide +kernel, tx_app, tx_len, tx_len, chk_len, List.length_append]; exact le_size (by simp; omega)
  · rw [show (" " : Str) = tx [32] from by decide +kernel, tx_app, tx_app]
    unfold lineN
    rw [List.append_assoc]
    rfl
abbrev sTxt : Stmt := top 11
theorem scTxt : FnScope ["number", "body"] ["number", "body"] (defScope sTxt) := ⟨rfl, rfl, rfl, by decide +kernel, rfl, by decide +kernel, by decide +kernel⟩
def gTxt : List D → (D → Prop) → Prop := fun ds P => ∃ (n : Int) (b : List Nat), ds = [.int n, .str (tx b)] ∧ 0 ≤ n ∧ n < 2000000 ∧ b.length ≤ 1000 ∧ P = fun d => d = .str (tx (lineN n b ++ [10]))
theorem line_len {n : Int} {b : List Nat} (h0 : 0 ≤ n) (h1 : n < 2000000) (hb : b.length ≤ 1000) : (lineN n b).length ≤ 1107 := by
  have := head_len h0 h1 hb
  unfold lineN
  rw [List.length_append, List.length_cons, chk_len]
  omega
theorem nl_tx : ("\n" : Str) = tx [10] := by decide +kernel
theorem ok_txt {f : Addr} {fd : FuncData} (F : Fun K "record_text" "record_text" sTxt f fd) (cR : PFn P w K mg base 2 "record_line" 2 gRec) : FnOk P w K mg base CX0 3 f fd ["number", "body"] (spP K 2 gTxt) := by
  refine fn_pure F scTxt (by rintro ds Pd ⟨_, _, rfl, _⟩; rfl) fun cdv A outer s H E ds Pd hr hG => ?_
  obtain ⟨n, b, rfl, h0, h1, hb, rfl⟩ := hG
  have := line_len h0 h1 hb
  exact jss_cons (js_ret (J.to (j_bin (j_call cR hr (ja_cons (jv 0 rfl) (ja_cons (jv 1 rfl) ja_nil)) ⟨n, b, rfl, h0, h1, hb, rfl⟩ (fun _ h => h)) j_str (od_addS (by rw [nl_tx, tx_len, tx_len]; exact le_size (by simp; omega)))) (d' := .str (tx (lineN n b ++ [10]))) (by rw [nl_tx, tx_app])) rfl)
end
end Toy

namespace Toy
open PySem PyProof.Rows L2 Pf
open PySem.NumText (AllDigits digitsVal)
section
variable {P : Program} {w : World} {K : PySem.W.Frag} {mg : Str → Option Value} {base : Heap}
def okSign (c : Nat) : Bool := decide (32 ≤ c) && decide (c ≤ 126)
def isB (cs : List Nat) : Bool := (decide (1 ≤ cs.length) && decide (cs.length ≤ 700)) && cs.all okSign
theorem lt_one (c d : Nat) : (!decide (([c] : List Nat) < [d])) = decide (d ≤ c) := by
  rw [Bool.eq_iff_iff, Bool.not_eq_true', decide_eq_false_iff_not, decide_eq_true_iff, List.cons_lt_cons_iff]
  constructor
  · intro h
    exact Nat.le_of_not_lt fun q => h (.inl q)
  · rintro h (q | ⟨_, q⟩)
    · omega
    · exact absurd q (by decide)
abbrev sIsB : Stmt := top 12
theorem scIsB : FnScope ["text", "sign"] ["text"] (defScope sIsB) := ⟨rfl, rfl, rfl, by decide +kernel, rfl, by decide +kernel, by decide +kernel⟩
def gIsB : List D → (D → Prop) → Prop := fun ds P => ∃ cs : List Nat, ds = [.str (tx cs)] ∧ cs.length ≤ 2000 ∧ P = fun d => d = .bl (isB cs)
theorem ok_isB {f : Addr} {fd : FuncData} (F : Fun K "is_body" "is_body" sIsB f fd) (T : Bt mg) (G : Gb mg) : FnOk P w K mg base CX0 1 f fd ["text"] (spP K 1 gIsB) := by
  refine fn_pure F scIsB (by rintro ds Pd ⟨_, rfl, _⟩; rfl) fun cdv A outer s H E ds Pd hr hG => ?_
  obtain ⟨cs, rfl, hl, rfl⟩ := hG
  have nd := scIsB.nd
  refine jss_cons (js_ret (J.to (j_and (J.to (j_ch j_int (jb_len T (ja_cons (jv 0 rfl) ja_nil) (lenS (by rw [tx_len]; exact le_size (by omega)))) (j_gI G.longest) cd_leI cd_leI) (d' := .bl (decide (1 ≤ cs.length) && decide (cs.length ≤ 700))) ?_) (fun _ => j_one (J.to (jb_all T (bs := cs.map okSign) (ja_cons (J.to (j_lcM (own := [("sign", 1)]) (i := 1) cs (fun c : Nat => D.str ⟨#[c]⟩) (fun c => D.bl (okSign c)) (ji_tx (jv 0 rfl)) (blkOk_by (N := ["text", "sign"]) (sc := defScope sIsB) (by decide +kernel)) (fun _ _ _ _ _ => pg_name nd rfl (Or.inl rfl)) (lt_size (by omega)) (fun c hc s H C cl fp => J.to (j_ch j_str (jv 1 rfl) j_str cd_leS cd_leS) ?_) nd) (by rw [List.map_map]; rfl)) ja_nil)) (d' := .bl (cs.all okSign)) (by rw [List.all_map]; rfl)))) rfl) rfl)
  · rw [tx_len]
    exact congrArg D.bl (by congr 1 <;> exact decide_eq_decide.mpr (by omega))
  · show D.bl (!decide ([c] < (" " : Str).cps.toList) && !decide (("~" : Str).cps.toList < [c])) = _
    rw [show (" " : Str).cps.toList = [32] from by decide +kernel, show ("~" : Str).cps.toList = [126] from by decide +kernel, lt_one, lt_one]
    rfl
abbrev sNum : Stmt := top 2
theorem scNum : FnScope ["word", "digits", "sign"] ["word", "digits"] (defScope sNum) := ⟨rfl, rfl, rfl, by decide +kernel, rfl, by decide +kernel, by decide +kernel⟩
def gNum : List D → (D → Prop) → Prop := fun ds P => ∃ (cs : List Nat) (k : Nat), ds = [.str (tx cs), .int k] ∧ cs.length ≤ 2000 ∧ k ≤ 600 ∧ P = fun d => d = optN (pNum cs k)
theorem ok_num {f : Addr} {fd : FuncData} (F : Fun K "parse_number" "parse_number" sNum f fd) (T : Bt mg) (G : Gb mg) : FnOk P w K mg base CX0 1 f fd ["word", "digits"] (spP K 2 gNum) := by
  refine fn_pure F scNum (by rintro ds Pd ⟨_, _, rfl, _⟩; rfl) fun cdv A outer s H E ds Pd hr hG => ?_
  obtain ⟨cs, k, rfl, hl, hk, rfl⟩ := hG
  have nd := scNum.nd
  have e1 : (decide ((1 : Int) ≤ ((tx cs).length : Int)) && decide (((tx cs).length : Int) ≤ (k : Int))) = (decide (1 ≤ cs.length) && decide (cs.length ≤ k)) := by
    rw [tx_len]
    congr 1 <;> exact decide_eq_decide.mpr (by omega)
  have hz : (tx cs).length ≤ sizeLine := by rw [tx_len]; exact le_size (by omega)
  refine jss_cons (js_if (t := !okNum cs k) (JT.to (jt_w (jw_or (jt_not (jt_ch j_int (jb_len T (ja_cons (jv 0 rfl) ja_nil) (lenS hz)) (jv 1 rfl) cd_leI cd_leI)) (fun _ => jw_or1 (jt_not (jt_val (jb_all T (bs := cs.map isDg) (ja_cons (J.to (j_lcM (own := [("sign", 2)]) (i := 2) cs (fun c : Nat => D.str ⟨#[c]⟩) (fun c => D.bl (isDg c)) (ji_tx (jv 0 rfl)) (blkOk_by (N := ["word", "digits", "sign"]) (sc := defScope sNum) (by decide +kernel)) (fun _ _ _ _ _ => pg_name nd rfl (Or.inl rfl)) (lt_size (by omega)) (fun c hc s H C cl fp => J.to (j_cm (jv 2 rfl) (j_gS G.digs) cd_inSign) (congrArg D.bl (dg_mem c))) nd) (by rw [List.map_map]; rfl)) ja_nil))))))) ?_) (fun h => ?_) (fun h => jss_nil ?_))
  · rw [e1, List.all_map]
    show (!(decide (1 ≤ cs.length) && decide (cs.length ≤ k)) || !cs.all isDg) = !((decide (1 ≤ cs.length) && decide (cs.length ≤ k)) && cs.all isDg)
    cases (decide (1 ≤ cs.length) && decide (cs.length ≤ k)) <;> cases cs.all isDg <;> rfl
  · refine jss_cons (js_ret j_non ?_)
    unfold pNum
    rw [if_neg (by rw [Bool.not_eq_true'] at h; rw [h]; decide)]
    rfl
  have hok : okNum cs k = true := by rw [Bool.not_eq_false'] at h; exact h
  have hparts := hok
  unfold okNum at hparts
  rw [Bool.and_eq_true, Bool.and_eq_true, decide_eq_true_iff, decide_eq_true_iff] at hparts
  obtain ⟨⟨hl1, hl2⟩, hd⟩ := hparts
  have hAll : AllDigits cs := by
    intro c hc
    have := List.all_eq_true.mp hd c hc
    unfold isDg at this
    rw [Bool.and_eq_true, decide_eq_true_iff, decide_eq_true_iff] at this
    exact this
  have hread : PySem.intText? (tx cs) = some ((digitsVal cs : Nat) : Int) := intText_digits (x := tx cs) hAll (by intro q; rw [tx_cps] at q; rw [q] at hl1; simp at hl1) (by rw [tx_len]; omega)
  refine jss_cons (js_if (t := zeroed cs) (JT.to (jt_w (jw_and (jt_cm (j_ixS (n := cs.getD 0 0) (jv 0 rfl) j_int hz (atI_N 0 0 rfl (by rw [tx_cps]; omega))) j_str cd_eqS) (fun _ => jw_and1 (jt_cm (jv 0 rfl) j_str cd_neS)))) ?_) (fun h => ?_) (fun h => jss_nil ?_))
  · rw [show ("0" : Str) = tx [48] from by decide +kernel]
    unfold zeroed
    congr 1
    · exact decide_eq_decide.mpr ⟨fun q => by have := tx_inj (a := [cs.getD 0 0]) (b := [48]) q; simpa using this, fun q => by rw [q]; rfl⟩
    · congr 1
      exact decide_eq_decide.mpr ⟨fun q => tx_inj q, fun q => by rw [q]⟩
  · refine jss_cons (js_ret j_non ?_)
    unfold pNum
    rw [if_pos hok, if_pos h]
    rfl
  · refine jss_cons (js_ret (jb_intS T (ja_cons (jv 0 rfl) ja_nil) hread (by rw [tx_len]; omega)) ?_)
    unfold pNum
    rw [if_pos hok, if_neg (by rw [h]; decide)]
    rfl
theorem pNum_lt {cs : List Nat} {k n : Nat} (h : pNum cs k = some n) : n < 10 ^ k := by
  unfold pNum at h
  split at h
  · rename_i hok
    split at h
    · cases h
    · cases h
      unfold okNum at hok
      rw [Bool.and_eq_true, Bool.and_eq_true, decide_eq_true_iff, decide_eq_true_iff] at hok
      have hAll : AllDigits cs := by
        intro c hc
        have := List.all_eq_true.mp hok.2 c hc
        unfold isDg at this
        rw [Bool.and_eq_true, decide_eq_true_iff, decide_eq_true_iff] at this
        exact this
      exact Nat.lt_of_lt_of_le (val_lt cs hAll) (Nat.pow_le_pow_right (by decide) hok.1.2)
  · cases h
def wordsN (cs : List Nat) : List (List Nat) := (Txt.splitMax (tx cs) (tx [32]) 2).map fun z => z.cps.toList
theorem words_short {cs v : List Nat} (h : v ∈ wordsN cs) : v.length ≤ cs.length := by
  obtain ⟨z, hz, rfl⟩ := List.mem_map.mp h
  have := partMax_short hz
  rw [tx_len] at this
  rw [Array.length_toList]
  exact this
theorem words_str (cs : List Nat) : Txt.splitMax (tx cs) (tx [32]) 2 = (wordsN cs).map tx := by
  unfold wordsN
  rw [List.map_map]
  exact (List.map_id _).symm.trans (List.map_congr_left fun z _ => (tx_of z).symm)
def bodyOf (cs : List Nat) : List Nat := cut ((wordsN cs).getD 2 []) none (some (-7))
def sizeOf (cs : List Nat) : Option Nat := pNum ((wordsN cs).getD 0 []) 3
def numOf (cs : List Nat) : Option Nat := pNum ((wordsN cs).getD 1 []) 6
def readBad (cs : List Nat) : Bool := !decide (sizeOf cs = some (bodyOf cs).length) || ((numOf cs).isNone || !isB (bodyOf cs))
def readR (cs : List Nat) : Option (Nat × List Nat) :=
  if decide ((wordsN cs).length < 3) = true then none
  else if readBad cs = true then none
  else if decide (lineN (((numOf cs).getD 0 : Nat) : Int) (bodyOf cs) = cs) = true then some ((numOf cs).getD 0, bodyOf cs) else none
def recD : Option (Nat × List Nat) → D
  | none => .non
  | some (n, b) => .tup [.int (n : Int), .str (tx b)]
abbrev nRead : List Str := ["line", "words", "size", "number", "body"]
abbrev sRead : Stmt := top 13
theorem scRead : FnScope nRead ["line"] (defScope sRead) := ⟨rfl, rfl, rfl, by decide +kernel, rfl, by decide +kernel, by decide +kernel⟩
def gRead : List D → (D → Prop) → Prop := fun ds P => ∃ cs : List Nat, ds = [.str (tx cs)] ∧ cs.length ≤ 2000 ∧ P = fun d => d = recD (readR cs)
theorem optN_fit (o : Option Nat) (n : Nat) : fitD (n + 1) (optN o) = true := by cases o <;> rfl
theorem ne_size (o : Option Nat) (k : Nat) : (!eqvD (optN o) (.int (k : Int))) = !decide (o = some k) := by
  congr 1
  cases o with
  | none => rfl
  | some n =>
    show decide ((n : Int) = (k : Int)) = _
    exact decide_eq_decide.mpr ⟨fun h => by rw [Int.ofNat_inj.mp h], fun h => by cases h; rfl⟩
theorem isN_opt (o : Option Nat) : isNon (optN o) = o.isNone := by cases o <;> rfl
theorem ok_read {f : Addr} {fd : FuncData} (F : Fun K "read_record" "read_record" sRead f fd) (T : Bt mg) (G : Gb mg) (cN : PFn P w K mg base 1 "parse_number" 2 gNum) (cB : PFn P w K mg base 1 "is_body" 1 gIsB) (cR : PFn P w K mg base 2 "record_line" 2 gRec) : FnOk P w K mg base CX0 3 f fd ["line"] (spP K 1 gRead) := by
  refine fn_pure F scRead (by rintro ds Pd ⟨_, rfl, _⟩; rfl) fun cdv A outer s H E ds Pd hr hG => ?_
  obtain ⟨cs, rfl, hl, rfl⟩ := hG
  have nd := scRead.nd
  refine jss_cons (js_set (i := 1) (J.to (j_splitMax (jv 0 rfl) (ja_cons j_str (ja_cons j_int ja_nil)) (by decide +kernel) (by decide) (by decide) (by rw [tx_len]; exact le_size (by omega))) (d' := .lst ((wordsN cs).map fun v => D.str (tx v))) (by rw [show (" " : Str) = tx [32] from by decide +kernel, words_str, List.map_map]; rfl)) ?_ nd)
  refine jss_cons (js_if (t := decide ((wordsN cs).length < 3)) (JT.to (jt_cm (jb_len T (ja_cons (jv 1 rfl) ja_nil) rfl) j_int cd_ltI) (by rw [List.length_map]; exact decide_eq_decide.mpr (by omega))) (fun h => ?_) (fun h => jss_nil ?_))
  · refine jss_cons (js_ret j_non ?_)
    unfold readR
    rw [if_pos h]
    rfl
  have h3 : ¬ (wordsN cs).length < 3 := of_decide_eq_false h
  have w0 := words_short (cs := cs) (v := (wordsN cs).getD 0 []) (by rw [List.getD_eq_getElem?_getD, List.getElem?_eq_getElem (by omega)]; exact List.getElem_mem _)
  have w1 := words_short (cs := cs) (v := (wordsN cs).getD 1 []) (by rw [List.getD_eq_getElem?_getD, List.getElem?_eq_getElem (by omega)]; exact List.getElem_mem _)
  have w2 := words_short (cs := cs) (v := (wordsN cs).getD 2 []) (by rw [List.getD_eq_getElem?_getD, List.getElem?_eq_getElem (by omega)]; exact List.getElem_mem _)
  have wb : (bodyOf cs).length ≤ 2000 := Nat.le_trans (cut_len _ _ _) (by omega)
  refine jss_cons (js_set (i := 2) (J.to (j_call cN hr (ja_cons (j_ix (jv 1 rfl) j_int (ixd_L (atI_mapN (fun v => D.str (tx v)) [] 0 rfl (by omega)))) (ja_cons (j_gI G.sized) ja_nil)) ⟨_, 3, rfl, by omega, by decide, rfl⟩ (fun _ h => h)) (d' := optN (sizeOf cs)) rfl) ?_ nd)
  refine jss_cons (js_set (i := 3) (J.to (j_call cN hr (ja_cons (j_ix (jv 1 rfl) j_int (ixd_L (atI_mapN (fun v => D.str (tx v)) [] 1 rfl (by omega)))) (ja_cons (j_gI G.numd) ja_nil)) ⟨_, 6, rfl, by omega, by decide, rfl⟩ (fun _ h => h)) (d' := optN (numOf cs)) rfl) ?_ nd)
  refine jss_cons (js_set (i := 4) (J.to (j_slS (z := tx ((wordsN cs).getD 2 [])) (j_ix (jv 1 rfl) j_int (ixd_L (atI_mapN (fun v => D.str (tx v)) [] 2 rfl (by omega)))) (by rw [tx_len]; exact le_size (by omega)) jo_none (jo_some (j_neg (j_gI G.endn)))) (d' := .str (tx (bodyOf cs))) (by rw [cutS_tx]; rfl)) ?_ nd)
  refine jss_cons (js_if (t := readBad cs) (JT.to (jt_w (jw_or (jt_cm (jv 2 rfl) (jb_len T (ja_cons (jv 4 rfl) ja_nil) (lenS (by rw [tx_len]; exact le_size (by omega)))) (cd_neF 2 hr.units (optN_fit _ _) rfl)) (fun _ => jw_or (jt_cm (jv 3 rfl) j_non cd_isN) (fun _ => jw_or1 (jt_not (jt_val (j_call cB hr (ja_cons (jv 4 rfl) ja_nil) ⟨_, rfl, wb, rfl⟩ (fun _ h => h)))))))) ?_) (fun h' => ?_) (fun h' => jss_nil ?_))
  · rw [tx_len]
    show (!eqvD (optN (sizeOf cs)) (.int ((bodyOf cs).length : Int)) || (isNon (optN (numOf cs)) || !isB (bodyOf cs))) = _
    rw [ne_size, isN_opt]
    rfl
  · refine jss_cons (js_ret j_non ?_)
    unfold readR
    rw [if_neg (by rw [h]; decide), if_pos h']
    rfl
  have hq := h'
  unfold readBad at hq
  rw [Bool.or_eq_false_iff, Bool.or_eq_false_iff] at hq
  obtain ⟨n, hn⟩ : ∃ n, numOf cs = some n := by
    cases hn : numOf cs with
    | none => rw [hn] at hq; exact absurd hq.2.1 (by decide)
    | some n => exact ⟨n, rfl⟩
  have hlt : n < 10 ^ 6 := pNum_lt (k := 6) hn
  have hbl : (bodyOf cs).length ≤ 700 := by
    have := hq.2.2
    rw [Bool.not_eq_false'] at this
    unfold isB at this
    rw [Bool.and_eq_true, Bool.and_eq_true, decide_eq_true_iff, decide_eq_true_iff] at this
    exact this.1.2
  rw [hn]
  refine jss_cons (js_ret (j_ifExp (t := decide (lineN (n : Int) (bodyOf cs) = cs)) (JT.to (jt_cm (j_call cR hr (ja_cons (jv 3 rfl) (ja_cons (jv 4 rfl) ja_nil)) ⟨(n : Int), _, rfl, by omega, by omega, by omega, rfl⟩ (fun _ h => h)) (jv 0 rfl) cd_eqS) (decide_eq_decide.mpr ⟨fun q => tx_inj q, fun q => by rw [q]⟩)) (fun _ => j_tup (ja_cons (jv 3 rfl) (ja_cons (jv 4 rfl) ja_nil))) (fun _ => j_non)) ?_)
  unfold readR
  rw [if_neg (by rw [h]; decide), if_neg (by rw [h']; decide), hn]
  show _ = recD (if decide (lineN (n : Int) (bodyOf cs) = cs) = true then some (n, bodyOf cs) else none)
  split <;> rfl
end
end Toy

namespace Toy
open PySem PyProof.Rows L2 Pf
open PySem.NumText (AllDigits digitsVal)
theorem numS_inj {n m : Nat} (h : numS (n : Int) = numS (m : Int)) : n = m := by rw [← numS_val n, ← numS_val m, h]
def stepO (cs : List Nat) (st : Array Nat × Nat) (i : Nat) : Array Nat × Nat := if (st.1.size < 2 ∧ st.2 ≤ i) ∧ cs[i]? = some 32 then (st.1.push i, i + 1) else st
theorem run_O (cs : List Nat) : ∀ (l : List Nat) (st : Array Nat × Nat), (forIn l st (StrLaws.occBody (tx cs) (tx [32]) (tx cs).length 2)).run = l.foldl (stepO cs) st
  | [], st => rfl
  | a :: l, st => by
    rw [List.forIn_cons, List.foldl_cons]
    have hs := StrLaws.subAt_one (tx cs) 32 a
    unfold StrLaws.occBody stepO
    by_cases q : ((st.fst.size < 2 ∧ st.snd ≤ a) ∧ a + (tx [32]).length ≤ (tx cs).length) ∧ Builtin.Str.subAt (tx cs) (tx [32]) a = true
    · rw [if_pos q, if_pos ⟨q.1.1, hs.mp ⟨q.1.2, q.2⟩⟩]
      exact run_O cs l _
    · rw [if_neg q, if_neg fun z => q ⟨⟨z.1, (hs.mpr z.2).1⟩, (hs.mpr z.2).2⟩]
      exact run_O cs l _
theorem skip_O (cs : List Nat) : ∀ (l : List Nat) (st : Array Nat × Nat), (2 ≤ st.1.size ∨ ∀ i ∈ l, cs[i]? ≠ some 32) → l.foldl (stepO cs) st = st
  | [], _, _ => rfl
  | a :: l, st, h => by
    have h1 : stepO cs st a = st := by
      unfold stepO
      refine if_neg fun z => ?_
      rcases h with h | h
      · omega
      · exact h a List.mem_cons_self z.2
    rw [List.foldl_cons, h1]
    exact skip_O cs l st (h.imp id fun h i hi => h i (List.mem_cons_of_mem _ hi))
theorem occ_two {A B C : List Nat} (hA : 32 ∉ A) (hB : 32 ∉ B) : Builtin.Str.occurrences (tx (A ++ 32 :: (B ++ 32 :: C))) (tx [32]) 0 (tx (A ++ 32 :: (B ++ 32 :: C))).length 2 = [A.length, A.length + 1 + B.length] := by
  generalize hcs : A ++ 32 :: (B ++ 32 :: C) = cs
  have hl : cs.length = A.length + 1 + B.length + 1 + C.length := by rw [← hcs]; simp; omega
  rw [StrLaws.occ_eq, run_O, tx_len, Nat.sub_zero]
  have e1 : List.range' 0 (cs.length + 1) = List.range' 0 A.length ++ (A.length :: (List.range' (A.length + 1) B.length ++ ((A.length + 1 + B.length) :: List.range' (A.length + 1 + B.length + 1) (C.length + 1)))) := by
    have r1 : (A.length + 1 + B.length) :: List.range' (A.length + 1 + B.length + 1) (C.length + 1) = List.range' (A.length + 1 + B.length) (C.length + 2) := rfl
    rw [r1, List.range'_append_1]
    have r2 : A.length :: List.range' (A.length + 1) (B.length + (C.length + 2)) = List.range' A.length (B.length + (C.length + 2) + 1) := rfl
    rw [r2]
    have r3 := List.range'_append_1 (s := 0) (m := A.length) (n := B.length + (C.length + 2) + 1)
    rw [Nat.zero_add] at r3
    rw [r3, hl]
    congr 1
    omega
  have gA : cs[A.length]? = some 32 := by rw [← hcs, List.getElem?_append_right (Nat.le_refl _), Nat.sub_self]; rfl
  have gB : cs[A.length + 1 + B.length]? = some 32 := by
    rw [← hcs, List.getElem?_append_right (by omega), show A.length + 1 + B.length - A.length = B.length + 1 by omega, List.getElem?_cons_succ, List.getElem?_append_right (Nat.le_refl _), Nat.sub_self]; rfl
  rw [e1, List.foldl_append, skip_O cs (List.range' 0 A.length) _ (.inr fun i hi q => ?_), List.foldl_cons]
  · rw [show stepO cs (#[], 0) A.length = (#[A.length], A.length + 1) from if_pos ⟨⟨by simp, Nat.zero_le _⟩, gA⟩]
    rw [List.foldl_append, skip_O cs (List.range' (A.length + 1) B.length) _ (.inr fun i hi q => ?_), List.foldl_cons]
    · rw [show stepO cs (#[A.length], A.length + 1) (A.length + 1 + B.length) = (#[A.length, A.length + 1 + B.length], A.length + 1 + B.length + 1) from if_pos ⟨⟨by simp, by simp⟩, gB⟩]
      rw [skip_O cs _ _ (.inl (by simp))]
    · obtain ⟨h1, h2⟩ := List.mem_range'_1.mp hi
      rw [← hcs, List.getElem?_append_right (by omega), show i - A.length = (i - A.length - 1) + 1 by omega, List.getElem?_cons_succ, List.getElem?_append_left (by omega)] at q
      exact hB (List.mem_of_getElem? q)
  · obtain ⟨h1, h2⟩ := List.mem_range'_1.mp hi
    rw [← hcs, List.getElem?_append_left (by omega)] at q
    exact hA (List.mem_of_getElem? q)
theorem sub_tx (cs : List Nat) (i j : Nat) : (Builtin.Str.strSub (tx cs) i j).cps.toList = (cs.drop i).take (j - i) := by
  unfold Builtin.Str.strSub tx
  simp [List.drop_take]
theorem dropA (A R : List Nat) : (A ++ 32 :: R).drop (A.length + 1) = R := by
  rw [show A ++ 32 :: R = (A ++ [32]) ++ R by simp]
  exact List.drop_left' (by simp)
theorem words_of {A B C : List Nat} (hA : 32 ∉ A) (hB : 32 ∉ B) : wordsN (A ++ 32 :: (B ++ 32 :: C)) = [A, B, C] := by
  unfold wordsN Txt.splitMax
  have ho := occ_two (C := C) hA hB
  rw [show limitOf (tx (A ++ 32 :: (B ++ 32 :: C))) 2 = 2 from rfl, ho]
  rw [if_neg, if_neg (by simp), StrLaws.partsBetween_eq]
  · show [(Builtin.Str.strSub _ 0 A.length).cps.toList, (Builtin.Str.strSub _ (A.length + 1) (A.length + 1 + B.length)).cps.toList, (Builtin.Str.strSub _ (A.length + 1 + B.length + 1) (tx _).length).cps.toList] = _
    rw [sub_tx, sub_tx, sub_tx, tx_len, List.drop_zero, Nat.sub_zero, List.take_left' rfl, dropA, show A.length + 1 + B.length - (A.length + 1) = B.length by omega, List.take_left' rfl]
    rw [show A.length + 1 + B.length + 1 = (A.length + 1) + (B.length + 1) by omega, ← List.drop_drop, dropA, dropA]
    rw [List.take_of_length_le (by simp; omega)]
  · rw [Bool.or_eq_true, decide_eq_true_iff, decide_eq_true_iff, tx_len, tx_len]
    have k1 : Builtin.Str.strKind (tx [32]) = 1 := by decide +kernel
    have k2 : 1 ≤ Builtin.Str.strKind (tx (A ++ 32 :: (B ++ 32 :: C))) := by
      unfold Builtin.Str.strKind
      split
      · exact Nat.le_refl _
      · split <;> decide
    rw [k1]
    simp
    omega
theorem no32 (m : Nat) : 32 ∉ numS (m : Int) := fun h => by have := numS_dig m 32 h; omega
theorem words_line (n : Nat) (b : List Nat) : wordsN (lineN (n : Int) b) = [numS (b.length : Int), numS (n : Int), b ++ 32 :: chkL (headN (n : Int) b)] := by
  rw [← words_of (no32 b.length) (no32 n)]
  unfold lineN
  conv => lhs; arg 1; unfold headN
  simp
  rfl
theorem readR_line {n : Nat} {b : List Nat} (hn : n < 1000000) (hb : isB b = true) : readR (lineN (n : Int) b) = some (n, b) := by
  have hbl : b.length ≤ 700 := by
    unfold isB at hb
    rw [Bool.and_eq_true, Bool.and_eq_true, decide_eq_true_iff, decide_eq_true_iff] at hb
    exact hb.1.2
  have hw := words_line n b
  have hbo : bodyOf (lineN (n : Int) b) = b := by
    unfold bodyOf
    rw [hw]
    show cut (b ++ 32 :: chkL (headN (n : Int) b)) none (some (-7)) = b
    unfold cut HT.sIx
    dsimp only
    rw [if_pos (by decide), List.drop_zero, Nat.sub_zero, List.length_append, List.length_cons, chk_len]
    rw [show (-7 + ((b.length + (6 + 1) : Nat) : Int)).toNat = b.length by omega]
    simp
  have hs : sizeOf (lineN (n : Int) b) = some b.length := by
    unfold sizeOf
    rw [hw]
    exact pNum_num (by decide) (by omega)
  have hnu : numOf (lineN (n : Int) b) = some n := by
    unfold numOf
    rw [hw]
    exact pNum_num (by decide) (by omega)
  have hbad : readBad (lineN (n : Int) b) = false := by
    unfold readBad
    rw [hs, hbo, hnu, hb, decide_eq_true rfl]
    rfl
  unfold readR
  rw [if_neg (by rw [hw]; exact fun q => absurd (of_decide_eq_true q) (Nat.lt_irrefl 3)), if_neg (by rw [hbad]; decide), hnu, hbo]
  rw [if_pos (show decide (lineN (((some n).getD 0 : Nat) : Int) b = lineN (n : Int) b) = true from decide_eq_true rfl)]
  rfl
theorem readR_some {cs : List Nat} {n : Nat} {b : List Nat} (h : readR cs = some (n, b)) : lineN (n : Int) b = cs ∧ n < 1000000 ∧ isB b = true := by
  unfold readR at h
  split at h
  · cases h
  · split at h
    · cases h
    · rename_i hbad
      split at h
      · rename_i q
        rw [Bool.not_eq_true] at hbad
        unfold readBad at hbad
        rw [Bool.or_eq_false_iff, Bool.or_eq_false_iff] at hbad
        cases hn : numOf cs with
        | none => rw [hn] at hbad; exact absurd hbad.2.1 (by decide)
        | some m =>
          rw [hn] at h q
          cases h
          refine ⟨of_decide_eq_true q, pNum_lt (k := 6) hn, ?_⟩
          have := hbad.2.2
          rwa [Bool.not_eq_false'] at this
      · cases h
end Toy

namespace Toy
open PySem PyProof.Rows L2 Pf
open PySem.NumText (AllDigits digitsVal)
section
variable {P : Program} {w : World} {K : PySem.W.Frag} {mg : Str → Option Value} {base : Heap}
theorem sp_tx : (" " : Str) = tx [32] := by decide +kernel
theorem three_cut (m : Nat) (h : m < 997) : cut (48 :: 48 :: numS (m : Int)) (some (-3)) none = dig3 m := by
  rw [signs_of]
  exact (by decide +kernel : ∀ m : Nat, m < 997 → cut (48 :: 48 :: (Nat.toDigits 10 m).map Char.toNat) (some (-3)) none = dig3 m) m h
abbrev sThree : Stmt := top 19
theorem scThree : FnScope ["number"] ["number"] (defScope sThree) := ⟨rfl, rfl, rfl, by decide +kernel, rfl, by decide +kernel, by decide +kernel⟩
def gThree : List D → (D → Prop) → Prop := fun ds P => ∃ n : Nat, ds = [.int n] ∧ P = fun d => d = .str (tx (dig3 (n % 997)))
theorem ok_three {f : Addr} {fd : FuncData} (F : Fun K "_law_three" "_law_three" sThree f fd) (T : Bt mg) : FnOk P w K mg base CX0 1 f fd ["number"] (spP K 1 gThree) := by
  refine fn_pure F scThree (by rintro ds Pd ⟨_, rfl, _⟩; rfl) fun cdv A outer s H E ds Pd hr hG => ?_
  obtain ⟨n, rfl, rfl⟩ := hG
  have hm : n % 997 < 997 := Nat.mod_lt _ (by decide)
  have e1 : ((n : Int) % 997) = ((n % 997 : Nat) : Int) := by omega
  have hlen := numS_len (n := ((n % 997 : Nat) : Int)) (by omega) (by omega)
  refine jss_cons (js_ret (J.to (j_slS (z := tx (48 :: 48 :: numS ((n % 997 : Nat) : Int))) (J.to (j_bin j_str (jb_str T (ja_cons (J.to (j_bin (jb_int T (ja_cons (jv 0 rfl) ja_nil)) j_int (od_modI (by decide))) (congrArg D.int e1)) ja_nil) (log_of (by omega) (by omega))) (od_addS ?_)) ?_) (by rw [tx_len]; exact le_size (by simp only [List.length_cons]; omega)) (jo_some (j_neg j_int)) jo_none) (d' := .str (tx (dig3 (n % 997)))) ?_) rfl)
  · rw [numS_tx, show ("00" : Str) = tx [48, 48] from by decide +kernel, tx_len, tx_len]; exact le_size (by simp only [List.length_cons, List.length_nil]; omega)
  · rw [numS_tx, show ("00" : Str) = tx [48, 48] from by decide +kernel, tx_app]; rfl
  · rw [cutS_tx]
    exact congrArg (fun z => D.str (tx z)) (three_cut _ hm)
theorem sum_take (cs : List Nat) {k c : Nat} (h : cs[k]? = some c) : (cs.take (k + 1)).sum = (cs.take k).sum + c := by
  rw [List.take_add_one, h, List.sum_append]
  simp
theorem placed_take (cs : List Nat) {k c : Nat} (h : cs[k]? = some c) : placedN (cs.take (k + 1)) = placedN (cs.take k) + (1 + k) * c := by
  obtain ⟨hk, _⟩ := List.getElem?_eq_some_iff.mp h
  unfold placedN
  rw [List.take_add_one, h, List.zipIdx_append, List.map_append, List.sum_append]
  simp
  rw [Nat.min_eq_left (by omega)]
abbrev nDig : List Str := ["text", "plain", "placed", "k"]
abbrev sDig : Stmt := top 20
theorem scDig : FnScope nDig ["text"] (defScope sDig) := ⟨rfl, rfl, rfl, by decide +kernel, rfl, by decide +kernel, by decide +kernel⟩
theorem ok_dig {f : Addr} {fd : FuncData} (F : Fun K "_law_digits" "_law_digits" sDig f fd) (T : Bt mg) (ho : mg "ord" = none) (cT : PFn P w K mg base 1 "_law_three" 1 gThree) : FnOk P w K mg base CX0 2 f fd ["text"] (spP K 1 gChk) := by
  refine fn_pure F scDig (by rintro ds Pd ⟨_, rfl, _⟩; rfl) fun cdv A outer s H E ds Pd hr hG => ?_
  obtain ⟨cs, rfl, hl, rfl⟩ := hG
  have nd := scDig.nd
  have hz : (tx cs).length ≤ sizeLine := by rw [tx_len]; exact le_size (by omega)
  refine jss_cons (js_set (i := 1) j_int ?_ nd)
  refine jss_cons (js_set (i := 2) j_int ?_ nd)
  refine jss_mid (fun ρ => ∃ o, ρ = [some (.fz (.str (tx cs))), some (.fz (.int (cs.sum : Nat))), some (.fz (.int (placedN cs : Nat))), o])
    (js_range cs.length (i := 3) (fun k ρ => ∃ o, ρ = [some (.fz (.str (tx cs))), some (.fz (.int ((cs.take k).sum : Nat))), some (.fz (.int (placedN (cs.take k) : Nat))), o]) T (J.to (jb_len T (ja_cons (jv 0 rfl) ja_nil) (lenS hz)) (by rw [tx_len])) (by omega) nd ⟨none, rfl⟩ ?_ ?_) ?_
  · rintro k _ hk ⟨o, rfl⟩
    have hg : cs[k]? = some (cs.getD k 0) := by rw [List.getD_eq_getElem?_getD, List.getElem?_eq_getElem hk]; rfl
    refine jss_cons (js_set (i := 1) (J.to (j_bin (jv 1 rfl) (jb_ord ho (ja_cons (j_ixS (n := cs.getD k 0) (jv 0 rfl) (jv 3 rfl) hz (atI_N 0 k rfl hk)) ja_nil)) od_addI) (d' := .int ((cs.take (k + 1)).sum : Nat)) (by rw [sum_take cs hg]; exact congrArg D.int (by omega))) ?_ nd)
    refine jss_cons (js_set (i := 2) (J.to (j_bin (jv 2 rfl) (j_bin (j_bin (jv 3 rfl) j_int od_addI) (jb_ord ho (ja_cons (j_ixS (n := cs.getD k 0) (jv 0 rfl) (jv 3 rfl) hz (atI_N 0 k rfl hk)) ja_nil)) (od_mulI (cmulL (by show -(2 ^ 64) < ((k : Nat) : Int) + 1; omega) (by show ((k : Nat) : Int) + 1 < 2 ^ 64; omega)))) od_addI) (d' := .int (placedN (cs.take (k + 1)) : Nat)) (by rw [placed_take cs hg, Int.natCast_add, Int.natCast_mul, show ((1 + k : Nat) : Int) = ((k : Nat) : Int) + 1 by omega])) ?_ nd)
    exact jss_nil ⟨_, rfl⟩
  · rintro _ ⟨o, rfl⟩
    rw [List.take_length]
    exact ⟨_, rfl, o, rfl⟩
  rintro _ ⟨o, rfl⟩
  refine jss_cons (js_ret (J.to (j_bin (j_call cT hr (ja_cons (jv 1 rfl) ja_nil) ⟨_, rfl, rfl⟩ (fun _ h => h)) (j_call cT hr (ja_cons (jv 2 rfl) ja_nil) ⟨_, rfl, rfl⟩ (fun _ h => h)) (od_addS (by rw [tx_len, tx_len]; exact le_size (by show 3 + 3 ≤ 10000; decide)))) (d' := .str (tx (chkL cs))) (by rw [tx_app]; rfl)) rfl)
def ckd (H : List Nat) : List Nat := H ++ 32 :: chkL H
theorem j_ckd {X : Cx} {ρ : Rho} {a c : Expr} {cs : List Nat} {k0 : Nat} {p1 p2 p3 : Pos} (h1 : J X a ρ (.str (tx cs))) (h2 : J X c ρ (.str (tx (chkL cs)))) (hl : cs.length ≤ 2000) : J X (.BinOp (.BinOp a .Add (.Constant (.str " ") k0 p1) p2) .Add c p3) ρ (.str (tx (ckd cs))) :=
  J.to (j_bin (j_bin h1 j_str (od_addS (by rw [sp_tx, tx_len, tx_len]; exact le_size (by simp; omega)))) h2 (od_addS (by rw [sp_tx, tx_app, tx_len, tx_len, chk_len, List.length_append]; exact le_size (by simp; omega)))) (by rw [sp_tx, tx_app, tx_app]; unfold ckd; rw [List.append_assoc]; rfl)
abbrev sLine : Stmt := top 21
theorem scLine : FnScope ["number", "body", "head"] ["number", "body"] (defScope sLine) := ⟨rfl, rfl, rfl, by decide +kernel, rfl, by decide +kernel, by decide +kernel⟩
/-- a + " " and a text behind it -/
theorem j_sp {X : Cx} {ρ : Rho} {a c : Expr} {as bs : List Nat} {k0 : Nat} {p1 p2 p3 : Pos} (h1 : J X a ρ (.str (tx as))) (h2 : J X c ρ (.str (tx bs))) (hl : as.length + bs.length ≤ 2000) : J X (.BinOp (.BinOp a .Add (.Constant (.str " ") k0 p1) p2) .Add c p3) ρ (.str (tx (as ++ 32 :: bs))) :=
  J.to (j_bin (j_bin h1 j_str (od_addS (by rw [sp_tx, tx_len, tx_len]; exact le_size (by simp; omega)))) h2 (od_addS (by rw [sp_tx, tx_app, tx_len, tx_len, List.length_append]; exact le_size (by simp; omega)))) (by rw [sp_tx, tx_app, tx_app]; rw [List.append_assoc]; rfl)
theorem j_num {X : Cx} {ρ : Rho} {e : Expr} {p pos : Pos} {n : Int} (T : Bt X.mg) (ha : JA X [e] ρ [.int n]) (h0 : 0 ≤ n) (h1 : n < 2000000) (hg : Gl X "str" := by rfl) (he : starEach [e] X.env = (false, eval e X.env) :: starEach [] X.env := by rfl) (hpl : (backTo pos (starEach [] X.env)).any (·.1) = false := by rfl) : J X (.Call (.Name "str" p) [e] [] pos) ρ (.str (tx (numS n))) :=
  J.to (jb_str T ha (log_of h0 h1) hg he hpl) (congrArg D.str (numS_tx n))
theorem ok_line {f : Addr} {fd : FuncData} (F : Fun K "_law_line" "_law_line" sLine f fd) (T : Bt mg) (cD : PFn P w K mg base 2 "_law_digits" 1 gChk) : FnOk P w K mg base CX0 3 f fd ["number", "body"] (spP K 2 gRec) := by
  refine fn_pure F scLine (by rintro ds Pd ⟨_, _, rfl, _⟩; rfl) fun cdv A outer s H E ds Pd hr hG => ?_
  obtain ⟨n, b, rfl, h0, h1, hb, rfl⟩ := hG
  have nd := scLine.nd
  have hh := head_len h0 h1 hb
  have k1 := numS_len (n := (b.length : Int)) (by omega) (by omega)
  have k2 := numS_len h0 h1
  have jl : ∀ {X : Cx} {ρ : Rho}, True := fun {_ _} => trivial
  refine jss_cons (js_set (i := 2) (J.to (j_sp (as := numS (b.length : Int) ++ 32 :: numS n) (bs := b) (j_sp (as := numS (b.length : Int)) (j_num T (ja_cons (J.to (jb_len T (ja_cons (jv 1 rfl) ja_nil) (lenS (by rw [tx_len]; exact le_size (by omega)))) (by rw [tx_len])) ja_nil) (by omega) (by omega)) (j_num T (ja_cons (jv 0 rfl) ja_nil) h0 h1) (by omega)) (jv 1 rfl) (by rw [List.length_append, List.length_cons]; omega)) (d' := .str (tx (headN n b))) (by unfold headN; simp)) ?_ nd)
  exact jss_cons (js_ret (j_ckd (jv 2 rfl) (j_call cD hr (ja_cons (jv 2 rfl) ja_nil) ⟨_, rfl, by omega, rfl⟩ (fun _ h => h)) (by omega)) rfl)
end
end Toy

namespace Toy
open PySem PyProof.Rows L2 Pf
def splN (cs : List Nat) : List (List Nat) := TL.spl [10] 0 [] cs
def linesN (cs : List Nat) : List (List Nat) := (splN cs).dropLast
theorem sp_stop {acc r : List Nat} : TL.spl [10] 0 acc (10 :: r) = acc :: TL.spl [10] 0 [] r := by
  rw [TL.spl, if_pos (by unfold TL.pre; rfl)]
  rfl
theorem sp_step {acc r : List Nat} {c : Nat} (h : c ≠ 10) : TL.spl [10] 0 acc (c :: r) = TL.spl [10] 0 (acc ++ [c]) r := by
  rw [TL.spl, if_neg]
  unfold TL.pre
  simp
  exact h
theorem sp_end {l : List Nat} : ∀ {acc : List Nat}, 10 ∉ l → TL.spl [10] 0 acc l = [acc ++ l] := by
  induction l with
  | nil => intro acc _; rw [TL.spl, List.append_nil]
  | cons c l ih =>
    intro acc h
    rw [sp_step fun e => h (e ▸ List.mem_cons_self), ih fun e => h (List.mem_cons_of_mem _ e), List.append_assoc]
    rfl
theorem sp_line {l r : List Nat} : ∀ {acc : List Nat}, 10 ∉ l → TL.spl [10] 0 acc (l ++ 10 :: r) = (acc ++ l) :: TL.spl [10] 0 [] r := by
  induction l with
  | nil => intro acc _; rw [List.nil_append, sp_stop, List.append_nil]
  | cons c l ih =>
    intro acc h
    rw [List.cons_append, sp_step fun e => h (e ▸ List.mem_cons_self), ih fun e => h (List.mem_cons_of_mem _ e), List.append_assoc]
    rfl
theorem sp_small : ∀ {cs acc : List Nat}, (TL.spl [10] 0 acc cs).length ≤ cs.length + 1 ∧ ∀ l ∈ TL.spl [10] 0 acc cs, l.length ≤ acc.length + cs.length := by
  intro cs
  induction cs with
  | nil => intro acc; rw [TL.spl]; exact ⟨by simp, fun l h => by rw [List.mem_singleton.mp h]; simp⟩
  | cons c cs ih =>
    intro acc
    by_cases h : c = 10
    · subst h
      rw [sp_stop]
      obtain ⟨h1, h2⟩ := ih (acc := [])
      refine ⟨by simp; exact h1, fun l hl => ?_⟩
      rcases List.mem_cons.mp hl with rfl | q
      · simp
      · have := h2 l q; simp at this ⊢; omega
    · rw [sp_step h]
      obtain ⟨h1, h2⟩ := ih (acc := acc ++ [c])
      exact ⟨by simp; omega, fun l hl => by have := h2 l hl; simp at this ⊢; omega⟩
theorem sp_ne (cs acc : List Nat) : TL.spl [10] 0 acc cs ≠ [] := by
  induction cs generalizing acc with
  | nil => rw [TL.spl]; simp
  | cons c cs ih =>
    by_cases h : c = 10
    · subst h; rw [sp_stop]; simp
    · rw [sp_step h]; exact ih _
theorem lines_len (cs : List Nat) : (linesN cs).length ≤ cs.length := by
  have := (sp_small (cs := cs) (acc := [])).1
  unfold linesN splN
  rw [List.length_dropLast]
  omega
theorem lines_short {cs l : List Nat} (h : l ∈ linesN cs) : l.length ≤ cs.length := by
  have := (sp_small (cs := cs) (acc := [])).2 l (List.dropLast_subset _ h)
  simpa using this
/-- whole lines, and what stands behind them -/
def flatL (ls : List (List Nat)) : List Nat := (ls.map fun l => l ++ [10]).flatten
theorem flat_cons (l : List Nat) (ls : List (List Nat)) : flatL (l :: ls) = l ++ 10 :: flatL ls := by
  unfold flatL
  simp
abbrev Rec : Type := Nat × List Nat
def recT (r : Rec) : D := .tup [.int (r.1 : Int), .str (tx r.2)]
def nextOk (acc : List Rec) (r : Rec) : Bool := match acc.getLast? with
  | none => true
  | some q => decide (r.1 = q.1 + 1)
def goW : List (List Nat) → List Rec → List Rec
  | [], acc => acc
  | l :: ls, acc => match readR l with
    | none => acc
    | some r => if nextOk acc r = true then goW ls (acc ++ [r]) else acc
def wholeN (cs : List Nat) : List Rec := goW (linesN cs) []
theorem goW_mem : ∀ {ls : List (List Nat)} {acc : List Rec} {r : Rec}, r ∈ goW ls acc → r ∈ acc ∨ ∃ l ∈ ls, readR l = some r
  | [], acc, r, h => .inl h
  | l :: ls, acc, r, h => by
    unfold goW at h
    cases e : readR l with
    | none => rw [e] at h; exact .inl h
    | some q =>
      rw [e] at h
      dsimp only at h
      split at h
      · rcases goW_mem h with z | ⟨l', z1, z2⟩
        · rcases List.mem_append.mp z with z | z
          · exact .inl z
          · rw [List.mem_singleton.mp z]; exact .inr ⟨l, List.mem_cons_self, e⟩
        · exact .inr ⟨l', List.mem_cons_of_mem _ z1, z2⟩
      · exact .inl h
theorem goW_len : ∀ {ls : List (List Nat)} {acc : List Rec}, (goW ls acc).length ≤ acc.length + ls.length
  | [], acc => Nat.le_refl _
  | l :: ls, acc => by
    unfold goW
    cases readR l with
    | none => simp
    | some q =>
      dsimp only
      split
      · have := goW_len (ls := ls) (acc := acc ++ [q]); simp at this ⊢; omega
      · simp
theorem whole_len (cs : List Nat) : (wholeN cs).length ≤ cs.length := by
  have h1 := goW_len (ls := linesN cs) (acc := [])
  have h2 := lines_len cs
  simp at h1
  unfold wholeN
  omega
theorem whole_mem {cs : List Nat} {r : Rec} (h : r ∈ wholeN cs) : r.1 < 1000000 ∧ isB r.2 = true := by
  rcases goW_mem h with z | ⟨l, _, e⟩
  · cases z
  · exact (readR_some (n := r.1) (b := r.2) e).2
theorem isB_len {b : List Nat} (h : isB b = true) : b.length ≤ 700 := by
  unfold isB at h
  rw [Bool.and_eq_true, Bool.and_eq_true, decide_eq_true_iff, decide_eq_true_iff] at h
  exact h.1.2
section
variable {P : Program} {w : World} {K : PySem.W.Frag} {mg : Str → Option Value} {base : Heap}
abbrev nWh : List Str := ["text", "records", "line", "record"]
abbrev sWh : Stmt := top 14
theorem scWh : FnScope nWh ["text"] (defScope sWh) := ⟨rfl, rfl, rfl, by decide +kernel, rfl, by decide +kernel, by decide +kernel⟩
def gWh : List D → (List D → Prop) → Prop := fun ds P => ∃ cs : List Nat, ds = [.str (tx cs)] ∧ cs.length ≤ 1900 ∧ P = fun l => l = (wholeN cs).map recT
theorem at_last {acc : List Rec} {q : Rec} : atI ((acc ++ [q]).map recT) (-1) = some (recT q) := by
  unfold atI ixN
  rw [if_neg (by decide), List.map_append, List.length_append, List.length_map]
  simp only [List.map_cons, List.map_nil, List.length_cons, List.length_nil]
  rw [if_pos (by omega)]
  show (List.map recT acc ++ [recT q])[_]? = _
  rw [show (-1 + ((acc.length + (0 + 1) : Nat) : Int)).toNat = acc.length by omega, List.getElem?_append_right (by simp)]
  simp
theorem ok_wh {f : Addr} {fd : FuncData} (F : Fun K "whole_records" "whole_records" sWh f fd) (T : Bt mg) (cR : PFn P w K mg base 3 "read_record" 1 gRead) : FnOk P w K mg base CX0 4 f fd ["text"] (spN K 1 gWh) := by
  refine fn_newB F scWh (by rintro ds Pd ⟨_, rfl, _⟩; rfl) fun cdv A outer s H E ds Pd hr hG => ?_
  obtain ⟨cs, rfl, hl, rfl⟩ := hG
  have nd := scWh.nd
  have hll := lines_len cs
  refine jr_cons (js_setN (i := 1) (jn_lst ja_nil) ?_ nd)
  refine jr_mid (fun ρ => ∃ o2 o3 : Option SV, ρ = [some (.fz (.str (tx cs))), some (.ow (.lst ((wholeN cs).map recT))), o2, o3])
    (js_each (i := 2) (linesN cs) (fun l => D.str (tx l)) (fun k ρ => ∃ (acc : List Rec) (o2 o3 : Option SV), ρ = [some (.fz (.str (tx cs))), some (.ow (.lst (acc.map recT))), o2, o3] ∧ acc.length ≤ k ∧ goW ((linesN cs).drop k) acc = wholeN cs)
      (ji_list (J.to (j_sl (j_split (jv 0 rfl) (ja_cons j_str ja_nil) (by decide +kernel) (by rw [tx_len]; exact le_size (by omega))) jo_none (jo_some (j_neg j_int)) sld_L) (d' := .lst ((linesN cs).map fun l => D.str (tx l))) ?_)) nd ⟨[], none, none, rfl, Nat.le_refl _, rfl⟩ ?_ ?_) ?_
  · rw [show ("\n" : Str) = tx [10] from by decide +kernel, show Txt.split (tx cs) (tx [10]) = (splN cs).map tx from SX.split_S (by simp) (by decide), cut_init]
    unfold linesN
    rw [List.map_map, ← List.map_dropLast]
    rfl
  · rintro k l _ hk ⟨acc, o2, o3, rfl, hal, he⟩
    obtain ⟨hkl, hke⟩ := List.getElem?_eq_some_iff.mp hk
    have hdr : (linesN cs).drop k = l :: (linesN cs).drop (k + 1) := by rw [List.drop_eq_getElem_cons hkl, hke]
    have hsl : l.length ≤ cs.length := lines_short (hke ▸ List.getElem_mem hkl)
    rw [hdr] at he
    unfold goW at he
    refine jss_cons (js_set (i := 3) (j_call cR hr (ja_cons (jv 2 rfl) ja_nil) ⟨l, rfl, by omega, rfl⟩ (fun _ h => h)) ?_ nd)
    cases e : readR l with
    | none =>
      rw [e] at he
      exact jss_cons (js_ifT (jt_w (jw_orT (JT.to (jt_cm (jv 3 rfl) j_non cd_isN) rfl))) (jss_cons (js_break ⟨_, rfl, _, _, by rw [← he]; rfl⟩)))
    | some r =>
      rw [e] at he
      dsimp only at he
      refine jss_cons (js_if (t := !nextOk acc r) (JT.to (jt_w (jw_or (t := false) (JT.to (jt_cm (jv 3 rfl) j_non cd_isN) rfl) (fun _ => jw_or1 (?_ : JT _ _ _ (!nextOk acc r))))) rfl) (fun h => ?_) (fun h => jss_nil ?_))
      · rcases List.eq_nil_or_concat acc with rfl | ⟨acc', q, hq⟩
        · exact jt_w (jw_andF (jt_truth (jv 1 rfl) rfl))
        · rw [List.concat_eq_append] at hq
          subst hq
          refine JT.to (jt_w (jw_and (t := true) (jt_truth (jv 1 rfl) ?_) (fun _ => jw_and1 (jt_cm (j_ix (jv 3 rfl) j_int (ixd_T (i := 0) (d := .int (r.1 : Int)) rfl)) (j_bin (j_ix (j_ix (jv 1 rfl) (j_neg j_int) (ixd_L (at_last (acc := acc') (q := q)))) j_int (ixd_T (ds := [.int (q.1 : Int), .str (tx q.2)]) (i := 0) (d := .int (q.1 : Int)) rfl)) j_int od_addI) cd_neI)))) ?_
          · rw [List.map_append]
            show truth (.lst (List.map recT acc' ++ [recT q])) = _
            cases List.map recT acc' <;> rfl
          · unfold nextOk
            rw [List.getLast?_append, Bool.true_and]
            show (!decide _) = !decide (r.1 = q.1 + 1)
            congr 1
            exact decide_eq_decide.mpr (by omega)
      · rw [Bool.not_eq_true'] at h
        rw [h] at he
        exact jss_cons (js_break ⟨_, rfl, _, _, by rw [← he]; rfl⟩)
      · rw [Bool.not_eq_false'] at h
        rw [h, if_pos rfl] at he
        refine jss_cons (js_append (i := 1) (ds := acc.map recT) rfl (jv 3 rfl) (by rw [List.length_map]; exact lt_size (by omega)) ?_)
        exact jss_nil ⟨acc ++ [r], _, _, by rw [List.map_append]; rfl, by simp; omega, he⟩
  · rintro _ ⟨acc, o2, o3, rfl, hal, he⟩
    rw [List.drop_length] at he
    exact ⟨_, rfl, _, _, by rw [← he]; rfl⟩
  rintro _ ⟨o2, o3, rfl⟩
  exact jr_retO (i := 1) rfl (by intro d hd; obtain ⟨r, _, rfl⟩ := List.mem_map.mp hd; rfl) rfl
end
end Toy

namespace Toy
open PySem PyProof.Rows L2 Pf
section
variable {P : Program} {w : World} {K : PySem.W.Frag} {mg : Str → Option Value} {base : Heap}
/-- how many signs a record's text has; how many the texts of the records have -/
def sizeR (r : Rec) : Nat := (lineN (r.1 : Int) r.2).length + 1
def sizeL (rs : List Rec) : Nat := (rs.map sizeR).sum
abbrev nWl : List Str := ["text", "number", "body"]
abbrev sWl : Stmt := top 15
theorem scWl : FnScope nWl ["text"] (defScope sWl) := ⟨rfl, rfl, rfl, by decide +kernel, rfl, by decide +kernel, by decide +kernel⟩
def gWl : List D → (D → Prop) → Prop := fun ds P => ∃ cs : List Nat, ds = [.str (tx cs)] ∧ cs.length ≤ 1900 ∧ P = fun d => d = .int (sizeL (wholeN cs) : Nat)
theorem ok_wl {f : Addr} {fd : FuncData} (F : Fun K "whole_length" "whole_length" sWl f fd) (T : Bt mg) (cX : PFn P w K mg base 3 "record_text" 2 gTxt) (cW : NFn P w K mg base 4 "whole_records" 1 gWh) : FnOk P w K mg base CX0 5 f fd ["text"] (spP K 1 gWl) := by
  refine fn_pure F scWl (by rintro ds Pd ⟨_, rfl, _⟩; rfl) fun cdv A outer s H E ds Pd hr hG => ?_
  obtain ⟨cs, rfl, hl, rfl⟩ := hG
  have nd := scWl.nd
  have hwl := whole_len cs
  refine jss_cons (js_ret (J.to (jb_sum T (ns := ((wholeN cs).map sizeR).map fun c : Nat => (c : Int)) (ja_cons (J.to (j_lc (own := [("number", 1), ("body", 2)]) (pat := .tp [1, 2]) (its := (wholeN cs).map fun r => (recT r, some (D.int ((sizeR r : Nat) : Int)))) (ji_N (jnp_call cW hr (ja_cons (jv 0 rfl) ja_nil) ⟨cs, rfl, hl, rfl⟩) (fun l h => by rw [h, List.map_map]; rfl)) (blkOk_by (N := nWl) (sc := defScope sWl) (by decide +kernel)) (fun _ _ _ _ _ => pg_tup rfl (pgs_cons (pg_name nd rfl (Or.inl rfl)) (pgs_cons (pg_name nd rfl (Or.inl rfl)) pgs_nil))) (by decide) (by rw [List.length_map]; exact lt_size (by omega)) (fun q hq => ?_) nd) ?_) ja_nil)) (d' := .int (sizeL (wholeN cs) : Nat)) (by rw [sum_cast]; rfl)) rfl)
  · obtain ⟨r, hr0, rfl⟩ := List.mem_map.mp hq
    obtain ⟨h1, h2⟩ := whole_mem hr0
    have h3 := isB_len h2
    have h4 := line_len (n := (r.1 : Int)) (b := r.2) (by omega) (by omega) (by omega)
    refine ⟨_, rfl, fun _ _ _ _ _ => ⟨jts_nil, J.to (jb_len T (ja_cons (j_call cX hr (ja_cons (jv 1 rfl) (ja_cons (jv 2 rfl) ja_nil)) ⟨(r.1 : Int), r.2, rfl, by omega, by omega, by omega, rfl⟩ (fun _ h => h)) ja_nil) (lenS (by rw [tx_len, List.length_append]; exact le_size (by simp; omega)))) ?_⟩⟩
    rw [tx_len, List.length_append]
    rfl
  · rw [List.filterMap_map, List.map_map, List.map_map]
    exact congrArg D.lst (List.filterMap_eq_map (f := fun r : Rec => D.int ((sizeR r : Nat) : Int)) ▸ rfl)
end
end Toy

namespace Toy
open PySem PyProof.Rows L2 Pf
open PySem.NumText (AllDigits digitsVal)
theorem isB_of {b : List Nat} (h1 : 1 ≤ b.length) (h2 : b.length ≤ 700) (h : ∀ c ∈ b, 32 ≤ c ∧ c ≤ 126) : isB b = true := by
  unfold isB
  rw [Bool.and_eq_true, Bool.and_eq_true, decide_eq_true_iff, decide_eq_true_iff]
  refine ⟨⟨h1, h2⟩, List.all_eq_true.mpr fun c hc => ?_⟩
  unfold okSign
  rw [Bool.and_eq_true, decide_eq_true_iff, decide_eq_true_iff]
  exact h c hc
theorem line_eq (n : Nat) (b : List Nat) : lineN (n : Int) b = numS (b.length : Int) ++ 32 :: (numS (n : Int) ++ 32 :: (b ++ 32 :: chkL (headN (n : Int) b))) := by
  unfold lineN
  conv => lhs; arg 1; unfold headN
  simp
/-- who reads as a record is its line -/
theorem read_lines {n : Nat} {b e : List Nat} {r : Rec} (h : readR (numS (b.length : Int) ++ 32 :: (numS (n : Int) ++ 32 :: (b ++ 32 :: e))) = some r) (he : e.length = 6) : r.1 = n ∧ r.2 = b ∧ e = chkL (headN (n : Int) b) ∧ n < 1000000 := by
  obtain ⟨h1, h2, h3⟩ := readR_some (n := r.1) (b := r.2) h
  have w1 := words_line r.1 r.2
  rw [h1, words_of (no32 b.length) (no32 n)] at w1
  injection w1 with z1 w1
  injection w1 with z2 w1
  injection w1 with z3 _
  have e1 : n = r.1 := numS_inj z2
  have e2 := List.append_inj' z3 (by rw [List.length_cons, List.length_cons, he, chk_len])
  obtain ⟨e3, e4⟩ := e2
  injection e4 with _ e4
  refine ⟨e1.symm, e3.symm, ?_, by omega⟩
  rw [e4, e1, e3]
theorem read_big {n : Nat} {b : List Nat} (h : 1000000 ≤ n) : readR (lineN (n : Int) b) = none := by
  cases e : readR (lineN (n : Int) b) with
  | none => rfl
  | some r =>
    rw [line_eq] at e
    have := (read_lines e (chk_len _)).2.2.2
    omega
theorem read_nil : readR [] = none := by decide +kernel
/-- the last digit replaced by the one ahead of it -/
def lastD (n : Nat) (b : List Nat) : Nat := 48 + placedN (headN (n : Int) b) % 997 % 10
theorem line_last (n : Nat) (b : List Nat) : ∃ L : List Nat, lineN (n : Int) b = L ++ [lastD n b] ∧ ∀ c : Nat, c ≠ lastD n b → readR (L ++ [c]) = none := by
  have e : chkL (headN (n : Int) b) = (chkL (headN (n : Int) b)).take 5 ++ [lastD n b] := rfl
  have hl : ((chkL (headN (n : Int) b)).take 5).length = 5 := rfl
  generalize (chkL (headN (n : Int) b)).take 5 = f at e hl
  refine ⟨numS (b.length : Int) ++ 32 :: (numS (n : Int) ++ 32 :: (b ++ 32 :: f)), by rw [line_eq, e]; simp, fun c hc => ?_⟩
  cases er : readR (numS (b.length : Int) ++ 32 :: (numS (n : Int) ++ 32 :: (b ++ 32 :: f)) ++ [c]) with
  | none => rfl
  | some r =>
    have e2 : numS (b.length : Int) ++ 32 :: (numS (n : Int) ++ 32 :: (b ++ 32 :: f)) ++ [c] = numS (b.length : Int) ++ 32 :: (numS (n : Int) ++ 32 :: (b ++ 32 :: (f ++ [c]))) := by simp
    rw [e2] at er
    have h := (read_lines er (by rw [List.length_append, hl]; rfl)).2.2.1
    rw [e] at h
    have := List.append_inj_right' h rfl
    injection this with this _
    exact absurd this hc
theorem lastD_dig (n : Nat) (b : List Nat) : 48 ≤ lastD n b ∧ lastD n b ≤ 57 := by unfold lastD; omega
theorem num1 {k : Nat} (h : k < 10) : numS (k : Int) = [48 + k] := by
  have : ∀ k : Nat, k < 10 → numS (k : Int) = [48 + k] := by
    intro k hk
    rw [signs_of]
    exact (by decide +kernel : ∀ k : Nat, k < 10 → (Nat.toDigits 10 k).map Char.toNat = [48 + k]) k hk
  exact this k h
theorem line_sign {n : Nat} {b : List Nat} (hb : ∀ c ∈ b, 32 ≤ c ∧ c ≤ 126) : ∀ c ∈ lineN (n : Int) b, 32 ≤ c := by
  intro c hc
  rw [line_eq] at hc
  have hd : ∀ m : Nat, ∀ c ∈ numS (m : Int), 32 ≤ c := fun m c h => by have := numS_dig m c h; omega
  have hk : ∀ L : List Nat, ∀ c ∈ chkL L, 32 ≤ c := by
    intro L c h
    unfold chkL dig3 at h
    simp only [List.cons_append, List.nil_append, List.mem_cons, List.not_mem_nil, or_false] at h
    omega
  simp only [List.mem_append, List.mem_cons] at hc
  rcases hc with h | h | h | h | h | h | h
  · exact hd _ c h
  · omega
  · exact hd _ c h
  · omega
  · exact (hb c h).1
  · omega
  · exact hk _ c h
theorem line_short {n : Nat} {b : List Nat} (hn : n < 2000000) (hb : b.length ≤ 20) : (lineN (n : Int) b).length ≤ 60 := by
  have k1 := numS_len (n := (b.length : Int)) (by omega) (by omega)
  have k2 := numS_len (n := (n : Int)) (by omega) (by omega)
  rw [line_eq]
  simp only [List.length_append, List.length_cons, chk_len]
  omega
section
variable {P : Program} {w : World} {K : PySem.W.Frag} {mg : Str → Option Value} {base : Heap}
abbrev nDr : List Str := ["numbers", "at", "number", "size", "body", "k"]
abbrev sDr : Stmt := top 24
theorem scDr : FnScope nDr ["numbers", "at", "number"] (defScope sDr) := ⟨rfl, rfl, rfl, by decide +kernel, rfl, by decide +kernel, by decide +kernel⟩
def OkBd (b : List Nat) : Prop := (1 ≤ b.length ∧ b.length ≤ 20) ∧ ∀ c ∈ b, 32 ≤ c ∧ c ≤ 126
def gDr : List D → (D → Prop) → Prop := fun ds P => ∃ (ns : List Int) (k n : Nat), ds = [.lst (ns.map D.int), .int (k : Nat), .int (n : Nat)] ∧ ns.length = 60 ∧ k + 2 < 60 ∧ P = fun d => ∃ b : List Nat, d = recT (n, b) ∧ OkBd b
def dBody (ns : List Int) (k m : Nat) : List Nat := (List.range m).map fun j => signN (ns.getD (k + 1) 0 * ((0 + (j : Nat) : Int) + 1) + ns.getD (k + 2) 0 * (0 + (j : Nat) : Int))
theorem ok_dr {f : Addr} {fd : FuncData} (F : Fun K "_law_drawn" "_law_drawn" sDr f fd) (T : Bt mg) (cS : PFn P w K mg base 1 "_law_sign" 1 gSign) : FnOk P w K mg base CX0 2 f fd ["numbers", "at", "number"] (spP K 3 gDr) := by
  refine fn_pure F scDr (by rintro ds Pd ⟨_, _, _, rfl, _⟩; rfl) fun cdv A outer s H E ds Pd hr hG => ?_
  obtain ⟨ns, k, n, rfl, hl, hk, rfl⟩ := hG
  have nd := scDr.nd
  obtain ⟨m, hm, hm1, hm2⟩ : ∃ m : Nat, (1 + ns.getD k 0 % 20 : Int) = (m : Int) ∧ 1 ≤ m ∧ m ≤ 20 := ⟨(1 + ns.getD k 0 % 20 : Int).toNat, by omega, by omega, by omega⟩
  refine jss_cons (js_set (i := 3) (J.to (j_bin j_int (j_bin (jb_int T (ja_cons (j_ix (jv 0 rfl) (jv 1 rfl) (ixd_L (atI_mapN D.int 0 k rfl (by omega)))) ja_nil)) j_int (od_modI (by decide))) od_addI) (congrArg D.int hm)) ?_ nd)
  refine jss_cons (js_set (i := 4) (j_join (ys := (dBody ns k m).map fun c => tx [c]) j_str (J.to (j_lcM (own := [("k", 5)]) (i := 5) (List.range m) (fun j => D.int (0 + (j : Nat))) (fun j => D.str (tx [signN (ns.getD (k + 1) 0 * ((0 + (j : Nat) : Int) + 1) + ns.getD (k + 2) 0 * (0 + (j : Nat) : Int))])) (ji_rangeN m T (jv 3 rfl) (by omega) (by omega) (by omega)) (blkOk_by (N := nDr) (sc := defScope sDr) (by decide +kernel)) (fun _ _ _ _ _ => pg_name nd rfl (Or.inl rfl)) (by rw [List.length_range]; exact lt_size (by omega))
    (fun j hj s H C cl fp => j_call cS hr (ja_cons (j_bin (j_bin (j_ix (jv 0 rfl) (j_bin (jv 1 rfl) j_int od_addI) (ixd_L (atI_mapN D.int 0 (k + 1) (by omega) (by omega)))) (j_bin (jv 5 rfl) j_int od_addI) (od_mulI (cmulR (by have := List.mem_range.mp hj; omega) (by have := List.mem_range.mp hj; omega)))) (j_bin (j_ix (jv 0 rfl) (j_bin (jv 1 rfl) j_int od_addI) (ixd_L (atI_mapN D.int 0 (k + 2) (by omega) (by omega)))) (jv 5 rfl) (od_mulI (cmulR (by have := List.mem_range.mp hj; omega) (by have := List.mem_range.mp hj; omega)))) od_addI) ja_nil) ⟨_, rfl, rfl⟩ (fun _ h => h)) nd) (by unfold dBody; rw [List.map_map, List.map_map]; rfl)) (by rw [sum_ones, List.length_map]; show (dBody ns k m).length + (dBody ns k m).length * 0 ≤ _; unfold dBody; rw [List.length_map, List.length_range]; exact le_size (by omega)) (join_ones _ (by decide +kernel) _)) ?_ nd)
  refine jss_cons (js_ret (j_tup (ja_cons (jv 2 rfl) (ja_cons (jv 4 rfl) ja_nil))) ⟨dBody ns k m, rfl, ⟨by unfold dBody; rw [List.length_map, List.length_range]; omega, by unfold dBody; rw [List.length_map, List.length_range]; omega⟩, fun c hc => ?_⟩)
  obtain ⟨j, _, rfl⟩ := List.mem_map.mp hc
  exact sign_ok _
end
end Toy

namespace Toy
open PySem PyProof.Rows L2 Pf
abbrev Trip : Type := List Nat × Rec × Bool
def tripD (t : Trip) : D := .tup [.str (tx t.1), recT t.2.1, .bl t.2.2]
structure OkTr (t : Trip) : Prop where
  no : 10 ∉ t.1
  len : t.1.length ≤ 60
  bd : OkBd t.2.1.2
  num : t.2.1.1 < 2000000
  right : t.2.2 = true → t.1 = lineN (t.2.1.1 : Int) t.2.1.2 ∧ readR t.1 = some t.2.1
  wrong : t.2.2 = false → readR t.1 = none
theorem line_no10 {n : Nat} {b : List Nat} (h : OkBd b) : 10 ∉ lineN (n : Int) b := fun q => by have := line_sign h.2 10 q; omega
theorem tr_line {n : Nat} {b : List Nat} (hn : n < 2000000) (h : OkBd b) : OkTr (lineN (n : Int) b, (n, b), decide ((n : Int) ≤ 999999)) where
  no := line_no10 h
  len := line_short hn h.1.2
  bd := h
  num := hn
  right := fun q => by
    have q := of_decide_eq_true q
    exact ⟨rfl, readR_line (by omega) (isB_of h.1.1 (by have := h.1.2; omega) h.2)⟩
  wrong := fun q => by
    have q := of_decide_eq_false q
    exact read_big (by omega)
theorem tr_nil {n : Nat} {b : List Nat} (hn : n < 2000000) (h : OkBd b) : OkTr ([], (n, b), false) where
  no := by simp
  len := by simp
  bd := h
  num := hn
  right := fun q => by cases q
  wrong := fun _ => read_nil
theorem tr_spoilt {n : Nat} {b L : List Nat} {c : Nat} (hn : n < 2000000) (h : OkBd b) (e : lineN (n : Int) b = L ++ [lastD n b]) (hc : 48 ≤ c) (hr : readR (L ++ [c]) = none) : OkTr (L ++ [c], (n, b), false) where
  no := fun q => by
    rcases List.mem_append.mp q with q | q
    · exact line_no10 (n := n) h (by rw [e]; exact List.mem_append_left _ q)
    · have := List.mem_singleton.mp q; omega
  len := by
    have := line_short hn h.1.2
    rw [e, List.length_append] at this
    rw [List.length_append]
    exact this
  bd := h
  num := hn
  right := fun q => by cases q
  wrong := fun _ => hr
theorem at_end {α : Type} {l : List α} {c : α} : atI (l ++ [c]) (-1) = some c := by
  unfold atI ixN
  rw [if_neg (by decide), List.length_append]
  simp only [List.length_cons, List.length_nil]
  rw [if_pos (by omega)]
  show (l ++ [c])[_]? = _
  rw [show (-1 + ((l.length + (0 + 1) : Nat) : Int)).toNat = l.length by omega, List.getElem?_append_right (by simp)]
  simp
theorem j_cat {X : Cx} {ρ : Rho} {a c : Expr} {as bs : List Nat} {p : Pos} (h1 : J X a ρ (.str (tx as))) (h2 : J X c ρ (.str (tx bs))) (hl : as.length + bs.length ≤ 2000) : J X (.BinOp a .Add c p) ρ (.str (tx (as ++ bs))) :=
  J.to (j_bin h1 h2 (od_addS (by rw [tx_len, tx_len]; exact le_size (by omega)))) (by rw [tx_app])
theorem j_lit {X : Cx} {ρ : Rho} {z : PySem.Str} {k0 : Nat} {p : Pos} (as : List Nat) (h : z = tx as) : J X (.Constant (.str z) k0 p) ρ (.str (tx as)) := J.to j_str (congrArg D.str h)
section
variable {P : Program} {w : World} {K : PySem.W.Frag} {mg : Str → Option Value} {base : Heap}
abbrev nLs : List Str := ["numbers", "number", "found", "k", "record", "line", "is_right", "spoilt"]
abbrev sLs : Stmt := top 25
theorem scLs : FnScope nLs ["numbers"] (defScope sLs) := ⟨rfl, rfl, rfl, by decide +kernel, rfl, by decide +kernel, by decide +kernel⟩
def gLs : List D → (D → Prop) → Prop := fun ds P => ∃ ns : List Int, ds = [.lst (ns.map D.int)] ∧ ns.length = 60 ∧ (∀ n ∈ ns, 0 ≤ n ∧ n < 1009) ∧ P = fun d => ∃ ts : List Trip, d = .lst (ts.map tripD) ∧ ts.length ≤ 8 ∧ ∀ t ∈ ts, OkTr t
theorem ok_ls {f : Addr} {fd : FuncData} (F : Fun K "_law_lines" "_law_lines" sLs f fd) (T : Bt mg) (ho : mg "ord" = none) (cD : PFn P w K mg base 2 "_law_drawn" 3 gDr) (cL : PFn P w K mg base 3 "_law_line" 2 gRec) : FnOk P w K mg base CX0 4 f fd ["numbers"] (spP K 1 gLs) := by
  refine fn_pure F scLs (by rintro ds Pd ⟨_, rfl, _⟩; rfl) fun cdv A outer s H E ds Pd hr hG => ?_
  obtain ⟨ns, rfl, hl, hb, rfl⟩ := hG
  have nd := scLs.nd
  have hx : ∀ i : Nat, i < 60 → 0 ≤ ns.getD i 0 ∧ ns.getD i 0 < 1009 := fun i hi => hb _ (by rw [List.getD_eq_getElem?_getD, List.getElem?_eq_getElem (by omega)]; exact List.getElem_mem _)
  obtain ⟨dk, hdk, hmk⟩ := atI_mem (L := [D.int 0, D.int (ns.getD (1 : Int).toNat 0), D.int 999995]) (i := ns.getD (2 : Int).toNat 0 % 3) (by omega) (by simp only [List.length_cons, List.length_nil]; omega)
  obtain ⟨n, rfl, hn⟩ : ∃ n : Nat, dk = .int (n : Int) ∧ n ≤ 999995 := by
    have h2 := hx 1 (by omega)
    simp only [List.mem_cons, List.not_mem_nil, or_false] at hmk
    rcases hmk with h | h | h
    · exact ⟨0, h, by omega⟩
    · exact ⟨(ns.getD 1 0).toNat, by rw [h, show ns.getD (1 : Int).toNat 0 = ns.getD 1 0 from rfl]; exact congrArg D.int (by omega), by omega⟩
    · exact ⟨999995, h, by omega⟩
  refine jss_cons (js_set (i := 1) (j_ix (j_tup (ja_cons j_int (ja_cons (j_ix (jv 0 rfl) j_int (ixd_I (by omega) (by omega))) (ja_cons j_int ja_nil)))) (j_bin (jb_int T (ja_cons (j_ix (jv 0 rfl) j_int (ixd_I (by omega) (by omega))) ja_nil)) j_int (od_modI (by decide))) (ixd_T hdk)) ?_ nd)
  refine jss_cons (js_setN (i := 2) (jn_lst ja_nil) ?_ nd)
  obtain ⟨m, hm, hm2⟩ : ∃ m : Nat, (ns.getD (0 : Int).toNat 0 % 9 : Int) = (m : Int) ∧ m ≤ 8 := ⟨(ns.getD (0 : Int).toNat 0 % 9 : Int).toNat, by omega, by omega⟩
  refine jss_mid (fun ρ => ∃ (ts : List Trip) (o1 o3 o4 o5 o6 o7 : Option SV), ρ = [some (.fz (.lst (ns.map D.int))), o1, some (.ow (.lst (ts.map tripD))), o3, o4, o5, o6, o7] ∧ ts.length ≤ 8 ∧ ∀ t ∈ ts, OkTr t)
    (js_range m (i := 3) (fun k ρ => ∃ (n : Nat) (ts : List Trip) (o3 o4 o5 o6 o7 : Option SV), ρ = [some (.fz (.lst (ns.map D.int))), some (.fz (.int (n : Nat))), some (.ow (.lst (ts.map tripD))), o3, o4, o5, o6, o7] ∧ n ≤ 999995 + 2 * k ∧ ts.length = k ∧ ∀ t ∈ ts, OkTr t) T (J.to (j_bin (jb_int T (ja_cons (j_ix (jv 0 rfl) j_int (ixd_I (by omega) (by omega))) ja_nil)) j_int (od_modI (by decide))) (congrArg D.int hm)) (by omega) nd ⟨n, [], none, none, none, none, none, rfl, by omega, rfl, by simp⟩ ?_ ?_) ?_
  · rintro k _ hk ⟨n, ts, o3, o4, o5, o6, o7, rfl, hn, hts, hok⟩
    refine jss_cons (js_setP (i := 4) (jp_call cD hr (ja_cons (jv 0 rfl) (ja_cons (J.to (j_bin j_int (j_bin j_int (jv 3 rfl) (od_mulI (cmulL (by decide) (by decide)))) od_addI) (congrArg D.int (by omega : (10 : Int) + 5 * (k : Int) = ((10 + 5 * k : Nat) : Int)))) (ja_cons (jv 1 rfl) ja_nil))) ⟨ns, 10 + 5 * k, n, rfl, hl, by omega, rfl⟩) ?_ nd)
    rintro _ ⟨b, rfl, hbd⟩
    have hsh := line_short (n := n) (b := b) (by omega) hbd.1.2
    refine jss_cons (js_set (i := 5) (j_call cL hr (ja_cons (j_ix (jv 4 rfl) j_int (ixd_T (ds := [.int (n : Int), .str (tx b)]) (i := 0) (d := .int (n : Int)) rfl)) (ja_cons (j_ix (jv 4 rfl) j_int (ixd_T (ds := [.int (n : Int), .str (tx b)]) (i := 1) (d := .str (tx b)) rfl)) ja_nil)) ⟨(n : Int), b, rfl, by omega, by omega, by have := hbd.1.2; omega, rfl⟩ (fun _ h => h)) ?_ nd)
    refine jss_cons (js_set (i := 6) (j_cm (jv 1 rfl) j_int cd_leI) ?_ nd)
    obtain ⟨sp, hsp⟩ : ∃ sp : Int, sp = ns.getD (13 + 5 * k) 0 % 12 := ⟨_, rfl⟩
    refine jss_cons (js_set (i := 7) (J.to (j_bin (jb_int T (ja_cons (j_ix (jv 0 rfl) (j_bin j_int (j_bin j_int (jv 3 rfl) (od_mulI (cmulL (by decide) (by decide)))) od_addI) (ixd_L (atI_mapN D.int 0 (13 + 5 * k) (by omega) (by omega)))) ja_nil)) j_int (od_modI (by decide))) (congrArg D.int hsp.symm)) ?_ nd)
    refine jss_mid (fun ρ => ∃ (L : List Nat) (r : Bool), ρ = [some (.fz (.lst (ns.map D.int))), some (.fz (.int (n : Nat))), some (.ow (.lst (ts.map tripD))), some (.fz (.int (k : Nat))), some (.fz (recT (n, b))), some (.fz (.str (tx L))), some (.fz (.bl r)), some (.fz (.int sp))] ∧ OkTr (L, (n, b), r))
      (js_if (jt_cm (jv 7 rfl) j_int cd_eqI) (fun _ => ?_) (fun _ => jss_nil ⟨_, rfl, _, _, rfl, tr_line (by omega) hbd⟩)) ?_
    · obtain ⟨L, hL, hno⟩ := line_last n b
      have hd := lastD_dig n b
      rw [hL] at hsh ⊢
      have hz : (tx (L ++ [lastD n b])).length ≤ sizeLine := by rw [tx_len]; exact le_size (by omega)
      obtain ⟨c, hc, hc2⟩ : ∃ c : Nat, (((lastD n b : Nat) : Int) + 1) % 10 = (c : Int) ∧ c < 10 := ⟨((((lastD n b : Nat) : Int) + 1) % 10).toNat, by omega, by omega⟩
      refine jss_cons (js_set (i := 5) (j_cat (as := L) (bs := [48 + c]) (J.to (j_slS (jv 5 rfl) hz jo_none (jo_some (j_neg j_int))) (by rw [cutS_tx, cut_init, List.dropLast_concat])) (J.to (j_num T (ja_cons (J.to (j_bin (jb_int T (ja_cons (j_bin (jb_ord ho (ja_cons (j_ixS (n := lastD n b) (jv 5 rfl) (j_neg j_int) hz at_end) ja_nil)) j_int od_addI) ja_nil)) j_int (od_modI (by decide))) (congrArg D.int hc)) ja_nil) (by omega) (by omega)) (by rw [num1 hc2])) (by rw [List.length_append] at hsh; simp at hsh ⊢; omega)) ?_ nd)
      refine jss_cons (js_set (i := 6) j_bl ?_ nd)
      exact jss_nil ⟨_, rfl, L ++ [48 + c], false, rfl, tr_spoilt (by omega) hbd hL (by omega) (hno _ (by omega))⟩
    rintro _ ⟨L, r, rfl, hLr⟩
    refine jss_mid (fun ρ => ∃ (L : List Nat) (r : Bool), ρ = [some (.fz (.lst (ns.map D.int))), some (.fz (.int (n : Nat))), some (.ow (.lst (ts.map tripD))), some (.fz (.int (k : Nat))), some (.fz (recT (n, b))), some (.fz (.str (tx L))), some (.fz (.bl r)), some (.fz (.int sp))] ∧ OkTr (L, (n, b), r))
      (js_if (jt_cm (jv 7 rfl) j_int cd_eqI) (fun _ => ?_) (fun _ => jss_nil ⟨_, rfl, _, _, rfl, hLr⟩)) ?_
    · refine jss_cons (js_set (i := 5) (j_lit [] (by decide +kernel)) ?_ nd)
      refine jss_cons (js_set (i := 6) j_bl ?_ nd)
      exact jss_nil ⟨_, rfl, [], false, rfl, tr_nil (by omega) hbd⟩
    rintro _ ⟨L, r, rfl, hLr⟩
    refine jss_cons (js_append (i := 2) (ds := ts.map tripD) rfl (j_tup (ja_cons (jv 5 rfl) (ja_cons (jv 4 rfl) (ja_cons (jv 6 rfl) ja_nil)))) (by rw [List.length_map, hts]; exact lt_size (by omega)) ?_)
    obtain ⟨da, hda, hma⟩ := atI_mem (L := [D.int 1, D.int 1, D.int 1, D.int 1, D.int 1, D.int 1, D.int 1, D.int 2, D.int 0]) (i := ns.getD (14 + 5 * k) 0 % 9) (by omega) (by simp only [List.length_cons, List.length_nil]; omega)
    obtain ⟨ad, rfl, had⟩ : ∃ a : Nat, da = .int (a : Int) ∧ a ≤ 2 := by
      simp only [List.mem_cons, List.not_mem_nil, or_false] at hma
      rcases hma with h | h | h | h | h | h | h | h | h
      · exact ⟨1, h, by omega⟩
      · exact ⟨1, h, by omega⟩
      · exact ⟨1, h, by omega⟩
      · exact ⟨1, h, by omega⟩
      · exact ⟨1, h, by omega⟩
      · exact ⟨1, h, by omega⟩
      · exact ⟨1, h, by omega⟩
      · exact ⟨2, h, by omega⟩
      · exact ⟨0, h, by omega⟩
    refine jss_cons (js_set (i := 1) (J.to (j_bin (jv 1 rfl) (j_ix (j_tup (ja_cons j_int (ja_cons j_int (ja_cons j_int (ja_cons j_int (ja_cons j_int (ja_cons j_int (ja_cons j_int (ja_cons j_int (ja_cons j_int ja_nil)))))))))) (j_bin (jb_int T (ja_cons (j_ix (jv 0 rfl) (j_bin j_int (j_bin j_int (jv 3 rfl) (od_mulI (cmulL (by decide) (by decide)))) od_addI) (ixd_L (atI_mapN D.int 0 (14 + 5 * k) (by omega) (by omega)))) ja_nil)) j_int (od_modI (by decide))) (ixd_T hda)) od_addI) (congrArg D.int (by omega : (n : Int) + (ad : Int) = ((n + ad : Nat) : Int)))) ?_ nd)
    refine jss_nil ⟨n + ad, ts ++ [(L, (n, b), r)], _, _, _, _, _, by rw [List.map_append]; rfl, by omega, by simp [hts], fun t ht => ?_⟩
    rcases List.mem_append.mp ht with q | q
    · exact hok t q
    · rw [List.mem_singleton.mp q]; exact hLr
  · rintro _ ⟨n, ts, o3, o4, o5, o6, o7, rfl, hn, hts, hok⟩
    exact ⟨_, rfl, ts, _, _, _, _, _, _, rfl, by omega, hok⟩
  rintro _ ⟨ts, o1, o3, o4, o5, o6, o7, rfl, hts, hok⟩
  exact jss_cons (js_ret (jv 2 rfl) ⟨ts, rfl, hts, hok⟩)
end
end Toy

namespace Toy
open PySem PyProof.Rows L2 Pf
def flatT (ts : List Trip) : List Nat := flatL (ts.map (·.1))
def goes (t : Trip) (acc : List Rec) (m : Nat) : Bool := (t.2.2 && nextOk acc t.2.1) && decide (t.1.length + 1 ≤ m)
def goE : List Trip → List Rec → Nat → List Rec
  | [], acc, _ => acc
  | t :: ts, acc, m => if goes t acc m = true then goE ts (acc ++ [t.2.1]) (m - (t.1.length + 1)) else acc
theorem flatT_cons (t : Trip) (ts : List Trip) : flatT (t :: ts) = t.1 ++ 10 :: flatT ts := by
  unfold flatT
  rw [List.map_cons, flat_cons]
theorem lines_line {l r : List Nat} (h : 10 ∉ l) : linesN (l ++ 10 :: r) = l :: linesN r := by
  unfold linesN splN
  rw [sp_line h, List.nil_append, List.dropLast_cons_of_ne_nil (sp_ne _ _)]
theorem lines_none {l : List Nat} (h : 10 ∉ l) : linesN l = [] := by
  unfold linesN splN
  rw [sp_end h]
  rfl
theorem walk_eq : ∀ {ts : List Trip} {acc : List Rec} {m : Nat}, (∀ t ∈ ts, OkTr t) → goW (linesN ((flatT ts).take m)) acc = goE ts acc m
  | [], acc, m, _ => by
    show goW (linesN (([] : List Nat).take m)) acc = acc
    rw [List.take_nil, lines_none (by simp)]
    rfl
  | t :: ts, acc, m, h => by
    have ht := h t List.mem_cons_self
    have ih := fun acc m => walk_eq (ts := ts) (acc := acc) (m := m) fun t ht => h t (List.mem_cons_of_mem _ ht)
    rw [flatT_cons]
    unfold goE goes
    by_cases hm : t.1.length + 1 ≤ m
    · obtain ⟨k, rfl⟩ : ∃ k, m = t.1.length + (k + 1) := ⟨m - (t.1.length + 1), by omega⟩
      rw [List.take_append, List.take_of_length_le (by omega), show t.1.length + (k + 1) - t.1.length = k + 1 by omega, List.take_succ_cons, lines_line ht.no]
      unfold goW
      cases hr : t.2.2 with
      | true =>
        obtain ⟨_, e⟩ := ht.right hr
        rw [e]
        dsimp only
        rw [Bool.true_and, decide_eq_true hm, Bool.and_true, show t.1.length + (k + 1) - (t.1.length + 1) = k by omega, ih]
      | false =>
        rw [ht.wrong hr]
        rfl
    · rw [decide_eq_false hm, Bool.and_false, if_neg Bool.false_ne_true, List.take_append, show m - t.1.length = 0 by omega, List.take_zero, List.append_nil, lines_none fun q => ht.no (List.mem_of_mem_take q)]
      rfl
theorem goE_mem : ∀ {ts : List Trip} {acc : List Rec} {m : Nat} {r : Rec}, r ∈ goE ts acc m → r ∈ acc ∨ ∃ t ∈ ts, t.2.1 = r
  | [], acc, m, r, h => .inl h
  | t :: ts, acc, m, r, h => by
    unfold goE at h
    split at h
    · rcases goE_mem h with z | ⟨t', z1, z2⟩
      · rcases List.mem_append.mp z with z | z
        · exact .inl z
        · exact .inr ⟨t, List.mem_cons_self, (List.mem_singleton.mp z).symm⟩
      · exact .inr ⟨t', List.mem_cons_of_mem _ z1, z2⟩
    · exact .inl h
theorem goE_len : ∀ {ts : List Trip} {acc : List Rec} {m : Nat}, (goE ts acc m).length ≤ acc.length + ts.length
  | [], acc, m => Nat.le_refl _
  | t :: ts, acc, m => by
    unfold goE
    split
    · have := goE_len (ts := ts) (acc := acc ++ [t.2.1]) (m := m - (t.1.length + 1)); simp at this ⊢; omega
    · simp
theorem flat_len : ∀ {ts : List Trip}, (∀ t ∈ ts, OkTr t) → (flatT ts).length ≤ 61 * ts.length
  | [], _ => Nat.le_refl _
  | t :: ts, h => by
    have := flat_len (ts := ts) fun t ht => h t (List.mem_cons_of_mem _ ht)
    have h2 := (h t List.mem_cons_self).len
    rw [flatT_cons]
    simp only [List.length_append, List.length_cons]
    omega
theorem join_many (x : PySem.Str) (hx : x.cps = #[]) (Ls : List (List Nat)) : Txt.join x (Ls.map tx) = tx Ls.flatten := by
  have key : ∀ (L : List (List Nat)) (acc : Array Nat), (L.map tx).foldl (fun acc p => acc ++ x.cps ++ p.cps) acc = acc ++ L.flatten.toArray := by
    intro L
    induction L with
    | nil => intro acc; simp
    | cons c L ih =>
      intro acc
      rw [List.map_cons, List.foldl_cons, ih, hx]
      simp [tx]
  unfold Txt.join Builtin.Str.glued
  cases Ls with
  | nil => rfl
  | cons c L =>
    show (⟨List.foldl _ (tx c).cps (L.map tx)⟩ : PySem.Str) = _
    rw [key]
    unfold tx
    simp
def recP (r : Rec) : PyData := .tuple [.int (r.1 : Int), .str (tx r.2)]
def OkRc (r : Rec) : Prop := r.1 < 2000000 ∧ OkBd r.2
theorem toPy_recs : ∀ rs : List Rec, toPys (rs.map recT) = some (rs.map recP)
  | [] => rfl
  | r :: rs => by
    rw [List.map_cons, List.map_cons]
    unfold toPys
    rw [toPy_recs rs, show toPy (recT r) = some (recP r) from rfl]
theorem toPy_rl (rs : List Rec) : toPy (.lst (rs.map recT)) = some (.list (rs.map recP)) := by
  unfold toPy
  rw [toPy_recs]
  rfl
theorem show_recs : ∀ {rs : List Rec}, (∀ r ∈ rs, OkRc r) → PyData.showableAll (rs.map recP) = true
  | [], _ => rfl
  | r :: rs, h => by
    have h1 := (h r List.mem_cons_self).1
    rw [List.map_cons]
    simp only [PyData.showableAll, show_recs (rs := rs) fun r hr => h r (List.mem_cons_of_mem _ hr), recP, PyData.showable, Bool.and_true]
    exact decide_eq_true (log_of (by omega) (by omega))
theorem dict_recs : ∀ rs : List Rec, PyData.hasDictAll (rs.map recP) = false
  | [] => rfl
  | r :: rs => by
    rw [List.map_cons]
    simp only [PyData.hasDictAll, dict_recs rs, recP, PyData.hasDict, Bool.or_false]
theorem depth_recs : ∀ rs : List Rec, PyData.depthAll (rs.map recP) ≤ 1
  | [] => by simp [PyData.depthAll]
  | r :: rs => by
    have := depth_recs rs
    rw [List.map_cons]
    simp only [PyData.depthAll, recP, PyData.depth]
    omega
theorem shown_rec {r : Rec} (h : OkRc r) : (recP r).shown.length ≤ 300 := by
  have h1 := tupleText_len_le (PyData.shownAll [.int (r.1 : Int), .str (tx r.2)])
  have h2 := StrLaws.reprText_len (tx r.2) fun c hc => by have := (h.2.2 c hc).2; omega
  have h3 := numS_len (n := (r.1 : Int)) (by omega) (by have := h.1; omega)
  have e3 : ((toString (r.1 : Int) : String) : Str).length = (numS (r.1 : Int)).length := by unfold numS; rw [Array.length_toList]; rfl
  have h4 := h.2.1.2
  rw [tx_len] at h2
  unfold recP
  simp only [PyData.shown, PyData.shownAll, List.map_cons, List.map_nil, List.sum_cons, List.sum_nil, List.length_cons, List.length_nil] at h1 ⊢
  omega
theorem shown_recs : ∀ {rs : List Rec}, (∀ r ∈ rs, OkRc r) → ((PyData.shownAll (rs.map recP)).map (·.length)).sum ≤ 300 * rs.length
  | [], _ => by simp [PyData.shownAll]
  | r :: rs, h => by
    have h1 := shown_recs (rs := rs) fun r hr => h r (List.mem_cons_of_mem _ hr)
    have h2 := shown_rec (h r List.mem_cons_self)
    rw [List.map_cons]
    simp only [PyData.shownAll, List.map_cons, List.sum_cons, List.length_cons]
    omega
theorem shown_rl {rs : List Rec} (h : ∀ r ∈ rs, OkRc r) (hl : rs.length ≤ 20) : (PyData.list (rs.map recP)).shown.length ≤ sizeLine := by
  have h1 := listText_len_le (PyData.shownAll (rs.map recP))
  have h2 := shown_recs h
  have h3 := PyData.shownAll_length (rs.map recP)
  rw [List.length_map] at h3
  simp only [PyData.shown]
  exact le_size (by omega)
theorem strOk_tx {b : List Nat} (h : ∀ c ∈ b, 32 ≤ c ∧ c ≤ 126) : PySem.PyData.strOk (tx b) = true := by
  unfold PySem.PyData.strOk
  rw [← Array.all_toList, List.all_eq_true]
  intro c hc
  have := h c hc
  exact decide_eq_true (by omega)
theorem fit_recs : ∀ {rs : List Rec}, (∀ r ∈ rs, OkRc r) → fitAllD 2 (rs.map recT) = true
  | [], _ => rfl
  | r :: rs, h => by
    have hs : PySem.PyData.strOk (tx r.2) = true := strOk_tx (h r List.mem_cons_self).2.2
    rw [List.map_cons]
    show (fitD 2 (recT r) && fitAllD 2 (rs.map recT)) = true
    rw [fit_recs (rs := rs) fun r hr => h r (List.mem_cons_of_mem _ hr), Bool.and_true]
    show (true && (fitD 1 (.str (tx r.2)) && true)) = true
    rw [show fitD 1 (.str (tx r.2)) = PySem.PyData.strOk (tx r.2) from rfl, hs]
    rfl
theorem size_app (acc : List Rec) (r : Rec) : sizeL (acc ++ [r]) = sizeL acc + sizeR r := by
  unfold sizeL
  simp
end Toy

namespace Toy
open PySem PyProof.Rows L2 Pf
section
variable {P : Program} {w : World} {K : PySem.W.Frag} {mg : Str → Option Value} {base : Heap}
theorem cut_one (L : List Nat) : cut L none (some ((L.length : Int) - 1)) = L.take (L.length - 1) := by
  cases L with
  | nil => rfl
  | cons c L =>
    rw [show (((c :: L).length : Nat) : Int) - 1 = (((c :: L).length - 1 : Nat) : Int) by simp]
    exact cut_take _ _ (by simp)
theorem flat_eq (ts : List Trip) : flatT ts = (ts.map fun t => t.1 ++ [10]).flatten := by
  unfold flatT flatL
  rw [List.map_map]
  rfl
abbrev nLaw : List Str := ["script", "numbers", "lines", "text", "expected", "size", "line", "record", "is_right", "follows", "actual"]
abbrev sLaw : Stmt := top 26
theorem scLaw : FnScope nLaw ["script"] (defScope sLaw) := ⟨rfl, rfl, rfl, by decide +kernel, rfl, by decide +kernel, by decide +kernel⟩
def gLaw : List D → (D → Prop) → Prop := fun ds P => ∃ (ns : List Int), ds = [.scr ns] ∧ ns.length ≤ 63 ∧ P = fun d => d = .bl true
theorem ok_law {f : Addr} {fd : FuncData} (F : Fun K "law" "law" sLaw f fd) (T : Bt mg) (hrp : mg "repr" = none) (cN : PFn P w K mg base 2 "_law_numbers" 2 gNumbers) (cL : PFn P w K mg base 4 "_law_lines" 1 gLs) (cW : NFn P w K mg base 4 "whole_records" 1 gWh) (cS : PFn P w K mg base 5 "whole_length" 1 gWl) : FnG P w K mg base 6 f fd ["script"] (spP K 1 gLaw) := by
  refine fn_g F scLaw fun cdv s H ds Pd hr hG => ?_
  obtain ⟨sc, rfl, hsc, rfl⟩ := hG
  have nd := scLaw.nd
  refine jss_cons (js_setP (i := 1) (jp_call cN hr (ja_cons (jv 0 rfl) (ja_cons j_int ja_nil)) ⟨sc, 60, rfl, hsc, by decide, rfl⟩) ?_ nd)
  rintro _ ⟨ns, rfl, hl, hb⟩
  refine jss_cons (js_setP (i := 2) (jp_call cL hr (ja_cons (jv 1 rfl) ja_nil) ⟨ns, rfl, hl, hb, rfl⟩) ?_ nd)
  rintro _ ⟨ts, rfl, hts, hok⟩
  have hfl := flat_len hok
  refine jss_cons (js_set (i := 3) (j_join (ys := (ts.map fun t => t.1 ++ [10]).map tx) j_str (J.to (j_lc (own := [("line", 6), ("record", 7), ("is_right", 8)]) (pat := .tp [6, 7, 8]) (its := ts.map fun t => (tripD t, some (D.str (tx (t.1 ++ [10]))))) (ji_list (J.to (jv 2 rfl) (by rw [List.map_map]; rfl))) (blkOk_by (N := nLaw) (sc := defScope sLaw) (by decide +kernel)) (fun _ _ _ _ _ => pg_tup rfl (pgs_cons (pg_name nd rfl (Or.inl rfl)) (pgs_cons (pg_name nd rfl (Or.inl rfl)) (pgs_cons (pg_name nd rfl (Or.inl rfl)) pgs_nil)))) (by decide) (by rw [List.length_map]; exact lt_size (by omega)) (fun q hq => ?_) nd) ?_) ?_ (z := tx (flatT ts)) (by rw [flat_eq]; exact join_many _ (by decide +kernel) _)) ?_ nd)
  · obtain ⟨t, ht, rfl⟩ := List.mem_map.mp hq
    have := (hok t ht).len
    exact ⟨_, rfl, fun _ _ _ _ _ => ⟨jts_nil, j_cat (jv 6 rfl) (j_lit [10] nl_tx) (by simp only [List.length_cons, List.length_nil]; omega)⟩⟩
  · rw [List.filterMap_map, List.map_map, List.map_map]
    exact congrArg D.lst (List.filterMap_eq_map (f := fun t : Trip => D.str (tx (t.1 ++ [10]))) ▸ rfl)
  · rw [List.map_map, List.length_map, List.length_map, show ((fun z : PySem.Str => z.length) ∘ tx) = List.length from funext fun c => tx_len c, ← List.length_flatten, ← flat_eq]
    show _ + ts.length * 0 ≤ _
    exact le_size (by omega)
  have hz : (tx (flatT ts)).length ≤ sizeLine := by rw [tx_len]; exact le_size (by omega)
  refine jss_mid (fun ρ => ∃ m : Nat, m ≤ (flatT ts).length ∧ ρ = [some (.fz (.scr sc)), some (.fz (.lst (ns.map D.int))), some (.fz (.lst (ts.map tripD))), some (.fz (.str (tx ((flatT ts).take m)))), none, none, none, none, none, none, none])
    (js_if (jt_cm (j_bin (jb_int T (ja_cons (j_ix (jv 1 rfl) j_int (ixd_I (by omega) (by omega))) ja_nil)) j_int (od_modI (by decide))) j_int cd_eqI) (fun _ => ?_) (fun _ => jss_cons (js_if (jt_cm (j_bin (jb_int T (ja_cons (j_ix (jv 1 rfl) j_int (ixd_I (by omega) (by omega))) ja_nil)) j_int (od_modI (by decide))) j_int cd_eqI) (fun _ => ?_) (fun _ => ?_)))) ?_
  · obtain ⟨m, hm, hm2⟩ : ∃ m : Nat, ns.getD (4 : Int).toNat 0 % (((flatT ts).length : Int) + 1) = (m : Int) ∧ m ≤ (flatT ts).length := by
      have h1 := Int.emod_nonneg (ns.getD (4 : Int).toNat 0) (by omega : ((flatT ts).length : Int) + 1 ≠ 0)
      have h2 := Int.emod_lt_of_pos (ns.getD (4 : Int).toNat 0) (by omega : (0 : Int) < ((flatT ts).length : Int) + 1)
      exact ⟨(ns.getD (4 : Int).toNat 0 % (((flatT ts).length : Int) + 1)).toNat, by omega, by omega⟩
    refine jss_cons (js_set (i := 3) (J.to (j_slS (jv 3 rfl) hz jo_none (jo_some (J.to (j_bin (jb_int T (ja_cons (j_ix (jv 1 rfl) j_int (ixd_I (by omega) (by omega))) ja_nil)) (j_bin (J.to (jb_len T (ja_cons (jv 3 rfl) ja_nil) (lenS hz)) (by rw [tx_len])) j_int od_addI) (od_modI (by omega))) (congrArg D.int hm)))) (d' := .str (tx ((flatT ts).take m))) (by rw [cutS_tx, cut_take _ _ hm2])) ?_ nd)
    exact jss_nil ⟨_, rfl, m, hm2, rfl⟩
  · refine jss_cons (js_set (i := 3) (J.to (j_slS (jv 3 rfl) hz jo_none (jo_some (j_bin (J.to (jb_len T (ja_cons (jv 3 rfl) ja_nil) (lenS hz)) (by rw [tx_len])) j_int od_subI))) (d' := .str (tx ((flatT ts).take ((flatT ts).length - 1)))) (by rw [cutS_tx, cut_one])) ?_ nd)
    exact jss_nil (jss_nil ⟨_, rfl, (flatT ts).length - 1, by omega, rfl⟩)
  · exact jss_nil (jss_nil ⟨_, rfl, (flatT ts).length, Nat.le_refl _, by rw [List.take_length]; rfl⟩)
  rintro _ ⟨m, hm, rfl⟩
  have hcl : ((flatT ts).take m).length = m := by rw [List.length_take]; omega
  have hE : wholeN ((flatT ts).take m) = goE ts [] m := walk_eq hok
  generalize hcs : (flatT ts).take m = cs at hcl hE
  generalize hEE : goE ts [] m = R at hE
  have hRc : ∀ r ∈ R, OkRc r := fun r h => by
    rw [← hEE] at h
    rcases goE_mem h with z | ⟨t, ht, rfl⟩
    · cases z
    · exact ⟨(hok t ht).num, (hok t ht).bd⟩
  have hRl : R.length ≤ 8 := by
    have := goE_len (ts := ts) (acc := []) (m := m)
    rw [hEE] at this
    simp at this
    omega
  have hzc : (tx cs).length ≤ sizeLine := by rw [tx_len]; exact le_size (by omega)
  refine jss_cons (js_setN (i := 4) (jn_lst ja_nil) ?_ nd)
  refine jss_cons (js_set (i := 5) j_int ?_ nd)
  refine jss_mid (fun ρ => ∃ o6 o7 o8 o9 : Option SV, ρ = [some (.fz (.scr sc)), some (.fz (.lst (ns.map D.int))), some (.fz (.lst (ts.map tripD))), some (.fz (.str (tx cs))), some (.ow (.lst (R.map recT))), some (.fz (.int (sizeL R : Nat))), o6, o7, o8, o9, none])
    (js_for (pat := .tp [6, 7, 8]) (fun j ρ => ∃ (acc : List Rec) (o6 o7 o8 o9 : Option SV), ρ = [some (.fz (.scr sc)), some (.fz (.lst (ns.map D.int))), some (.fz (.lst (ts.map tripD))), some (.fz (.str (tx cs))), some (.ow (.lst (acc.map recT))), some (.fz (.int (sizeL acc : Nat))), o6, o7, o8, o9, none] ∧ acc.length ≤ j ∧ sizeL acc ≤ m ∧ goE (ts.drop j) acc (m - sizeL acc) = R)
      (ji_list (jv 2 rfl)) (pg_tup rfl (pgs_cons (pg_name nd rfl (Or.inl rfl)) (pgs_cons (pg_name nd rfl (Or.inl rfl)) (pgs_cons (pg_name nd rfl (Or.inl rfl)) pgs_nil)))) ⟨[], none, none, none, none, rfl, Nat.le_refl _, Nat.zero_le _, hEE⟩ ?_ ?_ PassesOwn.never) ?_
  · rintro j d ρ hd ⟨acc, o6, o7, o8, o9, rfl, hal, hsz, he⟩
    obtain ⟨t, ht, rfl⟩ := map_get hd
    obtain ⟨hjl, hje⟩ := List.getElem?_eq_some_iff.mp ht
    have hdr : ts.drop j = t :: ts.drop (j + 1) := by rw [List.drop_eq_getElem_cons hjl, hje]
    have hot := hok t (hje ▸ List.getElem_mem hjl)
    have hlt := hot.len
    rw [hdr] at he
    unfold goE at he
    refine ⟨_, rfl, ?_⟩
    have hzl : (tx t.1).length ≤ sizeLine := by rw [tx_len]; exact le_size (by omega)
    refine jss_cons (js_setS (i := 9) (?_ : J _ _ _ (.bl (nextOk acc t.2.1))) rfl ?_ nd)
    · rcases List.eq_nil_or_concat acc with rfl | ⟨acc', q, hq⟩
      · exact j_orTr (j_cm (jb_len T (ja_cons (jv 4 rfl) ja_nil) rfl) j_int cd_eqI)
      · rw [List.concat_eq_append] at hq
        subst hq
        refine J.to (j_or (t := false) (J.to (j_cm (jb_len T (ja_cons (jv 4 rfl) ja_nil) rfl) j_int cd_eqI) ?_) (fun _ => j_one (j_cm (j_ix (jv 7 rfl) j_int (ixd_T (ds := [.int (t.2.1.1 : Int), .str (tx t.2.1.2)]) (i := 0) (d := .int (t.2.1.1 : Int)) rfl)) (j_bin (j_ix (j_ix (jv 4 rfl) (j_neg j_int) (ixd_L (at_last (acc := acc') (q := q)))) j_int (ixd_T (ds := [.int (q.1 : Int), .str (tx q.2)]) (i := 0) (d := .int (q.1 : Int)) rfl)) j_int od_addI) cd_eqI))) ?_
        · refine congrArg D.bl (decide_eq_false fun z => ?_)
          rw [List.length_map, List.length_append, List.length_singleton] at z
          omega
        · refine congrArg D.bl ?_
          unfold nextOk
          rw [List.getLast?_append, Bool.false_or]
          show decide _ = decide (t.2.1.1 = q.1 + 1)
          exact decide_eq_decide.mpr (by omega)
    refine jss_cons (js_if (t := !goes t acc (m - sizeL acc)) (JT.to (jt_w (jw_or (jt_not (jt_val (jv 8 rfl))) (fun _ => jw_or (jt_not (jt_val (jv 9 rfl))) (fun _ => jw_or1 (jt_cm (j_bin (j_bin (jv 5 rfl) (jb_len T (ja_cons (jv 6 rfl) ja_nil) (lenS hzl)) od_addI) j_int od_addI) (jb_len T (ja_cons (jv 3 rfl) ja_nil) (lenS hzc)) cd_gtI))))) ?_) (fun h => ?_) (fun h => jss_nil ?_))
    · rw [tx_len, tx_len]
      show (!t.2.2 || (!nextOk acc t.2.1 || decide _)) = _
      unfold goes
      rw [Bool.not_and, Bool.not_and, Bool.or_assoc]
      congr 2
      rw [← decide_not]
      exact decide_eq_decide.mpr (by omega)
    · rw [Bool.not_eq_true'] at h
      rw [h] at he
      exact jss_cons (js_break ⟨_, rfl, _, _, _, _, by rw [← he]; rfl⟩)
    · rw [Bool.not_eq_false'] at h
      rw [h, if_pos rfl] at he
      have h' := h
      unfold goes at h'
      rw [Bool.and_eq_true, Bool.and_eq_true, decide_eq_true_iff] at h'
      have e1 : sizeL (acc ++ [t.2.1]) = sizeL acc + (t.1.length + 1) := by
        rw [size_app]
        unfold sizeR
        rw [← (hot.right h'.1.1).1]
      refine jss_cons (js_append (i := 4) (ds := acc.map recT) rfl (jv 7 rfl) (by rw [List.length_map]; exact lt_size (by omega)) ?_)
      refine jss_cons (js_set (i := 5) (J.to (j_bin (j_bin (jv 5 rfl) (J.to (jb_len T (ja_cons (jv 6 rfl) ja_nil) (lenS hzl)) (by rw [tx_len])) od_addI) j_int od_addI) (d' := .int (sizeL (acc ++ [t.2.1]) : Nat)) (congrArg D.int (by omega))) ?_ nd)
      exact jss_nil ⟨acc ++ [t.2.1], _, _, _, _, by rw [List.map_append]; rfl, by simp; omega, by omega, by rw [e1, ← he]; congr 1; omega⟩
  · rintro _ ⟨acc, o6, o7, o8, o9, rfl, hal, hsz, he⟩
    rw [List.length_map, List.drop_length] at he
    exact ⟨_, rfl, _, _, _, _, by rw [← he]; rfl⟩
  rintro _ ⟨o6, o7, o8, o9, rfl⟩
  refine jss_cons (js_setNP (i := 10) (jnp_call cW hr (ja_cons (jv 3 rfl) ja_nil) ⟨cs, rfl, by omega, rfl⟩) ?_ nd)
  rintro _ rfl
  rw [hE]
  have j1 : ∀ {i : Nat} {ρ : Rho} {e : Expr} {p pos : Pos}, True := fun {_ _ _ _ _} => trivial
  refine jss_cons (js_ifF (JT.to (jt_w (jw_or (jt_cm (j_repr rfl hr.units hrp (ja_cons (jv 10 rfl) ja_nil) (toPy_rl R) rfl (show_recs hRc) (dict_recs R) (Nat.le_trans (Nat.succ_le_succ (depth_recs R)) (by decide)) (shown_rl hRc (by omega))) (j_repr rfl hr.units hrp (ja_cons (jv 4 rfl) ja_nil) (toPy_rl R) rfl (show_recs hRc) (dict_recs R) (Nat.le_trans (Nat.succ_le_succ (depth_recs R)) (by decide)) (shown_rl hRc (by omega))) cd_neS) (fun _ => jw_or (jt_cm (j_call cS hr (ja_cons (jv 3 rfl) ja_nil) ⟨cs, rfl, by omega, rfl⟩ (fun _ h => h)) (jv 5 rfl) cd_neI) (fun _ => jw_or1 (jt_val (jb_isi (b := false) T (ja_cons (j_call cS hr (ja_cons (jv 3 rfl) ja_nil) ⟨cs, rfl, by omega, rfl⟩ (fun _ h => h)) (ja_cons (j_ty (T := "bool") T.bool (by decide +kernel)) ja_nil)) rfl (by rfl))))))) ?_) (jss_nil ?_))
  · rw [hE, decide_eq_true rfl, decide_eq_true rfl]
    rfl
  refine jss_cons (js_append (i := 10) (ds := R.map recT) rfl (j_tup (ja_cons j_int (ja_cons j_str ja_nil))) (by rw [List.length_map]; exact lt_size (by omega)) ?_)
  have hfit : fitD 3 (.lst (R.map recT)) = true := fit_recs hRc
  refine jss_cons (js_ret (J.to (j_cm (j_NP (jnp_call cW hr (ja_cons (jv 3 rfl) ja_nil) ⟨cs, rfl, by omega, rfl⟩) (fun l h => h)) (J.to (jv 4 rfl) (d' := .lst (R.map recT)) rfl) (cd_eqF 3 hr.units (by rw [hE]; exact hfit) hfit (by decide))) (congrArg D.bl (by rw [hE]; exact eqvD_refl 3 _ hfit))) rfl)
end
end Toy

namespace Toy
open PySem PyProof.Rows L2 Pf
def spLaw (K : PySem.W.Frag) : Sp := fun args H Q _ =>
  ∃ (ns : List Int) (a : Addr), args = [.ref a] ∧ ns.length ≤ 63 ∧ SqL K H a (ns.map V.int) ∧ (∀ H', Q (.bl true) H')
theorem law_of {K : PySem.W.Frag} (vs : List V) (H : Hp) (Q : VK) (E : XK) (h : spLaw K vs H Q E) : spP K 1 gLaw vs H Q E := by
  obtain ⟨ns, a, rfl, hl, hS, q⟩ := h
  refine ⟨rfl, H, [.scr ns], _, .refl _, .cons (.scr hS) .nil, ⟨ns, rfl, hl, rfl⟩, ?_⟩
  rintro _ rfl v W' H' _ r
  cases r
  exact q H'
theorem all_mk {l : PySem.W.OpenLaw} {w : World} {K : PySem.W.Frag} {h : Heap} {mg : Str → Option Value} {fa f0 f1 f2 f3 f4 f5 f6 f7 f8 f9 f10 f11 f12 f13 f14 f15 f16 : Addr} (X : K.In h) (G : h.Ns mainGlobals mg) (hfa : mg "law" = some (.ref fa))
    {tg0 tg1 tg2 tg3 tg4 tg5 : Tok}
    (a0 : PySem.W.nsIn K mainGlobals "parse_number" = some (some (.ref f0)))
    (q0 : HX.FnIn K f0 "parse_number" "parse_number" sNum)
    (a1 : PySem.W.nsIn K mainGlobals "check_digits" = some (some (.ref f1)))
    (q1 : HX.FnIn K f1 "check_digits" "check_digits" sChk)
    (a2 : PySem.W.nsIn K mainGlobals "record_line" = some (some (.ref f2)))
    (q2 : HX.FnIn K f2 "record_line" "record_line" sRec)
    (a3 : PySem.W.nsIn K mainGlobals "record_text" = some (some (.ref f3)))
    (q3 : HX.FnIn K f3 "record_text" "record_text" sTxt)
    (a4 : PySem.W.nsIn K mainGlobals "is_body" = some (some (.ref f4)))
    (q4 : HX.FnIn K f4 "is_body" "is_body" sIsB)
    (a5 : PySem.W.nsIn K mainGlobals "read_record" = some (some (.ref f5)))
    (q5 : HX.FnIn K f5 "read_record" "read_record" sRead)
    (a6 : PySem.W.nsIn K mainGlobals "whole_records" = some (some (.ref f6)))
    (q6 : HX.FnIn K f6 "whole_records" "whole_records" sWh)
    (a7 : PySem.W.nsIn K mainGlobals "whole_length" = some (some (.ref f7)))
    (q7 : HX.FnIn K f7 "whole_length" "whole_length" sWl)
    (a8 : PySem.W.nsIn K mainGlobals "_law_row" = some (some (.ref f8)))
    (q8 : HX.FnIn K f8 "_law_row" "_law_row" sRow)
    (a9 : PySem.W.nsIn K mainGlobals "_law_numbers" = some (some (.ref f9)))
    (q9 : HX.FnIn K f9 "_law_numbers" "_law_numbers" sNumbers)
    (a10 : PySem.W.nsIn K mainGlobals "_law_three" = some (some (.ref f10)))
    (q10 : HX.FnIn K f10 "_law_three" "_law_three" sThree)
    (a11 : PySem.W.nsIn K mainGlobals "_law_digits" = some (some (.ref f11)))
    (q11 : HX.FnIn K f11 "_law_digits" "_law_digits" sDig)
    (a12 : PySem.W.nsIn K mainGlobals "_law_line" = some (some (.ref f12)))
    (q12 : HX.FnIn K f12 "_law_line" "_law_line" sLine)
    (a13 : PySem.W.nsIn K mainGlobals "_law_sign" = some (some (.ref f13)))
    (q13 : HX.FnIn K f13 "_law_sign" "_law_sign" sSign)
    (a14 : PySem.W.nsIn K mainGlobals "_law_drawn" = some (some (.ref f14)))
    (q14 : HX.FnIn K f14 "_law_drawn" "_law_drawn" sDr)
    (a15 : PySem.W.nsIn K mainGlobals "_law_lines" = some (some (.ref f15)))
    (q15 : HX.FnIn K f15 "_law_lines" "_law_lines" sLs)
    (a16 : PySem.W.nsIn K mainGlobals "law" = some (some (.ref f16)))
    (q16 : HX.FnIn K f16 "law" "law" sLaw)
    (z0 : PySem.W.nsIn K mainGlobals "len" = some none)
    (z1 : PySem.W.nsIn K mainGlobals "int" = some none)
    (z2 : PySem.W.nsIn K mainGlobals "abs" = some none)
    (z3 : PySem.W.nsIn K mainGlobals "range" = some none)
    (z4 : PySem.W.nsIn K mainGlobals "tuple" = some none)
    (z5 : PySem.W.nsIn K mainGlobals "list" = some none)
    (z6 : PySem.W.nsIn K mainGlobals "sorted" = some none)
    (z7 : PySem.W.nsIn K mainGlobals "set" = some none)
    (z8 : PySem.W.nsIn K mainGlobals "isinstance" = some none)
    (z9 : PySem.W.nsIn K mainGlobals "bool" = some none)
    (z10 : PySem.W.nsIn K mainGlobals "min" = some none)
    (z11 : PySem.W.nsIn K mainGlobals "max" = some none)
    (z12 : PySem.W.nsIn K mainGlobals "sum" = some none)
    (z13 : PySem.W.nsIn K mainGlobals "all" = some none)
    (z14 : PySem.W.nsIn K mainGlobals "any" = some none)
    (z15 : PySem.W.nsIn K mainGlobals "str" = some none)
    (z16 : PySem.W.nsIn K mainGlobals "zip" = some none)
    (z17 : PySem.W.nsIn K mainGlobals "enumerate" = some none)
    (zg0 : PySem.W.nsIn K mainGlobals "DIGITS" = some (some (.str "0123456789" tg0)))
    (zg1 : PySem.W.nsIn K mainGlobals "LONGEST_BODY" = some (some (.int 700 tg1)))
    (zg2 : PySem.W.nsIn K mainGlobals "PRIME" = some (some (.int 997 tg2)))
    (zg3 : PySem.W.nsIn K mainGlobals "SIZE_DIGITS" = some (some (.int 3 tg3)))
    (zg4 : PySem.W.nsIn K mainGlobals "NUMBER_DIGITS" = some (some (.int 6 tg4)))
    (zg5 : PySem.W.nsIn K mainGlobals "END" = some (some (.int 7 tg5)))
    (zord : PySem.W.nsIn K mainGlobals "ord" = some none)
    (zrep : PySem.W.nsIn K mainGlobals "repr" = some none) :
    ∃ fn : FuncData, (∀ (s : Shared) (v : Value), BindsTo s fn ⟨[v], []⟩ [("script", v)]) ∧ ∀ base : Heap, K.In base → base.Ns mainGlobals mg → FnG l.prog w K mg base 6 fa fn ["script"] (spLaw K) := by
  obtain ⟨oc0, od0, kV0, dc0, pm0, an0, cd0, ct0, sl0, l0, c0, k0⟩ := q0
  obtain ⟨oc1, od1, kV1, dc1, pm1, an1, cd1, ct1, sl1, l1, c1, k1⟩ := q1
  obtain ⟨oc2, od2, kV2, dc2, pm2, an2, cd2, ct2, sl2, l2, c2, k2⟩ := q2
  obtain ⟨oc3, od3, kV3, dc3, pm3, an3, cd3, ct3, sl3, l3, c3, k3⟩ := q3
  obtain ⟨oc4, od4, kV4, dc4, pm4, an4, cd4, ct4, sl4, l4, c4, k4⟩ := q4
  obtain ⟨oc5, od5, kV5, dc5, pm5, an5, cd5, ct5, sl5, l5, c5, k5⟩ := q5
  obtain ⟨oc6, od6, kV6, dc6, pm6, an6, cd6, ct6, sl6, l6, c6, k6⟩ := q6
  obtain ⟨oc7, od7, kV7, dc7, pm7, an7, cd7, ct7, sl7, l7, c7, k7⟩ := q7
  obtain ⟨oc8, od8, kV8, dc8, pm8, an8, cd8, ct8, sl8, l8, c8, k8⟩ := q8
  obtain ⟨oc9, od9, kV9, dc9, pm9, an9, cd9, ct9, sl9, l9, c9, k9⟩ := q9
  obtain ⟨oc10, od10, kV10, dc10, pm10, an10, cd10, ct10, sl10, l10, c10, k10⟩ := q10
  obtain ⟨oc11, od11, kV11, dc11, pm11, an11, cd11, ct11, sl11, l11, c11, k11⟩ := q11
  obtain ⟨oc12, od12, kV12, dc12, pm12, an12, cd12, ct12, sl12, l12, c12, k12⟩ := q12
  obtain ⟨oc13, od13, kV13, dc13, pm13, an13, cd13, ct13, sl13, l13, c13, k13⟩ := q13
  obtain ⟨oc14, od14, kV14, dc14, pm14, an14, cd14, ct14, sl14, l14, c14, k14⟩ := q14
  obtain ⟨oc15, od15, kV15, dc15, pm15, an15, cd15, ct15, sl15, l15, c15, k15⟩ := q15
  obtain ⟨oc16, od16, kV16, dc16, pm16, an16, cd16, ct16, sl16, l16, c16, k16⟩ := q16
  have e := hfa.symm.trans (PySem.W.mg_of X G a16)
  cases e
  have T : Bt mg := ⟨PySem.W.mg_none_of X G z0, PySem.W.mg_none_of X G z1, PySem.W.mg_none_of X G z2, PySem.W.mg_none_of X G z3, PySem.W.mg_none_of X G z4, PySem.W.mg_none_of X G z5, PySem.W.mg_none_of X G z6, PySem.W.mg_none_of X G z7, PySem.W.mg_none_of X G z8, PySem.W.mg_none_of X G z9, PySem.W.mg_none_of X G z10, PySem.W.mg_none_of X G z11, PySem.W.mg_none_of X G z12, PySem.W.mg_none_of X G z13, PySem.W.mg_none_of X G z14, PySem.W.mg_none_of X G z15, PySem.W.mg_none_of X G z16, PySem.W.mg_none_of X G z17⟩
  have F0 := fun_mk (st := sNum) l0 c0 k0
  have b0 := F0.binds (ps := ["word", "digits"]) fun _ _ _ _ _ _ us hl => match us, hl with | [_, _], _ => rfl
  have F1 := fun_mk (st := sChk) l1 c1 k1
  have b1 := F1.binds (ps := ["text"]) fun _ _ _ _ _ _ us hl => match us, hl with | [_], _ => rfl
  have F2 := fun_mk (st := sRec) l2 c2 k2
  have b2 := F2.binds (ps := ["number", "body"]) fun _ _ _ _ _ _ us hl => match us, hl with | [_, _], _ => rfl
  have F3 := fun_mk (st := sTxt) l3 c3 k3
  have b3 := F3.binds (ps := ["number", "body"]) fun _ _ _ _ _ _ us hl => match us, hl with | [_, _], _ => rfl
  have F4 := fun_mk (st := sIsB) l4 c4 k4
  have b4 := F4.binds (ps := ["text"]) fun _ _ _ _ _ _ us hl => match us, hl with | [_], _ => rfl
  have F5 := fun_mk (st := sRead) l5 c5 k5
  have b5 := F5.binds (ps := ["line"]) fun _ _ _ _ _ _ us hl => match us, hl with | [_], _ => rfl
  have F6 := fun_mk (st := sWh) l6 c6 k6
  have b6 := F6.binds (ps := ["text"]) fun _ _ _ _ _ _ us hl => match us, hl with | [_], _ => rfl
  have F7 := fun_mk (st := sWl) l7 c7 k7
  have b7 := F7.binds (ps := ["text"]) fun _ _ _ _ _ _ us hl => match us, hl with | [_], _ => rfl
  have F8 := fun_mk (st := sRow) l8 c8 k8
  have b8 := F8.binds (ps := ["cell", "many"]) fun _ _ _ _ _ _ us hl => match us, hl with | [_, _], _ => rfl
  have F9 := fun_mk (st := sNumbers) l9 c9 k9
  have b9 := F9.binds (ps := ["script", "many"]) fun _ _ _ _ _ _ us hl => match us, hl with | [_, _], _ => rfl
  have F10 := fun_mk (st := sThree) l10 c10 k10
  have b10 := F10.binds (ps := ["number"]) fun _ _ _ _ _ _ us hl => match us, hl with | [_], _ => rfl
  have F11 := fun_mk (st := sDig) l11 c11 k11
  have b11 := F11.binds (ps := ["text"]) fun _ _ _ _ _ _ us hl => match us, hl with | [_], _ => rfl
  have F12 := fun_mk (st := sLine) l12 c12 k12
  have b12 := F12.binds (ps := ["number", "body"]) fun _ _ _ _ _ _ us hl => match us, hl with | [_, _], _ => rfl
  have F13 := fun_mk (st := sSign) l13 c13 k13
  have b13 := F13.binds (ps := ["number"]) fun _ _ _ _ _ _ us hl => match us, hl with | [_], _ => rfl
  have F14 := fun_mk (st := sDr) l14 c14 k14
  have b14 := F14.binds (ps := ["numbers", "at", "number"]) fun _ _ _ _ _ _ us hl => match us, hl with | [_, _, _], _ => rfl
  have F15 := fun_mk (st := sLs) l15 c15 k15
  have b15 := F15.binds (ps := ["numbers"]) fun _ _ _ _ _ _ us hl => match us, hl with | [_], _ => rfl
  have F16 := fun_mk (st := sLaw) l16 c16 k16
  have m0 := PySem.W.mg_of X G a0
  have m1 := PySem.W.mg_of X G a1
  have m2 := PySem.W.mg_of X G a2
  have m3 := PySem.W.mg_of X G a3
  have m4 := PySem.W.mg_of X G a4
  have m5 := PySem.W.mg_of X G a5
  have m6 := PySem.W.mg_of X G a6
  have m7 := PySem.W.mg_of X G a7
  have m8 := PySem.W.mg_of X G a8
  have m9 := PySem.W.mg_of X G a9
  have m10 := PySem.W.mg_of X G a10
  have m11 := PySem.W.mg_of X G a11
  have m12 := PySem.W.mg_of X G a12
  have m13 := PySem.W.mg_of X G a13
  have m14 := PySem.W.mg_of X G a14
  have m15 := PySem.W.mg_of X G a15
  have GG : Gb mg := ⟨⟨_, PySem.W.mg_of X G zg0⟩, ⟨_, PySem.W.mg_of X G zg1⟩, ⟨_, PySem.W.mg_of X G zg2⟩, ⟨_, PySem.W.mg_of X G zg3⟩, ⟨_, PySem.W.mg_of X G zg4⟩, ⟨_, PySem.W.mg_of X G zg5⟩⟩
  have HO : mg "ord" = none := PySem.W.mg_none_of X G zord
  have HR : mg "repr" = none := PySem.W.mg_none_of X G zrep
  refine ⟨PySem.W.fnOf "law" "law" (defArgs sLaw) (defBody sLaw) (defScope sLaw) .none kV16 dc16 pm16 an16 cd16 ct16, fun s v => .of_eq rfl, fun base _ _ => ?_⟩
  have cNu : PFn l.prog w K mg base 1 "parse_number" 2 gNum := ⟨_, _, _, ok_num F0 T GG, m0, k0, b0⟩
  have cCh : PFn l.prog w K mg base 1 "check_digits" 1 gChk := ⟨_, _, _, ok_chk F1 T GG HO, m1, k1, b1⟩
  have cRe : PFn l.prog w K mg base 2 "record_line" 2 gRec := ⟨_, _, _, ok_rec F2 T cCh, m2, k2, b2⟩
  have cRt : PFn l.prog w K mg base 3 "record_text" 2 gTxt := ⟨_, _, _, ok_txt F3 cRe, m3, k3, b3⟩
  have cIs : PFn l.prog w K mg base 1 "is_body" 1 gIsB := ⟨_, _, _, ok_isB F4 T GG, m4, k4, b4⟩
  have cRd : PFn l.prog w K mg base 3 "read_record" 1 gRead := ⟨_, _, _, ok_read F5 T GG cNu cIs cRe, m5, k5, b5⟩
  have cWh : NFn l.prog w K mg base 4 "whole_records" 1 gWh := ⟨_, _, _, ok_wh F6 T cRd, m6, k6, b6⟩
  have cWl : PFn l.prog w K mg base 5 "whole_length" 1 gWl := ⟨_, _, _, ok_wl F7 T cRt cWh, m7, k7, b7⟩
  have cRow : PFn l.prog w K mg base 1 "_law_row" 2 gRow := ⟨_, _, _, ok_row F8 T, m8, k8, b8⟩
  have cNum : PFn l.prog w K mg base 2 "_law_numbers" 2 gNumbers := ⟨_, _, _, ok_numbers F9 T cRow, m9, k9, b9⟩
  have cTh : PFn l.prog w K mg base 1 "_law_three" 1 gThree := ⟨_, _, _, ok_three F10 T, m10, k10, b10⟩
  have cDi : PFn l.prog w K mg base 2 "_law_digits" 1 gChk := ⟨_, _, _, ok_dig F11 T HO cTh, m11, k11, b11⟩
  have cLi : PFn l.prog w K mg base 3 "_law_line" 2 gRec := ⟨_, _, _, ok_line F12 T cDi, m12, k12, b12⟩
  have cSi : PFn l.prog w K mg base 1 "_law_sign" 1 gSign := ⟨_, _, _, ok_sign F13 T, m13, k13, b13⟩
  have cDr : PFn l.prog w K mg base 2 "_law_drawn" 3 gDr := ⟨_, _, _, ok_dr F14 T cSi, m14, k14, b14⟩
  have cLs : PFn l.prog w K mg base 4 "_law_lines" 1 gLs := ⟨_, _, _, ok_ls F15 T HO cDr cLi, m15, k15, b15⟩
  have GO := ok_law F16 T HR cNum cLs cWh cWl
  exact ⟨fun s H us vs Q hr en hb rv hl hs => GO.go s H us vs Q hr en hb rv hl (law_of (K := K) vs H Q _ hs)⟩
end Toy

open PySem.W PyProof.Rows PySem
set_option maxRecDepth 90000 in
set_option maxHeartbeats 0 in
theorem PySem.Challenge.cw_limitweave_k39_whole_records_holds : PySem.Challenge.rw_limitweave_k39_whole_records.Holds := by
  refine Hd.head ?_
  refine Pf.walk_g (l := PySem.Challenge.rw_limitweave_k39_whole_records) (n := 63) (k := 6) (x := "script") rfl (by decide) (by kernel_rfl) ⟨rfl, by decide, by decide⟩ ?F
  intro w mg fa h Y G hmg0
  obtain ⟨K, KX, S⟩ := Y
  have hmg : mg ("law" : PySem.Str) = some (.ref fa) := by
    have e : (HandSHeadRun.topDef Hd.R.prog 26).name = ("law" : PySem.Str) := by kernel_rfl
    rw [← e]
    exact hmg0
  have a0 : PySem.W.nsIn K mainGlobals "parse_number" = some (some (.ref (He.ga K "parse_number"))) := of_decide_eq_true (S.b 0 0 rfl rfl)
  have q0 : HX.FnIn K (He.ga K "parse_number") "parse_number" "parse_number" Toy.sNum := S.fn 0 rfl rfl
  have a1 : PySem.W.nsIn K mainGlobals "check_digits" = some (some (.ref (He.ga K "check_digits"))) := of_decide_eq_true (S.b 0 1 rfl rfl)
  have q1 : HX.FnIn K (He.ga K "check_digits") "check_digits" "check_digits" Toy.sChk := S.fn 1 rfl rfl
  have a2 : PySem.W.nsIn K mainGlobals "record_line" = some (some (.ref (He.ga K "record_line"))) := of_decide_eq_true (S.b 0 2 rfl rfl)
  have q2 : HX.FnIn K (He.ga K "record_line") "record_line" "record_line" Toy.sRec := S.fn 2 rfl rfl
  have a3 : PySem.W.nsIn K mainGlobals "record_text" = some (some (.ref (He.ga K "record_text"))) := of_decide_eq_true (S.b 0 3 rfl rfl)
  have q3 : HX.FnIn K (He.ga K "record_text") "record_text" "record_text" Toy.sTxt := S.fn 3 rfl rfl
  have a4 : PySem.W.nsIn K mainGlobals "is_body" = some (some (.ref (He.ga K "is_body"))) := of_decide_eq_true (S.b 0 4 rfl rfl)
  have q4 : HX.FnIn K (He.ga K "is_body") "is_body" "is_body" Toy.sIsB := S.fn 4 rfl rfl
  have a5 : PySem.W.nsIn K mainGlobals "read_record" = some (some (.ref (He.ga K "read_record"))) := of_decide_eq_true (S.b 0 5 rfl rfl)
  have q5 : HX.FnIn K (He.ga K "read_record") "read_record" "read_record" Toy.sRead := S.fn 5 rfl rfl
  have a6 : PySem.W.nsIn K mainGlobals "whole_records" = some (some (.ref (He.ga K "whole_records"))) := of_decide_eq_true (S.b 0 6 rfl rfl)
  have q6 : HX.FnIn K (He.ga K "whole_records") "whole_records" "whole_records" Toy.sWh := S.fn 6 rfl rfl
  have a7 : PySem.W.nsIn K mainGlobals "whole_length" = some (some (.ref (He.ga K "whole_length"))) := of_decide_eq_true (S.b 0 7 rfl rfl)
  have q7 : HX.FnIn K (He.ga K "whole_length") "whole_length" "whole_length" Toy.sWl := S.fn 7 rfl rfl
  have a8 : PySem.W.nsIn K mainGlobals "_law_row" = some (some (.ref (He.ga K "_law_row"))) := of_decide_eq_true (S.b 0 8 rfl rfl)
  have q8 : HX.FnIn K (He.ga K "_law_row") "_law_row" "_law_row" Toy.sRow := S.fn 8 rfl rfl
  have a9 : PySem.W.nsIn K mainGlobals "_law_numbers" = some (some (.ref (He.ga K "_law_numbers"))) := of_decide_eq_true (S.b 0 9 rfl rfl)
  have q9 : HX.FnIn K (He.ga K "_law_numbers") "_law_numbers" "_law_numbers" Toy.sNumbers := S.fn 9 rfl rfl
  have a10 : PySem.W.nsIn K mainGlobals "_law_three" = some (some (.ref (He.ga K "_law_three"))) := of_decide_eq_true (S.b 0 10 rfl rfl)
  have q10 : HX.FnIn K (He.ga K "_law_three") "_law_three" "_law_three" Toy.sThree := S.fn 10 rfl rfl
  have a11 : PySem.W.nsIn K mainGlobals "_law_digits" = some (some (.ref (He.ga K "_law_digits"))) := of_decide_eq_true (S.b 0 11 rfl rfl)
  have q11 : HX.FnIn K (He.ga K "_law_digits") "_law_digits" "_law_digits" Toy.sDig := S.fn 11 rfl rfl
  have a12 : PySem.W.nsIn K mainGlobals "_law_line" = some (some (.ref (He.ga K "_law_line"))) := of_decide_eq_true (S.b 0 12 rfl rfl)
  have q12 : HX.FnIn K (He.ga K "_law_line") "_law_line" "_law_line" Toy.sLine := S.fn 12 rfl rfl
  have a13 : PySem.W.nsIn K mainGlobals "_law_sign" = some (some (.ref (He.ga K "_law_sign"))) := of_decide_eq_true (S.b 0 13 rfl rfl)
  have q13 : HX.FnIn K (He.ga K "_law_sign") "_law_sign" "_law_sign" Toy.sSign := S.fn 13 rfl rfl
  have a14 : PySem.W.nsIn K mainGlobals "_law_drawn" = some (some (.ref (He.ga K "_law_drawn"))) := of_decide_eq_true (S.b 0 14 rfl rfl)
  have q14 : HX.FnIn K (He.ga K "_law_drawn") "_law_drawn" "_law_drawn" Toy.sDr := S.fn 14 rfl rfl
  have a15 : PySem.W.nsIn K mainGlobals "_law_lines" = some (some (.ref (He.ga K "_law_lines"))) := of_decide_eq_true (S.b 0 15 rfl rfl)
  have q15 : HX.FnIn K (He.ga K "_law_lines") "_law_lines" "_law_lines" Toy.sLs := S.fn 15 rfl rfl
  have a16 : PySem.W.nsIn K mainGlobals "law" = some (some (.ref (He.ga K "law"))) := of_decide_eq_true (S.b 0 16 rfl rfl)
  have q16 : HX.FnIn K (He.ga K "law") "law" "law" Toy.sLaw := S.fn 16 rfl rfl
  have z0 : PySem.W.nsIn K mainGlobals "len" = some none := of_decide_eq_true (S.b 0 17 rfl rfl)
  have z1 : PySem.W.nsIn K mainGlobals "int" = some none := of_decide_eq_true (S.b 0 18 rfl rfl)
  have z2 : PySem.W.nsIn K mainGlobals "abs" = some none := of_decide_eq_true (S.b 0 19 rfl rfl)
  have z3 : PySem.W.nsIn K mainGlobals "range" = some none := of_decide_eq_true (S.b 0 20 rfl rfl)
  have z4 : PySem.W.nsIn K mainGlobals "tuple" = some none := of_decide_eq_true (S.b 0 21 rfl rfl)
  have z5 : PySem.W.nsIn K mainGlobals "list" = some none := of_decide_eq_true (S.b 0 22 rfl rfl)
  have z6 : PySem.W.nsIn K mainGlobals "sorted" = some none := of_decide_eq_true (S.b 0 23 rfl rfl)
  have z7 : PySem.W.nsIn K mainGlobals "set" = some none := of_decide_eq_true (S.b 0 24 rfl rfl)
  have z8 : PySem.W.nsIn K mainGlobals "isinstance" = some none := of_decide_eq_true (S.b 0 25 rfl rfl)
  have z9 : PySem.W.nsIn K mainGlobals "bool" = some none := of_decide_eq_true (S.b 0 26 rfl rfl)
  have z10 : PySem.W.nsIn K mainGlobals "min" = some none := of_decide_eq_true (S.b 0 27 rfl rfl)
  have z11 : PySem.W.nsIn K mainGlobals "max" = some none := of_decide_eq_true (S.b 0 28 rfl rfl)
  have z12 : PySem.W.nsIn K mainGlobals "sum" = some none := of_decide_eq_true (S.b 0 29 rfl rfl)
  have z13 : PySem.W.nsIn K mainGlobals "all" = some none := of_decide_eq_true (S.b 1 0 rfl rfl)
  have z14 : PySem.W.nsIn K mainGlobals "any" = some none := of_decide_eq_true (S.b 1 1 rfl rfl)
  have z15 : PySem.W.nsIn K mainGlobals "str" = some none := of_decide_eq_true (S.b 1 2 rfl rfl)
  have z16 : PySem.W.nsIn K mainGlobals "zip" = some none := of_decide_eq_true (S.b 1 3 rfl rfl)
  have z17 : PySem.W.nsIn K mainGlobals "enumerate" = some none := of_decide_eq_true (S.b 1 4 rfl rfl)
  have zg0 : PySem.W.nsIn K mainGlobals "DIGITS" = some (some (.str "0123456789" (HX.tk K mainGlobals "DIGITS"))) := of_decide_eq_true (S.b 1 5 rfl rfl)
  have zg1 : PySem.W.nsIn K mainGlobals "LONGEST_BODY" = some (some (.int 700 (HX.tk K mainGlobals "LONGEST_BODY"))) := of_decide_eq_true (S.b 1 6 rfl rfl)
  have zg2 : PySem.W.nsIn K mainGlobals "PRIME" = some (some (.int 997 (HX.tk K mainGlobals "PRIME"))) := of_decide_eq_true (S.b 1 7 rfl rfl)
  have zg3 : PySem.W.nsIn K mainGlobals "SIZE_DIGITS" = some (some (.int 3 (HX.tk K mainGlobals "SIZE_DIGITS"))) := of_decide_eq_true (S.b 1 8 rfl rfl)
  have zg4 : PySem.W.nsIn K mainGlobals "NUMBER_DIGITS" = some (some (.int 6 (HX.tk K mainGlobals "NUMBER_DIGITS"))) := of_decide_eq_true (S.b 1 9 rfl rfl)
  have zg5 : PySem.W.nsIn K mainGlobals "END" = some (some (.int 7 (HX.tk K mainGlobals "END"))) := of_decide_eq_true (S.b 1 10 rfl rfl)
  have zord : PySem.W.nsIn K mainGlobals "ord" = some none := of_decide_eq_true (S.b 1 11 rfl rfl)
  have zrep : PySem.W.nsIn K mainGlobals "repr" = some none := of_decide_eq_true (S.b 1 12 rfl rfl)
  obtain ⟨fn, hb, hF⟩ := Toy.all_mk (l := PySem.Challenge.rw_limitweave_k39_whole_records) KX G hmg a0 q0 a1 q1 a2 q2 a3 q3 a4 q4 a5 q5 a6 q6 a7 q7 a8 q8 a9 q9 a10 q10 a11 q11 a12 q12 a13 q13 a14 q14 a15 q15 a16 q16 z0 z1 z2 z3 z4 z5 z6 z7 z8 z9 z10 z11 z12 z13 z14 z15 z16 z17 zg0 zg1 zg2 zg3 zg4 zg5 zord zrep
  exact ⟨K, fn, Toy.spLaw K, KX, hb, fun H a ns hl _ hS => ⟨ns, a, rfl, hl, hS, fun _ => rfl⟩, hF⟩


