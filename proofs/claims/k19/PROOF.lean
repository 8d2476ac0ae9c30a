import PyProof.Rows.All
import Wide.All
import OpenK.AllK
import Wide.FinOn
import HandS.ListItems
import KE.KDictList
import HandS.Replace
import PyProof.MeetsStr3
import PyProof.FitsReplace
import PyProof.StrCalls6
import KE.KTryMore
import HandS.SetFor
import HandS.SortKw
import KE.DatumOrd
import PyProof.WalksMore
import HandS.WordsDict
import HandS.SetKeys
import HandS.StrMore
import HandS.More
import KE.KStateDown
import KE.KSuper
import HandS.Base
import HandS.Call
import HandS.Ends
import HandS.Words
import HandS.Exc
import HandS.Head0
import HandS.Head1
import HandS.Head2
import HandS.HeadEnd
import HandS.HeadHook1
import HandS.HeadHook2
import HandS.HeadHook3
import HandS.ForMost
import HandS.Evl
import HandS.IsInst
import HandS.TupAny
import HandS.SortInts
import HandS.Flow
import HandS.Wide
import HandS.Style
import KE.SortData
import HandS.DictTup
import KE.KDictWalk
import HandS.DictComp
import PyProof.ListRange
import HandS.Conv
import HandS.Iter
import KE.GoesEnumKw
import KE.KxField
import HandS.FStr
import HandS.StrSplit
import HandS.Text
import KE.KExcSuper
import HandS.ExcInit
import HandS.ExcOwn
import HandS.ExcField
import HandS.TryMany
import HandS.WordsExc
import HandS.RaiseMore
import HandS.Small
import HandS.Nested
import HandS.ExcSuper
import HandS.Strs
import HandS.Zip
import PyProof.StrLawsOcc
import PyProof.StrBlock2
import PyProof.StrLawsChain
import HandS.Set
import PyProof.Rows.SortShellAny
import HandS.ExcIs
import HandS.SortOrd
import HandS.Sort
import HandS.SortRule
import HandS.Deep
import HandS.TupLe
import HandS.Property
import HandS.TryOnly
import HandS.ExcCtx
import HandS.Hot
import HandS.HotCalls
import HandS.SuiteRaise
import HandS.RaiseFrom
import HandS.ExcInitHot
import HandS.NestedHot
import PyProof.ReprText
import PyProof.StrLawsRepr
import PyProof.ReprLen
import PyProof.FString2
import PySem.Challenge.RW_limitweave_k19_fullest_rows
set_option Elab.async false
set_option linter.all false
set_option maxRecDepth 100000
set_option maxHeartbeats 3900000
namespace HX
open PySem PySem.Spec PyProof.Rows L2
open PySem.W (Frag)
/-- what an object names -/
def refsX (o : Obj) : List Addr := match o.data with
  | .seq its _ => its.toList.flatMap He.refV
  | .dict es _ => es.toList.flatMap fun e => He.refV e.val
  | .func fd => He.refV fd.code ++ (He.refV fd.defaults ++ fd.closure.map (·.2))
  | .cls cd => [cd.ns]
  | .fields vs => (match decide (o.cls = .type "property") with
    | true => vs.toList.flatMap He.refV
    | false => [])
  | _ => []
def lev (g : Addr → Option Obj) : Nat → List Addr → List Addr
  | 0, as => as
  | n + 1, as => as ++ lev g n (as.flatMap fun a => match g a with
    | some o => refsX o
    | none => [])
def asX (g : Addr → Option Obj) (n : Nat) : List Addr := PySem.cStatics :: lev g n [mainGlobals]
def frX (g : Addr → Option Obj) : List Addr → Frag
  | [] => []
  | a :: r => HandSHeadRun.frNat a fun a => match g a with
    | some o => (a, o) :: frX g r
    | none => frX g r
theorem frX_at {g : Addr → Option Obj} {a : Addr} {o : Obj} : ∀ as : List Addr, (frX g as).lookup a = some o → g a = some o
  | [], e => nomatch (show (none : Option Obj) = some o from e)
  | b :: r, e => by
    rw [frX, HandSHeadRun.frNat_eq] at e
    cases hb : g b with
    | none =>
      rw [hb] at e
      exact frX_at r e
    | some ob =>
      rw [hb] at e
      have e2 : (match a == b with | true => some ob | false => (frX g r).lookup a) = some o := e
      cases q : (a == b) with
      | true =>
        rw [q] at e2
        have eo : ob = o := Option.some.inj e2
        rw [beq_iff_eq.mp q, hb, eo]
      | false =>
        rw [q] at e2
        exact frX_at r e2
theorem frX_in {as : List Addr} {h : Heap} : (frX h.get? as).In h := fun _ _ e => frX_at as e
/-- the object that the name x stands for in the dict at ns -/
def na (K : Frag) (ns : Addr) (x : Str) : Addr := match PySem.W.nsIn K ns x with
  | some (some (.ref a)) => a
  | _ => 0
def tk (K : Frag) (ns : Addr) (x : Str) : Tok := match PySem.W.nsIn K ns x with
  | some (some (.int _ t)) => t
  | some (some (.str _ t)) => t
  | _ => default
def ra (K : Frag) (p : Addr) (T : String) : Addr := match PySem.W.recIn K p T with
  | some (.ref a :: _) => a
  | _ => 0
def rr (K : Frag) (p : Addr) (T : String) : List Value := match PySem.W.recIn K p T with
  | some (_ :: r) => r
  | _ => []
def cdOf (K : Frag) (f : Addr) : Addr := match K.lookup f with
  | some ⟨_, _, .func fd, _⟩ => (match fd.code with
    | .ref c => c
    | _ => 0)
  | _ => 0
def ccOf (K : Frag) (f : Addr) : Addr := match K.lookup f with
  | some ⟨_, _, .func fd, _⟩ => (match fd.closure with
    | [(_, c)] => c
    | _ => 0)
  | _ => 0
abbrev FV : Type := Option (Str × Str × Arguments × FuncBody × Scope × Addr × List Str × Value × Addr)
def fnO (K : Frag) (a : Addr) : FV := match K.lookup a with
  | some ⟨_, _, .func fd, _⟩ => some (fd.name, fd.qualname, fd.params, fd.body, fd.scope, fd.globals, fd.closure.map (·.1), fd.defaults, fd.builtins)
  | _ => none
structure FD where
  at_ : Frag → Addr
  name : Str
  qual : Str
  st : Stmt
  cl : List Str := []
def FD.val (d : FD) : FV := some (d.name, d.qual, defArgs d.st, .stmts (defBody d.st), defScope d.st, mainGlobals, d.cl, .none, builtinsNs)
def codeB (K : Frag) (a : Addr) (q : Str) : Bool := match K.lookup a with
  | some ⟨_, _, .func fd, _⟩ => PySem.W.codeIn K fd.code q && PySem.W.keepIn K (.ref a)
  | _ => false
def FnIn (K : Frag) (f : Addr) (x qual : Str) (st : Stmt) : Prop := ∃ (oc : Value) (od : Option Addr) (kV dc pm : Value) (an : Option Addr) (cd ct : Value) (sl : Array (Option Value)), K.lookup f = some ⟨oc, od, .func (PySem.W.fnOf x qual (defArgs st) (defBody st) (defScope st) .none kV dc pm an cd ct), sl⟩ ∧ PySem.W.codeIn K cd qual = true ∧ PySem.W.keepIn K (.ref f) = true
def FnXIn (K : Frag) (f : Addr) (x qual : Str) (st : Stmt) : Prop := ∃ (oc : Value) (od : Option Addr) (kV dc pm : Value) (an : Option Addr) (ct : Value) (sl : Array (Option Value)), K.lookup f = some ⟨oc, od, .func (PySem.W.fnX x qual (defArgs st) (defBody st) (defScope st) [("__class__", ccOf K f)] .none kV dc pm an (.ref (cdOf K f)) ct), sl⟩ ∧ PySem.W.codeIn K (.ref (cdOf K f)) qual = true ∧ PySem.W.keepIn K (.ref f) = true
theorem fd_cases {K : Frag} {d : FD} (e : fnO K (d.at_ K) = d.val) (c : codeB K (d.at_ K) d.qual = true) :
    ∃ (oc : Value) (od : Option Addr) (fd : FuncData) (sl : Array (Option Value)), K.lookup (d.at_ K) = some ⟨oc, od, .func fd, sl⟩ ∧ fd.closure.map (·.1) = d.cl ∧ (∀ cl, fd.closure = cl → ∃ kV dc pm an ct, fd = PySem.W.fnX d.name d.qual (defArgs d.st) (defBody d.st) (defScope d.st) cl .none kV dc pm an fd.code ct) ∧ PySem.W.codeIn K fd.code d.qual = true ∧ PySem.W.keepIn K (.ref (d.at_ K)) = true := by
  unfold codeB at c
  unfold fnO at e
  cases q : K.lookup (d.at_ K) with
  | none =>
    rw [q] at c
    cases c
  | some o =>
    obtain ⟨oc, od, dt, osl⟩ := o
    rw [q] at c e
    cases dt with
    | func fd =>
      obtain ⟨c1, c2⟩ := Bool.and_eq_true_iff.mp (show (PySem.W.codeIn K fd.code d.qual && PySem.W.keepIn K (.ref (d.at_ K))) = true from c)
      obtain ⟨n1, n2, n3, n4, n5, n6, n7, n8, n9, n10, n11, n12, n13, n14, n15⟩ := fd
      have e2 : (some (n1, n2, n3, n4, n5, n6, n7.map (·.1), n8, n15) : FV) = some (d.name, d.qual, defArgs d.st, .stmts (defBody d.st), defScope d.st, mainGlobals, d.cl, .none, builtinsNs) := e
      simp only [Option.some.injEq, Prod.mk.injEq] at e2
      obtain ⟨h1, h2, h3, h4, h5, h6, h7, h8, h9⟩ := e2
      refine ⟨oc, od, _, osl, rfl, h7, fun cl hc => ⟨n9, n10, n11, n12, n14, ?_⟩, c1, c2⟩
      have hc2 : n7 = cl := hc
      subst h1 h2 h3 h4 h5 h6 h8 h9 hc2
      rfl
    | _ => cases c
theorem fd_in {K : Frag} {d : FD} (hcl : d.cl = []) (e : fnO K (d.at_ K) = d.val) (c : codeB K (d.at_ K) d.qual = true) : FnIn K (d.at_ K) d.name d.qual d.st := by
  obtain ⟨oc, od, fd, sl, h1, h2, h3, h4, h5⟩ := fd_cases e c
  rw [hcl] at h2
  obtain ⟨kV, dc, pm, an, ct, h6⟩ := h3 [] (List.map_eq_nil_iff.mp h2)
  exact ⟨oc, od, kV, dc, pm, an, fd.code, ct, sl, h1.trans (congrArg (fun z => some (⟨oc, od, .func z, sl⟩ : Obj)) h6), h4, h5⟩
theorem codeIn_ref {K : Frag} {cd : Value} {q : Str} (h : PySem.W.codeIn K cd q = true) : ∃ c, cd = .ref c := by
  cases cd with
  | ref c => exact ⟨c, rfl⟩
  | _ => cases h
theorem fd_inX {K : Frag} {d : FD} (hcl : d.cl = [("__class__" : Str)]) (e : fnO K (d.at_ K) = d.val) (c : codeB K (d.at_ K) d.qual = true) : FnXIn K (d.at_ K) d.name d.qual d.st := by
  obtain ⟨oc, od, fd, sl, h1, h2, h3, h4, h5⟩ := fd_cases e c
  rw [hcl] at h2
  obtain ⟨cc, hc⟩ : ∃ cc, fd.closure = [(("__class__" : Str), cc)] := by
    cases q : fd.closure with
    | nil =>
      rw [q] at h2
      cases h2
    | cons p r =>
      rw [q] at h2
      obtain ⟨x, cc⟩ := p
      cases r with
      | nil =>
        have h2' : [x] = [("__class__" : Str)] := h2
        cases h2'
        exact ⟨cc, rfl⟩
      | cons _ _ => cases h2
  obtain ⟨kV, dc, pm, an, ct, h6⟩ := h3 _ hc
  obtain ⟨co, hco⟩ := codeIn_ref h4
  have e1 : ccOf K (d.at_ K) = cc := by
    unfold ccOf
    rw [h1]
    show (match fd.closure with | [(_, c)] => c | _ => 0) = cc
    rw [hc]
  have e2 : cdOf K (d.at_ K) = co := by
    unfold cdOf
    rw [h1]
    show (match fd.code with | .ref c => c | _ => 0) = co
    rw [hco]
  refine ⟨oc, od, kV, dc, pm, an, ct, sl, ?_, ?_, h5⟩
  · rw [e1, e2, ← hco]
    exact h1.trans (congrArg (fun z => some (⟨oc, od, .func z, sl⟩ : Obj)) h6)
  · rw [e2, ← hco]
    exact h4
def exoB (K : Frag) (X : Addr) : Bool := match K.lookup X with
  | some ⟨.type t, _, .cls cd, sl⟩ => decide (t = "type") && ((match cd.mro, sl.toList with
    | .ref C :: bm, [_, _, _, _, some (.builtin n), _] => decide (C = X) && (decide (n = "ValueError.__new__") && PySem.HandSPX.refsVE bm)
    | _, _ => false) && (cd.hasDict && !cd.hasDel))
  | _ => false
theorem exoB_ok {K : Frag} {X : Addr} (h : exoB K X = true) : ∃ (nm q : Str) (N : Addr) (bs bm : List Value) (sn : List Str) (sub : List Value) (ab : Bool) (col : Option Bool) (dd : Option Addr) (k0 k1 k2 k3 k5 : Option Value) (cd : ClassData), K.lookup X = some (excClassObj nm q X N bs bm true sn sub ab col dd k0 k1 k2 k3 k5 "ValueError.__new__") ∧ PySem.HandSPX.refsVE bm = true ∧ PySem.W.clsIn K X = some cd := by
  unfold exoB at h
  cases q : K.lookup X with
  | none =>
    rw [q] at h
    cases h
  | some o =>
    obtain ⟨oc, od, dt, sl⟩ := o
    rw [q] at h
    cases oc with
    | type t =>
      cases dt with
      | cls cd =>
        obtain ⟨h1, h2⟩ := Bool.and_eq_true_iff.mp (show (decide (t = "type") && ((match cd.mro, sl.toList with
          | .ref C :: bm, [_, _, _, _, some (.builtin n), _] => decide (C = X) && (decide (n = "ValueError.__new__") && PySem.HandSPX.refsVE bm)
          | _, _ => false) && (cd.hasDict && !cd.hasDel))) = true from h)
        obtain ⟨h3, h4⟩ := Bool.and_eq_true_iff.mp h2
        obtain ⟨h5, h6⟩ := Bool.and_eq_true_iff.mp h4
        have et : t = "type" := of_decide_eq_true h1
        have cq : PySem.W.clsIn K X = some cd := by
          unfold PySem.W.clsIn
          rw [q]
        obtain ⟨nm, bs, mro, ns, qn, hd, sn, sub, ab, col, del⟩ := cd
        have e5 : hd = true := h5
        have e6 : del = false := by
          have h6' : (!del) = true := h6
          cases del with
          | false => rfl
          | true => cases h6'
        obtain ⟨sl⟩ := sl
        clear h h2 h4 h5 h6
        revert h3
        dsimp only
        split
        · rename_i C bm k0 k1 k2 k3 n k5
          intro h3
          obtain ⟨h7, h8⟩ := Bool.and_eq_true_iff.mp h3
          obtain ⟨h9, h10⟩ := Bool.and_eq_true_iff.mp h8
          have e7 : C = X := of_decide_eq_true h7
          have e9 : n = "ValueError.__new__" := of_decide_eq_true h9
          subst et e5 e6 e7 e9
          exact ⟨nm, qn, ns, bs, bm, sn, sub, ab, col, od, k0, k1, k2, k3, k5, _, rfl, h10, cq⟩
        · intro h3
          cases h3
      | _ => cases h
    | _ => cases dt <;> cases h
def cellB (K : Frag) (c X : Addr) : Bool := match K.lookup c with
  | some ⟨_, _, .cell (some (.ref a)), _⟩ => decide (a = X)
  | _ => false
theorem cellB_ok {K : Frag} {c X : Addr} (h : cellB K c X = true) : ∃ (cl : Value) (cld : Option Addr) (csl : Array (Option Value)), K.lookup c = some ⟨cl, cld, .cell (some (.ref X)), csl⟩ := by
  unfold cellB at h
  split at h
  · rename_i a _ q
    rw [← of_decide_eq_true h]
    exact ⟨_, _, _, q⟩
  · cases h
def fileB (K : Frag) (c : Addr) (file : Str) : Bool := match K.lookup c with
  | some ⟨_, _, .fields vs, _⟩ => (match (vs[2]? : Option Value) with
    | some (.str z _) => file == z
    | _ => false)
  | _ => false
theorem fileB_ok {K : Frag} {c : Addr} {file : Str} (h : fileB K c file = true) : ∃ (cl : Value) (cdd : Option Addr) (vs : Array Value) (ccs : Array (Option Value)) (fl : Str) (tf : Tok), K.lookup c = some ⟨cl, cdd, .fields vs, ccs⟩ ∧ vs[2]? = some (.str fl tf) ∧ (file == fl) = true := by
  unfold fileB at h
  split at h
  · rename_i vs _ q
    split at h
    · rename_i z t q2
      exact ⟨_, _, vs, _, z, t, q, q2, h⟩
    · cases h
  · cases h
abbrev Tab : Type := (Frag → Addr) × List Str
abbrev Al : Type := Bool × List FV × List (Option (List (Option (Str × Int))))
def obsK (bs : List (List (Frag → Bool))) (fs : List FD) (ts : List Tab) (K : Frag) : Al := ((bs.all fun b => b.all fun f => f K) && fs.all fun d => codeB K (d.at_ K) d.qual, fs.map fun d => fnO K (d.at_ K), ts.map fun t => He.dicW K (t.1 K))
def valK (fs : List FD) (ts : List Tab) (w : World) : Al := (true, fs.map FD.val, ts.map fun t => some (He.keysIn w.params t.2))
def obsG (n : Nat) (bs : List (List (Frag → Bool))) (fs : List FD) (ts : List Tab) (g : Addr → Option Obj) : Al := obsK bs fs ts (frX g (asX g n))
def Says (bs : List (List (Frag → Bool))) (fs : List FD) (ts : List Tab) (w : World) (K : Frag) : Prop := obsK bs fs ts K = valK fs ts w
def hook (n : Nat) (bs : List (List (Frag → Bool))) (fs : List FD) (ts : List Tab) : PySem.W.Hook where
  α := Al
  obs := fun s => obsG n bs fs ts s.heap.get?
  val := fun w => valK fs ts w
  says := fun w h => ∃ K : Frag, K.In h ∧ Says bs fs ts w K
  of := fun _ _ e => ⟨_, frX_in, e⟩
  keeps := fun _ _ _ ⟨K, hK, c⟩ k => ⟨K, PySem.W.Frag.In.keeps hK k, c⟩
theorem obsG_eq {n : Nat} {bs : List (List (Frag → Bool))} {fs : List FD} {ts : List Tab} {g : Addr → Option Obj} {s : Shared} (h : ∀ a, g a = s.heap.get? a) : obsG n bs fs ts g = (hook n bs fs ts).obs s := by
  have e : g = s.heap.get? := funext h
  rw [e] <;> rfl
section
variable {bs : List (List (Frag → Bool))} {fs : List FD} {ts : List Tab} {w : World} {K : Frag}
theorem Says.both (c : Says bs fs ts w K) : (bs.all fun b => b.all fun f => f K) = true ∧ (fs.all fun d => codeB K (d.at_ K) d.qual) = true :=
  Bool.and_eq_true_iff.mp (show ((bs.all fun b => b.all fun f => f K) && fs.all fun d => codeB K (d.at_ K) d.qual) = true from congrArg (fun z : Al => z.1) c)
theorem Says.b (c : Says bs fs ts w K) (i j : Nat) {b : List (Frag → Bool)} {f : Frag → Bool} (h : bs[i]? = some b) (h2 : b[j]? = some f) : f K = true :=
  List.all_eq_true.mp (List.all_eq_true.mp c.both.1 b (List.mem_of_getElem? h)) f (List.mem_of_getElem? h2)
theorem Says.fd (c : Says bs fs ts w K) (i : Nat) {d : FD} (h : fs[i]? = some d) : fnO K (d.at_ K) = d.val ∧ codeB K (d.at_ K) d.qual = true := by
  have e : fs.map (fun d => fnO K (d.at_ K)) = fs.map FD.val := congrArg (fun z : Al => z.2.1) c
  have e2 : (fs.map fun d => fnO K (d.at_ K))[i]? = (fs.map FD.val)[i]? := by rw [e]
  rw [List.getElem?_map, List.getElem?_map, h] at e2
  exact ⟨Option.some.inj e2, List.all_eq_true.mp c.both.2 d (List.mem_of_getElem? h)⟩
theorem Says.fn (c : Says bs fs ts w K) (i : Nat) {d : FD} (h : fs[i]? = some d) (hcl : d.cl = []) : FnIn K (d.at_ K) d.name d.qual d.st := fd_in hcl (c.fd i h).1 (c.fd i h).2
theorem Says.fnX (c : Says bs fs ts w K) (i : Nat) {d : FD} (h : fs[i]? = some d) (hcl : d.cl = [("__class__" : Str)]) : FnXIn K (d.at_ K) d.name d.qual d.st := fd_inX hcl (c.fd i h).1 (c.fd i h).2
end
end HX

namespace Toy
open PySem PyProof.Rows L2
def top (i : Nat) : Stmt := PySem.Challenge.pw_limitweave_k19_fullest_rows.main.body.getD i (.Pass ⟨0, 0, 0, 0⟩)
/-- a tuple of two texts -/
def tupS2B (K : PySem.W.Frag) (a : Addr) (x y : Str) : Bool := match K.lookup a with
  | some ⟨.type c, _, .seq its _, _⟩ => decide (c = "tuple") && (match its.toList with
    | [.str u _, .str v _] => decide (u = x) && decide (v = y)
    | _ => false)
  | _ => false
theorem tupS2 {K : PySem.W.Frag} {a : Addr} {x y : Str} (h : tupS2B K a x y = true) : ∃ (te : Option Addr) (tb tc : Tok) (tm : Nat) (tl : Array (Option Value)), K.lookup a = some ⟨.type "tuple", te, .seq #[.str x tb, .str y tc] tm, tl⟩ := by
  unfold tupS2B at h
  split at h
  · rename_i c te its tm tl q
    obtain ⟨h1, h2⟩ := Bool.and_eq_true_iff.mp h
    have e1 : c = "tuple" := of_decide_eq_true h1
    subst e1
    split at h2
    · rename_i u t v t' e
      obtain ⟨h3, h4⟩ := Bool.and_eq_true_iff.mp h2
      have e3 := of_decide_eq_true h3
      have e4 := of_decide_eq_true h4
      subst e3 e4
      have ei : its = #[.str u t, .str v t'] := by
        obtain ⟨l⟩ := its
        exact congrArg Array.mk e
      subst ei
      exact ⟨te, t, t', tm, tl, q⟩
    · cases h2
  · cases h
end Toy

namespace Hd
open PySem PyProof.Rows L2
def bk0 : List (PySem.W.Frag → Bool) := [
  fun K => decide (PySem.W.nsIn K mainGlobals "is_name" = some (some (.ref (He.ga K "is_name")))),
  fun K => decide (PySem.W.nsIn K mainGlobals "is_key" = some (some (.ref (He.ga K "is_key")))),
  fun K => decide (PySem.W.nsIn K mainGlobals "is_within" = some (some (.ref (He.ga K "is_within")))),
  fun K => decide (PySem.W.nsIn K mainGlobals "is_moment" = some (some (.ref (He.ga K "is_moment")))),
  fun K => decide (PySem.W.nsIn K mainGlobals "is_request" = some (some (.ref (He.ga K "is_request")))),
  fun K => decide (PySem.W.nsIn K mainGlobals "is_entry" = some (some (.ref (He.ga K "is_entry")))),
  fun K => decide (PySem.W.nsIn K mainGlobals "goes_on" = some (some (.ref (He.ga K "goes_on")))),
  fun K => decide (PySem.W.nsIn K mainGlobals "check_entries" = some (some (.ref (He.ga K "check_entries")))),
  fun K => decide (PySem.W.nsIn K mainGlobals "parts_of" = some (some (.ref (He.ga K "parts_of")))),
  fun K => decide (PySem.W.nsIn K mainGlobals "spans_touched" = some (some (.ref (He.ga K "spans_touched")))),
  fun K => decide (PySem.W.nsIn K mainGlobals "can_hold" = some (some (.ref (He.ga K "can_hold")))),
  fun K => decide (PySem.W.nsIn K mainGlobals "most_within" = some (some (.ref (He.ga K "most_within")))),
  fun K => decide (PySem.W.nsIn K mainGlobals "fullest_sums" = some (some (.ref (He.ga K "fullest_sums")))),
  fun K => decide (PySem.W.nsIn K mainGlobals "split_cost" = some (some (.ref (He.ga K "split_cost")))),
  fun K => decide (PySem.W.nsIn K mainGlobals "fullest_row" = some (some (.ref (He.ga K "fullest_row")))),
  fun K => decide (PySem.W.nsIn K mainGlobals "_law_row" = some (some (.ref (He.ga K "_law_row")))),
  fun K => decide (PySem.W.nsIn K mainGlobals "_law_numbers" = some (some (.ref (He.ga K "_law_numbers")))),
  fun K => decide (PySem.W.nsIn K mainGlobals "_law_groups" = some (some (.ref (He.ga K "_law_groups")))),
  fun K => decide (PySem.W.nsIn K mainGlobals "_law_pool" = some (some (.ref (He.ga K "_law_pool")))),
  fun K => decide (PySem.W.nsIn K mainGlobals "_law_limit" = some (some (.ref (He.ga K "_law_limit")))),
  fun K => decide (PySem.W.nsIn K mainGlobals "_law_sees" = some (some (.ref (He.ga K "_law_sees")))),
  fun K => decide (PySem.W.nsIn K mainGlobals "_law_larger" = some (some (.ref (He.ga K "_law_larger")))),
  fun K => decide (PySem.W.nsIn K mainGlobals "_law_made" = some (some (.ref (He.ga K "_law_made")))),
  fun K => decide (PySem.W.nsIn K mainGlobals "_law_is_row" = some (some (.ref (He.ga K "_law_is_row")))),
  fun K => decide (PySem.W.nsIn K mainGlobals "_law_keeps" = some (some (.ref (He.ga K "_law_keeps")))),
  fun K => decide (PySem.W.nsIn K mainGlobals "_law_right" = some (some (.ref (He.ga K "_law_right")))),
  fun K => decide (PySem.W.nsIn K mainGlobals "law" = some (some (.ref (He.ga K "law")))),
  fun K => decide (PySem.W.nsIn K mainGlobals "len" = some none),
  fun K => decide (PySem.W.nsIn K mainGlobals "int" = some none),
  fun K => decide (PySem.W.nsIn K mainGlobals "abs" = some none)]
def bk1 : List (PySem.W.Frag → Bool) := [
  fun K => decide (PySem.W.nsIn K mainGlobals "range" = some none),
  fun K => decide (PySem.W.nsIn K mainGlobals "tuple" = some none),
  fun K => decide (PySem.W.nsIn K mainGlobals "list" = some none),
  fun K => decide (PySem.W.nsIn K mainGlobals "sorted" = some none),
  fun K => decide (PySem.W.nsIn K mainGlobals "set" = some none),
  fun K => decide (PySem.W.nsIn K mainGlobals "isinstance" = some none),
  fun K => decide (PySem.W.nsIn K mainGlobals "bool" = some none),
  fun K => decide (PySem.W.nsIn K mainGlobals "min" = some none),
  fun K => decide (PySem.W.nsIn K mainGlobals "max" = some none),
  fun K => decide (PySem.W.nsIn K mainGlobals "sum" = some none),
  fun K => decide (PySem.W.nsIn K mainGlobals "all" = some none),
  fun K => decide (PySem.W.nsIn K mainGlobals "any" = some none),
  fun K => decide (PySem.W.nsIn K mainGlobals "str" = some none),
  fun K => decide (PySem.W.nsIn K mainGlobals "zip" = some none),
  fun K => decide (PySem.W.nsIn K mainGlobals "enumerate" = some none),
  fun K => decide (PySem.W.nsIn K mainGlobals "NAME_SIGNS" = some (some (.str "abcdefghijklmnopqrstuvwxyz0123456789" (HX.tk K mainGlobals "NAME_SIGNS")))),
  fun K => decide (PySem.W.nsIn K mainGlobals "KEY_SIGNS" = some (some (.str "abcdefghijklmnopqrstuvwxyz0123456789-" (HX.tk K mainGlobals "KEY_SIGNS")))),
  fun K => decide (PySem.W.nsIn K mainGlobals "GREATEST_MOMENT" = some (some (.int 1000000000 (HX.tk K mainGlobals "GREATEST_MOMENT")))),
  fun K => decide (PySem.W.nsIn K mainGlobals "GREATEST_COST" = some (some (.int 1000 (HX.tk K mainGlobals "GREATEST_COST")))),
  fun K => decide (PySem.W.nsIn K mainGlobals "MOST_ROW_COST" = some (some (.int 10000 (HX.tk K mainGlobals "MOST_ROW_COST")))),
  fun K => decide (PySem.W.nsIn K mainGlobals "A_GROUP" = some (some (.str "any" (HX.tk K mainGlobals "A_GROUP")))),
  fun K => decide (PySem.W.nsIn K mainGlobals "HOLDING" = some (some (.ref (He.ga K "HOLDING")))),
  fun K => Toy.tupS2B K (He.ga K "HOLDING") "held" "pool",
  fun K => decide (PySem.W.nsIn K mainGlobals "divmod" = some none),
  fun K => decide (PySem.W.nsIn K mainGlobals "InvalidEntry" = some (some (.ref (He.ga K "InvalidEntry")))),
  fun K => decide (PySem.W.subIn K (.ref (He.ga K "InvalidEntry")) (.type "BaseException") = some true),
  fun K => decide (PySem.W.typeIn K (.ref (He.ga K "InvalidEntry")) = some (.type "type")),
  fun K => decide (PySem.W.keepIn K (.ref (He.ga K "InvalidEntry")) = true),
  fun K => HX.exoB K (He.ga K "InvalidEntry"),
  fun K => decide (PySem.W.findIn K (.ref (He.ga K "InvalidEntry")) "__setattr__" = some (some (.builtin "object.__setattr__")))]
def bk2 : List (PySem.W.Frag → Bool) := [
  fun K => decide (PySem.W.findIn K (.ref (He.ga K "InvalidEntry")) "__init__" = some (some (.ref (He.ma K (He.ga K "InvalidEntry") "__init__")))),
  fun K => decide (PySem.W.typeIn K (.ref (He.ma K (He.ga K "InvalidEntry") "__init__")) = some (.type "function")),
  fun K => HX.cellB K (HX.ccOf K (He.ma K (He.ga K "InvalidEntry") "__init__")) (He.ga K "InvalidEntry"),
  fun K => HX.fileB K (HX.cdOf K (He.ma K (He.ga K "InvalidEntry") "__init__")) ((PySem.Challenge.rw_limitweave_k19_fullest_rows).prog.main.file),
  fun K => decide (PySem.W.mroIn K (He.ga K "InvalidEntry") (.ref (He.ga K "InvalidEntry")) = some true),
  fun K => decide (PySem.W.ks_superIn K (He.ga K "InvalidEntry") (He.ga K "InvalidEntry") "__init__" = some (some (.builtin "ValueError.__init__"))),
  fun K => decide (PySem.W.subIn K (.ref (He.ga K "InvalidEntry")) (.type "ValueError") = some true),
  fun K => decide (PySem.W.findIn K (.ref (He.ga K "InvalidEntry")) "number" = some none),
  fun K => decide (PySem.W.findIn K (.ref (He.ga K "InvalidEntry")) "__getattribute__" = some (some (.builtin "BaseException.__getattribute__"))),
  fun K => decide (PySem.W.findIn K (.ref (He.ga K "InvalidEntry")) "__getattr__" = some none),
  fun K => decide (PySem.W.hasDictIn K (He.ga K "InvalidEntry") = true),
  fun K => decide (PySem.W.nsIn K mainGlobals "TooLarge" = some (some (.ref (He.ga K "TooLarge")))),
  fun K => decide (PySem.W.subIn K (.ref (He.ga K "TooLarge")) (.type "BaseException") = some true),
  fun K => decide (PySem.W.typeIn K (.ref (He.ga K "TooLarge")) = some (.type "type")),
  fun K => decide (PySem.W.keepIn K (.ref (He.ga K "TooLarge")) = true),
  fun K => decide (PySem.W.excIn K (He.ga K "TooLarge") [.type "ValueError", .type "Exception", .type "BaseException", .type "object"] "ValueError.__new__" = true),
  fun K => decide (PySem.W.exmOne K (.ref (He.ga K "TooLarge")) (.ref (He.ga K "TooLarge")) = some true),
  fun K => decide (PySem.W.nsIn K mainGlobals "super" = some none),
  fun K => decide (PySem.W.nsIn K cStatics "thirdparty.any" = some none),
  fun K => decide (PySem.W.specialIn K (.builtin "object.__class__") "__get__" = some (some (.builtin "getset_descriptor.__get__"))),
  fun K => decide (PySem.W.takesIn K (.builtin "object.__class__") = some true),
  fun K => decide (PySem.W.nsIn K mainGlobals "LimitError" = some (some (.ref (He.ga K "LimitError")))),
  fun K => decide (PySem.W.findIn K (.ref (He.ga K "TooLarge")) "__getattribute__" = some (some (.builtin "BaseException.__getattribute__"))),
  fun K => decide (PySem.W.findIn K (.ref (He.ga K "TooLarge")) "__getattr__" = some none),
  fun K => decide (PySem.W.hasDictIn K (He.ga K "TooLarge") = true),
  fun K => decide (PySem.W.findIn K (.ref (He.ga K "TooLarge")) "__class__" = some (some (.builtin "object.__class__"))),
  fun K => decide (PySem.W.mroIn K (He.ga K "TooLarge") (.type "object") = some true),
  fun K => decide (PySem.W.kitOne K (.ref (He.ga K "TooLarge")) (.ref (He.ga K "LimitError")) = some true)]
def bss : List (List (PySem.W.Frag → Bool)) := [bk0, bk1, bk2]
def fk0 : List HX.FD := [
  ⟨fun K => (He.ga K "is_name"), "is_name", "is_name", Toy.top 10, []⟩,
  ⟨fun K => (He.ga K "is_key"), "is_key", "is_key", Toy.top 11, []⟩,
  ⟨fun K => (He.ga K "is_within"), "is_within", "is_within", Toy.top 12, []⟩,
  ⟨fun K => (He.ga K "is_moment"), "is_moment", "is_moment", Toy.top 13, []⟩,
  ⟨fun K => (He.ga K "is_request"), "is_request", "is_request", Toy.top 14, []⟩,
  ⟨fun K => (He.ga K "is_entry"), "is_entry", "is_entry", Toy.top 15, []⟩,
  ⟨fun K => (He.ga K "goes_on"), "goes_on", "goes_on", Toy.top 16, []⟩,
  ⟨fun K => (He.ga K "check_entries"), "check_entries", "check_entries", Toy.top 17, []⟩,
  ⟨fun K => (He.ga K "parts_of"), "parts_of", "parts_of", Toy.top 21, []⟩,
  ⟨fun K => (He.ga K "spans_touched"), "spans_touched", "spans_touched", Toy.top 22, []⟩,
  ⟨fun K => (He.ga K "can_hold"), "can_hold", "can_hold", Toy.top 23, []⟩,
  ⟨fun K => (He.ga K "most_within"), "most_within", "most_within", Toy.top 24, []⟩,
  ⟨fun K => (He.ga K "fullest_sums"), "fullest_sums", "fullest_sums", Toy.top 25, []⟩,
  ⟨fun K => (He.ga K "split_cost"), "split_cost", "split_cost", Toy.top 26, []⟩,
  ⟨fun K => (He.ga K "fullest_row"), "fullest_row", "fullest_row", Toy.top 27, []⟩,
  ⟨fun K => (He.ga K "_law_row"), "_law_row", "_law_row", Toy.top 29, []⟩,
  ⟨fun K => (He.ga K "_law_numbers"), "_law_numbers", "_law_numbers", Toy.top 30, []⟩,
  ⟨fun K => (He.ga K "_law_groups"), "_law_groups", "_law_groups", Toy.top 31, []⟩,
  ⟨fun K => (He.ga K "_law_pool"), "_law_pool", "_law_pool", Toy.top 32, []⟩,
  ⟨fun K => (He.ga K "_law_limit"), "_law_limit", "_law_limit", Toy.top 33, []⟩,
  ⟨fun K => (He.ga K "_law_sees"), "_law_sees", "_law_sees", Toy.top 34, []⟩,
  ⟨fun K => (He.ga K "_law_larger"), "_law_larger", "_law_larger", Toy.top 35, []⟩,
  ⟨fun K => (He.ga K "_law_made"), "_law_made", "_law_made", Toy.top 36, []⟩,
  ⟨fun K => (He.ga K "_law_is_row"), "_law_is_row", "_law_is_row", Toy.top 37, []⟩,
  ⟨fun K => (He.ga K "_law_keeps"), "_law_keeps", "_law_keeps", Toy.top 38, []⟩,
  ⟨fun K => (He.ga K "_law_right"), "_law_right", "_law_right", Toy.top 39, []⟩,
  ⟨fun K => (He.ga K "law"), "law", "law", Toy.top 40, []⟩,
  ⟨fun K => (He.ma K (He.ga K "InvalidEntry") "__init__"), "__init__", "InvalidEntry.__init__", inClass (Toy.top 3) 0, [("__class__" : Str)]⟩]
def fds : List HX.FD := fk0
def tbs : List HX.Tab := []
def nm0 : List PySem.Str := [
  "LimitError",
  "TooLarge",
  "InvalidEntry",
  "NAME_SIGNS",
  "KEY_SIGNS",
  "GREATEST_MOMENT",
  "GREATEST_COST",
  "HOLDING",
  "is_name",
  "is_key",
  "is_within",
  "is_moment",
  "is_request",
  "is_entry",
  "goes_on",
  "check_entries",
  "MOST_ROW_COST",
  "A_GROUP",
  "parts_of",
  "spans_touched",
  "can_hold",
  "most_within",
  "fullest_sums",
  "split_cost",
  "fullest_row",
  "_law_row",
  "_law_numbers",
  "_law_groups",
  "_law_pool",
  "_law_limit"]
def nm1 : List PySem.Str := [
  "_law_sees",
  "_law_larger",
  "_law_made",
  "_law_is_row",
  "_law_keeps",
  "_law_right"]
def names : List PySem.Str := nm0 ++ (nm1)
abbrev R : PySem.W.OpenRow := PySem.W.OpenLaw.row PySem.Challenge.rw_limitweave_k19_fullest_rows
abbrev qv : Program := PySem.W.view R.prog [40]
abbrev hk : PySem.W.Hook := HX.hook 5 bss fds tbs
def ob (s : PySem.W.SharedT) : HX.Al := HX.obsG 5 bss fds tbs (HandSHeadRun.getT s)
theorem ob_eq (s : PySem.W.SharedT) : ob s = hk.obs s.abs := HX.obsG_eq (HandSHeadRun.getT_eq s)
theorem runF (w : World) : HandSHeadRun.RunEq R qv hk ob 60000 names (w.withFollow "special-get-raises" false) := by
  intro os
  kernel_rfl
theorem runT (w : World) : HandSHeadRun.RunEq R qv hk ob 60000 names (w.withFollow "special-get-raises" true) := by
  intro os
  kernel_rfl
theorem run (w : World) : HandSHeadRun.RunEq R qv hk ob 60000 names w :=
  PySem.W.byRow2 "special-get-raises" (P := fun w => HandSHeadRun.RunEq R qv hk ob 60000 names w) runF runT w
end Hd
open PySem.W PyProof.Rows PySem in
theorem Hd.head (call : PySem.W.WalkO Hd.qv Hd.names (PySem.W.XL Hd.qv []) Hd.hk.says Hd.R.toRowW (HandSHeadRun.topDef Hd.R.prog 40) [] (fun f vs => PySem.call f vs)) : PySem.Challenge.rw_limitweave_k19_fullest_rows.Holds := by
  w_on; o_law
  refine HandSHeadRun.head_any (r := Hd.R) (q := Hd.qv) (H := Hd.hk) (ob := Hd.ob) (M := 60000) (loose := Hd.names) (d := HandSHeadRun.topDef Hd.R.prog 40) (kwd := []) Hd.ob_eq (by kernel_rfl) (fun s => by kernel_rfl) Hd.run (by kernel_rfl) (by kernel_rfl) (by kernel_rfl) (by rfl) (by first | assumption | decide +kernel) (by decide +kernel) ⟨rfl, rfl, rfl, rfl, rfl, by decide +kernel⟩ ?hw call
  w_witness2

namespace Pf
open PySem L2
open Evl (Ex)

inductive D where
  | non | bl (b : Bool) | int (i : Int) | str (x : Str)
  | lst (xs : List D) | tup (xs : List D) | dct (kvs : List (Key × D)) | ins (C : Addr) (fs : List (Str × D))
  /-- a list of ints that is read only (the script) -/
  | scr (ns : List Int)
  /-- a built-in class -/
  | ty (n : String)
  /-- an error that a handler has caught: where its attributes stand, and they -/
  | exc (a : Addr) (o : Option Addr) (fs : List (Str × D))
  /-- a tuple that is known to have no dict -/
  | ftup (xs : List D)

mutual
/-- v stands for d in H -/
inductive Rep (K : PySem.W.Frag) (H : Hp) : D → V → Prop
  | non : Rep K H .non .non
  | bl (b : Bool) : Rep K H (.bl b) (.bl b)
  | int (i : Int) : Rep K H (.int i) (.int i)
  | str (x : Str) : Rep K H (.str x) (.str x)
  | ty (n : String) : Rep K H (.ty n) (.ty n)
  | exc {a : Addr} {o : Option Addr} {fs : List (Str × V)} {fds : List (Str × D)} : (∀ dd, o = some dd → H dd = some (.xd fs)) → fs.map (·.1) = fds.map (·.1) → RepAll K H (fds.map (·.2)) (fs.map (·.2)) → Rep K H (.exc a o fds) (.ref a)
  | scr {a : Addr} {ns : List Int} : SqL K H a (ns.map V.int) → Rep K H (.scr ns) (.ref a)
  | lst {a : Addr} {vs : List V} {ds : List D} : H a = some (.lst vs) → RepAll K H ds vs → Rep K H (.lst ds) (.ref a)
  | tup {a : Addr} {vs : List V} {ds : List D} : SqT K H a vs → RepAll K H ds vs → Rep K H (.tup ds) (.ref a)
  | dct {a : Addr} {kvs : List (Key × V)} {kds : List (Key × D)} : H a = some (.dK kvs) → kvs.map (·.1) = kds.map (·.1) → RepAll K H (kds.map (·.2)) (kvs.map (·.2)) → Rep K H (.dct kds) (.ref a)
  | ins {a C dx : Addr} {fs : List (Str × V)} {fds : List (Str × D)} : H a = some (.ins C dx fs) → fs.map (·.1) = fds.map (·.1) → RepAll K H (fds.map (·.2)) (fs.map (·.2)) → Rep K H (.ins C fds) (.ref a)
  | ftup {a : Addr} {o : Obj} {vs : List V} {ds : List D} : H a = some (.frz o (.tup vs)) → o.dict = none → o.cls = .type "tuple" → RepAll K H ds vs → Rep K H (.ftup ds) (.ref a)
inductive RepAll (K : PySem.W.Frag) (H : Hp) : List D → List V → Prop
  | nil : RepAll K H [] []
  | cons {d : D} {v : V} {ds : List D} {vs : List V} : Rep K H d v → RepAll K H ds vs → RepAll K H (d :: ds) (v :: vs)
end

section
variable {K : PySem.W.Frag} {H H' : Hp}
theorem Rep.mono (e : Ex H H') {d : D} {v : V} (h : Rep K H d v) : Rep K H' d v := by
  refine Rep.rec (motive_1 := fun d v _ => Rep K H' d v) (motive_2 := fun ds vs _ => RepAll K H' ds vs) ?_ ?_ ?_ ?_ ?_ ?_ ?_ ?_ ?_ ?_ ?_ ?_ ?_ ?_ h
  · exact .non
  · exact fun b => .bl b
  · exact fun b => .int b
  · exact fun b => .str b
  · exact fun b => .ty b
  · exact fun h k _ ih => .exc (fun dd q => e _ _ (h dd q)) k ih
  · exact fun h => .scr (Evl.ex_l e h)
  · exact fun h _ ih => .lst (e _ _ h) ih
  · exact fun h _ ih => .tup (Evl.ex_t e h) ih
  · exact fun h k _ ih => .dct (e _ _ h) k ih
  · exact fun h k _ ih => .ins (e _ _ h) k ih
  · exact fun h k1 k2 _ ih => .ftup (e _ _ h) k1 k2 ih
  · exact .nil
  · exact fun _ _ a b => .cons a b
theorem RepAll.mono (e : Ex H H') : ∀ {ds : List D} {vs : List V}, RepAll K H ds vs → RepAll K H' ds vs
  | _, _, .nil => .nil
  | _, _, .cons a b => .cons (a.mono e) (RepAll.mono e b)
theorem RepAll.length : ∀ {ds : List D} {vs : List V}, RepAll K H ds vs → ds.length = vs.length
  | _, _, .nil => rfl
  | _, _, .cons _ b => congrArg (· + 1) (RepAll.length b)
theorem RepAll.get : ∀ {ds : List D} {vs : List V} {i : Nat} {d : D}, RepAll K H ds vs → ds[i]? = some d → ∃ v, vs[i]? = some v ∧ Rep K H d v
  | _, _, _, _, .nil, e => by simp at e
  | _, _, 0, _, .cons r _, e => by simp at e; subst e; exact ⟨_, rfl, r⟩
  | _, _, i + 1, d, .cons _ t, e => by
    obtain ⟨u, h1, h2⟩ := RepAll.get (i := i) (d := d) t (by simpa using e)
    exact ⟨u, by simpa using h1, h2⟩
theorem RepAll.append : ∀ {ds es : List D} {vs us : List V}, RepAll K H ds vs → RepAll K H es us → RepAll K H (ds ++ es) (vs ++ us)
  | _, _, _, _, .nil, s => s
  | _, _, _, _, .cons r t, s => .cons r (RepAll.append t s)
theorem RepAll.take : ∀ {ds : List D} {vs : List V} (n : Nat), RepAll K H ds vs → RepAll K H (ds.take n) (vs.take n)
  | _, _, 0, _ => .nil
  | _, _, _ + 1, .nil => .nil
  | _, _, n + 1, .cons r t => .cons r (RepAll.take n t)
theorem RepAll.drop : ∀ {ds : List D} {vs : List V} (n : Nat), RepAll K H ds vs → RepAll K H (ds.drop n) (vs.drop n)
  | _, _, 0, r => r
  | _, _, _ + 1, .nil => .nil
  | _, _, n + 1, .cons r t => RepAll.drop n t
theorem RepAll.reverse {ds : List D} {vs : List V} (h : RepAll K H ds vs) : RepAll K H ds.reverse vs.reverse := by
  induction ds generalizing vs with
  | nil => cases h; exact .nil
  | cons d ds ih =>
    cases h with
    | cons r t =>
      rw [List.reverse_cons, List.reverse_cons]
      exact (ih t).append (.cons r .nil)
theorem RepAll.ints : ∀ {ns : List Int} {vs : List V}, RepAll K H (ns.map D.int) vs → vs = ns.map V.int
  | [], _, .nil => rfl
  | n :: ns, _, .cons r t => by cases r; rw [RepAll.ints t]; rfl
theorem RepAll.toInts : ∀ (ns : List Int), RepAll K H (ns.map D.int) (ns.map V.int)
  | [] => .nil
  | n :: ns => .cons (.int n) (RepAll.toInts ns)
theorem RepAll.bools : ∀ {ns : List Bool} {vs : List V}, RepAll K H (ns.map D.bl) vs → vs = ns.map V.bl
  | [], _, .nil => rfl
  | n :: ns, _, .cons r t => by cases r; rw [RepAll.bools t]; rfl
end

def Fr (W W' H : Hp) : Prop := ∀ b, W' b ≠ none → W b = none → H b = none
structure Step (W H W' H' : Hp) : Prop where
  ww : Ex W W'
  wh : Ex W' H'
  hh : Ex H H'
  fr : Fr W W' H
theorem Step.refl {W H : Hp} (e : Ex W H) : Step W H W H := ⟨.refl _, e, .refl _, fun b h1 h2 => absurd h2 h1⟩
theorem Step.trans {W H W1 H1 W2 H2 : Hp} (a : Step W H W1 H1) (b : Step W1 H1 W2 H2) : Step W H W2 H2 :=
  ⟨a.ww.trans b.ww, b.wh, a.hh.trans b.hh, fun c h1 h2 => by
    by_cases e : W1 c = none
    · exact Evl.fresh_back a.hh (b.fr c h1 e)
    · exact a.fr c e h2⟩
theorem Step.new {W H : Hp} {p : Addr} {o : HO} (e : Ex W H) (hp : H p = none) : Step W H (upd W p o) (upd H p o) :=
  ⟨.new (Evl.fresh_back e hp), fun a u h => by
    by_cases ha : a = p
    · subst ha; rw [upd_same] at h ⊢; exact h
    · rw [upd_ne ha] at h ⊢; exact e a u h, .new hp, fun b h1 h2 => by
    by_cases ha : b = p
    · subst ha; exact hp
    · rw [upd_ne ha] at h1; exact absurd h2 h1⟩
/-- new in H alone -/
theorem Step.newH {W H : Hp} {p : Addr} {o : HO} (e : Ex W H) (hp : H p = none) : Step W H W (upd H p o) :=
  ⟨.refl _, e.trans (.new hp), .new hp, fun b h1 h2 => absurd h2 h1⟩

def GoodE (K : PySem.W.Frag) (W H : Hp) (d : D) (Q : VK) : Prop := ∀ v W' H', Step W H W' H' → Rep K W' d v → Q v H'
def GoodA (K : PySem.W.Frag) (W H : Hp) (ds : List D) (Q : List V → Hp → Prop) : Prop := ∀ vs W' H', Step W H W' H' → RepAll K W' ds vs → Q vs H'
def GoodT (W H : Hp) (b : Bool) (Q : Bool → Hp → Prop) : Prop := ∀ W' H', Step W H W' H' → Q b H'
theorem GoodE.step {K : PySem.W.Frag} {W H W1 H1 : Hp} {d : D} {Q : VK} (g : GoodE K W H d Q) (s : Step W H W1 H1) : GoodE K W1 H1 d Q := fun v W' H' t r => g v W' H' (s.trans t) r
theorem GoodE.now {K : PySem.W.Frag} {W H : Hp} {d : D} {v : V} {Q : VK} (g : GoodE K W H d Q) (e : Ex W H) (r : Rep K W d v) : Q v H := g v W H (.refl e) r
theorem GoodT.step {W H W1 H1 : Hp} {b : Bool} {Q : Bool → Hp → Prop} (g : GoodT W H b Q) (s : Step W H W1 H1) : GoodT W1 H1 b Q := fun W' H' t => g W' H' (s.trans t)
theorem GoodT.now {W H : Hp} {b : Bool} {Q : Bool → Hp → Prop} (g : GoodT W H b Q) (e : Ex W H) : Q b H := g W H (.refl e)
theorem GoodA.step {K : PySem.W.Frag} {W H W1 H1 : Hp} {d : List D} {Q : List V → Hp → Prop} (g : GoodA K W H d Q) (s : Step W H W1 H1) : GoodA K W1 H1 d Q := fun v W' H' t r => g v W' H' (s.trans t) r

abbrev Rho := List (Option D)
structure Vis (K : PySem.W.Frag) (ρ : Rho) (W : Hp) (σ : L2.St) : Prop where
  len : ρ.length = σ.length
  at_ : ∀ (i : Nat) (d : D), ρ[i]? = some (some d) → ∃ v, σ[i]? = some (some v) ∧ Rep K W d v
theorem Vis.mono {K : PySem.W.Frag} {ρ : Rho} {W W' : Hp} {σ : L2.St} (h : Vis K ρ W σ) (e : Ex W W') : Vis K ρ W' σ := ⟨h.len, fun i d q => by
  obtain ⟨v, h1, h2⟩ := h.at_ i d q
  exact ⟨v, h1, h2.mono e⟩⟩

def wE (X : Cx) (e : Expr) : TE := fun σ H Q => ∀ (pins : List (Addr × Obj)) (s : Shared), Inv X pins σ H s → wpAny (model X.prog X.w) X.A (eval e X.env) (EP X pins σ Q) X.xe s
def wT (X : Cx) (e : Expr) : TT := fun σ H Q => ∀ (pins : List (Addr × Obj)) (s : Shared), Inv X pins σ H s → wpAny (model X.prog X.w) X.A (isTrue e X.env (eval e X.env)) (TP X pins σ Q) X.xe s
def wW (X : Cx) (e : Expr) : TT := fun σ H Q => ∀ (whole : Sem Value) (pins : List (Addr × Obj)) (s : Shared), Inv X pins σ H s → wpAny (model X.prog X.w) X.A (isTrue e X.env whole) (TP X pins σ Q) X.xe s
def wA (X : Cx) (es : List Expr) : TA := fun σ H Q => ∀ (pos : Pos) (pins : List (Addr × Obj)) (s : Shared), Inv X pins σ H s → wpAny (model X.prog X.w) X.A (spliced (backTo pos (starEach es X.env))) (AP X pins σ Q) X.xe s
def wS (X : Cx) (st : Stmt) : TS := fun D σ H => ∀ (pins : List (Addr × Obj)) (s : Shared), Inv X pins σ H s → wpAny (model X.prog X.w) X.A (exec st X.env) (SP X pins D) X.xe s
def wSs (X : Cx) (st : List Stmt) : TS := fun D σ H => ∀ (pins : List (Addr × Obj)) (s : Shared), Inv X pins σ H s → wpAny (model X.prog X.w) X.A (execs st X.env) (SP X pins D) X.xe s
section
variable {X : Cx} {e : Expr} {es : List Expr} {st : Stmt} {sts : List Stmt}
theorem pe_w : PE X e (wE X e) := ⟨fun pins s _ _ _ I h => h pins s I⟩
theorem pt_w : PT X e (wT X e) := ⟨fun pins s _ _ _ I h => h pins s I⟩
theorem pw_w : PW X e (wW X e) := ⟨fun w pins s _ _ _ I h => h w pins s I⟩
theorem pa_w : PA X es (wA X es) := ⟨fun pos pins s _ _ _ I h => h pos pins s I⟩
theorem ps_w : PS X st (wS X st) := ⟨fun pins s _ _ _ I h => h pins s I⟩
theorem pss_w : PSs X sts (wSs X sts) := ⟨fun pins s _ _ _ I h => h pins s I⟩
theorem wE.of {t : TE} (h : PE X e t) {σ : L2.St} {H : Hp} {Q : VK} (q : t σ H Q) : wE X e σ H Q := fun pins s I => h.run pins s σ H Q I q
theorem wT.of {t : TT} (h : PT X e t) {σ : L2.St} {H : Hp} {Q : Bool → Hp → Prop} (q : t σ H Q) : wT X e σ H Q := fun pins s I => h.run pins s σ H Q I q
theorem wW.of {t : TT} (h : PW X e t) {σ : L2.St} {H : Hp} {Q : Bool → Hp → Prop} (q : t σ H Q) : wW X e σ H Q := fun w pins s I => h.run w pins s σ H Q I q
theorem wA.of {t : TA} (h : PA X es t) {σ : L2.St} {H : Hp} {Q : List V → Hp → Prop} (q : t σ H Q) : wA X es σ H Q := fun pos pins s I => h.run pos pins s σ H Q I q
theorem wS.of {t : TS} (h : PS X st t) {σ : L2.St} {H : Hp} {D : Ends} (q : t D σ H) : wS X st D σ H := fun pins s I => h.run pins s σ H D I q
theorem wSs.of {t : TS} (h : PSs X sts t) {σ : L2.St} {H : Hp} {D : Ends} (q : t D σ H) : wSs X sts D σ H := fun pins s I => h.run pins s σ H D I q
end

structure J (X : Cx) (e : Expr) (ρ : Rho) (d : D) : Prop where
  run : ∀ W σ H, Ex W H → Vis X.K ρ W σ → ∀ Q : VK, GoodE X.K W H d Q → wE X e σ H Q
instance {X : Cx} {e : Expr} {ρ : Rho} {d : D} : CoeFun (J X e ρ d) (fun _ => ∀ W σ H, Ex W H → Vis X.K ρ W σ → ∀ Q : VK, GoodE X.K W H d Q → wE X e σ H Q) := ⟨J.run⟩
structure JT (X : Cx) (e : Expr) (ρ : Rho) (b : Bool) : Prop where
  run : ∀ W σ H, Ex W H → Vis X.K ρ W σ → ∀ Q : Bool → Hp → Prop, GoodT W H b Q → wT X e σ H Q
instance {X : Cx} {e : Expr} {ρ : Rho} {b : Bool} : CoeFun (JT X e ρ b) (fun _ => ∀ W σ H, Ex W H → Vis X.K ρ W σ → ∀ Q : Bool → Hp → Prop, GoodT W H b Q → wT X e σ H Q) := ⟨JT.run⟩
structure JW (X : Cx) (e : Expr) (ρ : Rho) (b : Bool) : Prop where
  run : ∀ W σ H, Ex W H → Vis X.K ρ W σ → ∀ Q : Bool → Hp → Prop, GoodT W H b Q → wW X e σ H Q
instance {X : Cx} {e : Expr} {ρ : Rho} {b : Bool} : CoeFun (JW X e ρ b) (fun _ => ∀ W σ H, Ex W H → Vis X.K ρ W σ → ∀ Q : Bool → Hp → Prop, GoodT W H b Q → wW X e σ H Q) := ⟨JW.run⟩
structure JA (X : Cx) (es : List Expr) (ρ : Rho) (ds : List D) : Prop where
  run : ∀ W σ H, Ex W H → Vis X.K ρ W σ → ∀ Q : List V → Hp → Prop, GoodA X.K W H ds Q → wA X es σ H Q
instance {X : Cx} {es : List Expr} {ρ : Rho} {ds : List D} : CoeFun (JA X es ρ ds) (fun _ => ∀ W σ H, Ex W H → Vis X.K ρ W σ → ∀ Q : List V → Hp → Prop, GoodA X.K W H ds Q → wA X es σ H Q) := ⟨JA.run⟩
/-- a rule over two values, over one, over several -/
def R2D (K : PySem.W.Frag) (r : R2) (x y z : D) : Prop := ∀ W H v u, Ex W H → Rep K W x v → Rep K W y u → ∀ Q : VK, GoodE K W H z Q → r v u H Q
def R1D (K : PySem.W.Frag) (r : V → Hp → VK → Prop) (x z : D) : Prop := ∀ W H v, Ex W H → Rep K W x v → ∀ Q : VK, GoodE K W H z Q → r v H Q
def RCD (K : PySem.W.Frag) (r : List V → Hp → VK → Prop) (xs : List D) (z : D) : Prop := ∀ W H vs, Ex W H → RepAll K W xs vs → ∀ Q : VK, GoodE K W H z Q → r vs H Q

section
variable {X : Cx} {a b c e : Expr} {es rest : List Expr} {ρ : Rho} {x y z d : D} {ds : List D} {pos p : Pos} {op op' : CmpOp} {bo : Operator} {t u : Bool}

theorem J.to {d' : D} (h : J X e ρ d) (q : d = d') : J X e ρ d' := q ▸ h
theorem JT.to (h : JT X e ρ t) (q : t = u) : JT X e ρ u := q ▸ h
theorem j_var {i : Nat} {n : Str} (hr : ρ[i]? = some (some d)) (hN : X.N[i]? = some n) (hv : L2.Vis X.env.scope n) (hd : (n == ("__debug__" : Str)) = false := by decide) (hcd : (n == ("__classdict__" : Str)) = false := by decide) : J X (.Name n pos) ρ d := ⟨fun W σ H e V Q g => by
  obtain ⟨v, h1, h2⟩ := V.at_ i d hr
  exact .of (pe_var hN hv hd hcd) ⟨v, h1, g.now e h2⟩⟩
theorem j_int {i : Int} {k} : J X (.Constant (.int i) k pos) ρ (.int i) := ⟨fun W σ H e V Q g => .of pe_int (g.now e (.int i))⟩
theorem j_bl {i : Bool} {k} : J X (.Constant (.bool i) k pos) ρ (.bl i) := ⟨fun W σ H e V Q g => .of pe_bl (g.now e (.bl i))⟩
theorem j_non {k} : J X (.Constant .none k pos) ρ .non := ⟨fun W σ H e V Q g => .of pe_non (g.now e .non)⟩
theorem j_str {i : Str} {k} : J X (.Constant (.str i) k pos) ρ (.str i) := ⟨fun W σ H e V Q g => .of pe_str (g.now e (.str i))⟩
theorem j_op {r : R2} (ho : OpR X (binaryOp bo) r) (ha : J X a ρ x) (hb : J X b ρ y) (hr : R2D X.K r x y z) : J X (.BinOp a bo b pos) ρ z := ⟨fun W σ H e V Q g =>
  .of (pe_op ho pe_w pe_w) (ha W σ H e V _ fun v W1 H1 s1 r1 => hb W1 σ H1 s1.wh (V.mono s1.ww) _ fun u W2 H2 s2 r2 => hr W2 H2 v u s2.wh (r1.mono s2.ww) r2 Q (g.step (s1.trans s2)))⟩
theorem j_un {uo : UnaryOp} {r : V → Hp → VK → Prop} (ho : UnR X (unaryOp uo) r) (ha : J X a ρ x) (hr : R1D X.K r x z) : J X (.UnaryOp uo a pos) ρ z := ⟨fun W σ H e V Q g =>
  .of (pe_un ho pe_w) (ha W σ H e V _ fun v W1 H1 s1 r1 => hr W1 H1 v s1.wh r1 Q (g.step s1))⟩
theorem j_cmp {r : R2} (ho : OpR X (compareOp op) r) (ha : J X a ρ x) (hb : J X b ρ y) (hr : R2D X.K r x y z) (hm : behindInMarks op b = false := by first | exact nobehind _ (by decide) (by decide) | rfl) : J X (.Compare a [op] [b] pos) ρ z := ⟨fun W σ H e V Q g =>
  .of (pe_cmpR ho pe_w pe_w hm) (ha W σ H e V _ fun v W1 H1 s1 r1 => hb W1 σ H1 s1.wh (V.mono s1.ww) _ fun u W2 H2 s2 r2 => hr W2 H2 v u s2.wh (r1.mono s2.ww) r2 Q (g.step (s1.trans s2)))⟩
theorem jt_cmp {r : R2} (ho : OpR X (compareOp op) r) (ha : J X a ρ x) (hb : J X b ρ y) (hr : R2D X.K r x y (.bl t)) (hm : behindInMarks op b = false := by first | exact nobehind _ (by decide) (by decide) | rfl) : JT X (.Compare a [op] [b] pos) ρ t := ⟨fun W σ H e V Q g =>
  .of (pt_cmpR ho pe_w pe_w hm) (ha W σ H e V _ fun v W1 H1 s1 r1 => hb W1 σ H1 s1.wh (V.mono s1.ww) _ fun u W2 H2 s2 r2 => hr W2 H2 v u s2.wh (r1.mono s2.ww) r2 _ fun v3 W3 H3 s3 r3 => by
    cases r3; exact ⟨t, rfl, g W3 H3 ((s1.trans s2).trans s3)⟩)⟩
theorem j_chain {r r' : R2} (ho : OpR X (compareOp op) r) (ho' : OpR X (compareOp op') r') (ha : J X a ρ x) (hb : J X b ρ y) (hc : t = true → J X c ρ z) (hr : R2D X.K r x y (.bl t)) (hr' : t = true → R2D X.K r' y z (.bl u))
    (hm : lastMarks [op, op'] [b, c] = false := by with_unfolding_all rfl) : J X (.Compare a [op, op'] [b, c] pos) ρ (.bl (t && u)) := ⟨fun W σ H e V Q g =>
  .of (pe_chain ho ho' pe_w pe_w pe_w hm) (ha W σ H e V _ fun v W1 H1 s1 r1 => hb W1 σ H1 s1.wh (V.mono s1.ww) _ fun w W2 H2 s2 r2 => hr W2 H2 v w s2.wh (r1.mono s2.ww) r2 _ fun v3 W3 H3 s3 r3 => by
    cases r3
    refine ⟨t, rfl, ?_⟩
    cases t with
    | false =>
      rw [if_neg Bool.false_ne_true]
      exact g _ W3 H3 ((s1.trans s2).trans s3) (.bl false)
    | true =>
      rw [if_pos rfl]
      exact hc rfl W3 σ H3 s3.wh (V.mono ((s1.trans s2).trans s3).ww) _ fun w3 W4 H4 s4 r4 => hr' rfl W4 H4 w w3 s4.wh (r2.mono (s3.trans s4).ww) r4 Q (g.step (((s1.trans s2).trans s3).trans s4)))⟩
theorem jt_val (h : J X e ρ (.bl t)) (he : ∀ whole, isTrue e X.env whole = (do let v ← whole; standAt e.pos; holding [v] (truthy v)) := by intro _; rfl) : JT X e ρ t := ⟨fun W σ H ex V Q g =>
  .of (pt_val pe_w he) (h W σ H ex V _ fun v W1 H1 s1 r1 => by cases r1; exact ⟨t, rfl, g W1 H1 s1⟩)⟩
def truth : D → Option Bool
  | .non => some false
  | .bl b => some b
  | .int i => some (i != 0)
  | .str x => if x.length ≤ sizeLine then some ((x.length : Int) != 0) else none
  | .lst xs => some (!xs.isEmpty)
  | .tup xs => some (!xs.isEmpty)
  | .dct kvs => some (!kvs.isEmpty)
  | .scr ns => some (!ns.isEmpty)
  | _ => none
theorem Rep.truth {K : PySem.W.Frag} {W H : Hp} {v : V} (e : Ex W H) (h : Rep K W d v) (q : truth d = some t) : TruV K v H t := by
  cases h with
  | non => cases q; rfl
  | bl b => cases q; rfl
  | int i => cases q; rfl
  | str x =>
    unfold Pf.truth at q
    dsimp only at q
    split at q
    · cases q; exact ⟨by assumption, rfl⟩
    · cases q
  | lst h1 h2 => cases q; exact .inl ⟨_, SqL.of (e _ _ h1), by cases h2 <;> rfl⟩
  | tup h1 h2 => cases q; exact .inr (.inl ⟨_, Evl.ex_t e h1, by cases h2 <;> rfl⟩)
  | @dct a kvs kds h1 h2 h3 =>
    cases q
    refine .inr (.inr ⟨kvs, e _ _ h1, ?_⟩)
    cases kvs <;> cases kds <;> simp at h2 ⊢
  | ins _ _ _ => cases q
  | ty _ => cases q
  | exc _ _ _ => cases q
  | ftup _ _ _ _ => cases q
  | @scr a ns h => cases q; exact .inl ⟨_, Evl.ex_l e h, by cases ns <;> rfl⟩
theorem jt_truth (h : J X e ρ d) (q : truth d = some t) (he : ∀ whole, isTrue e X.env whole = (do let v ← whole; standAt e.pos; holding [v] (truthy v)) := by intro _; rfl) : JT X e ρ t := ⟨fun W σ H ex V Q g =>
  .of (pt_truth pe_w he) (h W σ H ex V _ fun v W1 H1 s1 r1 => ⟨t, r1.truth s1.wh q, g W1 H1 s1⟩)⟩
theorem jt_not (h : JT X a ρ t) : JT X (.UnaryOp .Not a pos) ρ (!t) := ⟨fun W σ H ex V Q g =>
  .of (pt_not pt_w) (h W σ H ex V _ fun W1 H1 s1 => g W1 H1 s1)⟩
theorem jt_w (h : JW X e ρ t) : JT X e ρ t := ⟨fun W σ H ex V Q g => .of (PW.pt pw_w) (h W σ H ex V Q g)⟩
theorem jw_and1 (h : JT X a ρ t) : JW X (.BoolOp .And [a] pos) ρ t := ⟨fun W σ H ex V Q g => .of (pw_and1 pt_w) (h W σ H ex V Q g)⟩
theorem jw_or1 (h : JT X a ρ t) : JW X (.BoolOp .Or [a] pos) ρ t := ⟨fun W σ H ex V Q g => .of (pw_or1 pt_w) (h W σ H ex V Q g)⟩
theorem jw_and (h : JT X a ρ t) (h2 : t = true → JW X (.BoolOp .And (b :: rest) pos) ρ u) : JW X (.BoolOp .And (a :: b :: rest) pos) ρ (t && u) := ⟨fun W σ H ex V Q g =>
  .of (pw_and pt_w pw_w) (h W σ H ex V _ fun W1 H1 s1 => by
    cases t with
    | true => rw [if_pos rfl]; exact h2 rfl W1 σ H1 s1.wh (V.mono s1.ww) Q (g.step s1)
    | false => rw [if_neg Bool.false_ne_true]; exact g W1 H1 s1)⟩
theorem jw_or (h : JT X a ρ t) (h2 : t = false → JW X (.BoolOp .Or (b :: rest) pos) ρ u) : JW X (.BoolOp .Or (a :: b :: rest) pos) ρ (t || u) := ⟨fun W σ H ex V Q g =>
  .of (pw_or pt_w pw_w) (h W σ H ex V _ fun W1 H1 s1 => by
    cases t with
    | false => rw [if_neg Bool.false_ne_true]; exact h2 rfl W1 σ H1 s1.wh (V.mono s1.ww) Q (g.step s1)
    | true => rw [if_pos rfl]; exact g W1 H1 s1)⟩
theorem j_one {o} (h : J X a ρ d) : J X (.BoolOp o [a] pos) ρ d := ⟨fun W σ H ex V Q g => .of (pe_one pe_w) (h W σ H ex V Q g)⟩
end
end Pf

namespace Pf
open PySem L2
open Evl (Ex)

section
variable {X : Cx} {K : PySem.W.Frag} {a b c e e2 : Expr} {es rest : List Expr} {ρ : Rho} {x y z d d1 d2 : D} {ds : List D} {pos p p2 : Pos} {op op' : CmpOp} {bo : Operator} {t u : Bool}

theorem j_and (h : J X a ρ (.bl t)) (h2 : t = true → J X (.BoolOp .And (b :: rest) pos) ρ (.bl u)) : J X (.BoolOp .And (a :: b :: rest) pos) ρ (.bl (t && u)) := ⟨fun W σ H ex hV Q g =>
  .of (pe_and pe_w pe_w) (h W σ H ex hV _ fun v W1 H1 s1 r1 => by
    cases r1
    refine ⟨t, rfl, ?_⟩
    cases t with
    | true => rw [if_pos rfl]; exact h2 rfl W1 σ H1 s1.wh (hV.mono s1.ww) Q (g.step s1)
    | false => rw [if_neg Bool.false_ne_true]; exact g _ W1 H1 s1 (.bl false))⟩
theorem j_or (h : J X a ρ (.bl t)) (h2 : t = false → J X (.BoolOp .Or (b :: rest) pos) ρ (.bl u)) : J X (.BoolOp .Or (a :: b :: rest) pos) ρ (.bl (t || u)) := ⟨fun W σ H ex hV Q g =>
  .of (pe_or pe_w pe_w) (h W σ H ex hV _ fun v W1 H1 s1 r1 => by
    cases r1
    refine ⟨t, rfl, ?_⟩
    cases t with
    | false => rw [if_neg Bool.false_ne_true]; exact h2 rfl W1 σ H1 s1.wh (hV.mono s1.ww) Q (g.step s1)
    | true => rw [if_pos rfl]; exact g _ W1 H1 s1 (.bl true))⟩
/-- x or y, x and y by truth -/
theorem j_orT (h : J X a ρ d1) (q : truth d1 = some t) (h2 : t = false → J X (.BoolOp .Or (b :: rest) pos) ρ d2) : J X (.BoolOp .Or (a :: b :: rest) pos) ρ (if t = true then d1 else d2) := ⟨fun W σ H ex hV Q g =>
  .of (pe_orT pe_w pe_w) (h W σ H ex hV _ fun v W1 H1 s1 r1 => ⟨t, r1.truth s1.wh q, by
    cases t with
    | false => rw [if_neg Bool.false_ne_true]; rw [if_neg Bool.false_ne_true] at g; exact h2 rfl W1 σ H1 s1.wh (hV.mono s1.ww) Q (g.step s1)
    | true => rw [if_pos rfl]; rw [if_pos rfl] at g; exact g _ W1 H1 s1 r1⟩)⟩
theorem j_ifExp (hc : JT X c ρ t) (ha : t = true → J X a ρ d1) (hb : t = false → J X b ρ d2) : J X (.IfExp c a b pos) ρ (if t = true then d1 else d2) := ⟨fun W σ H ex hV Q g =>
  .of (pe_ifExp pt_w pe_w pe_w) (hc W σ H ex hV _ fun W1 H1 s1 => by
    cases t with
    | true => rw [if_pos rfl]; rw [if_pos rfl] at g; exact ha rfl W1 σ H1 s1.wh (hV.mono s1.ww) Q (g.step s1)
    | false => rw [if_neg Bool.false_ne_true]; rw [if_neg Bool.false_ne_true] at g; exact hb rfl W1 σ H1 s1.wh (hV.mono s1.ww) Q (g.step s1))⟩

theorem ja_nil : JA X [] ρ [] := ⟨fun W σ H ex hV Q g => .of pa_nil (g [] W H (.refl ex) .nil)⟩
theorem ja_cons (h : J X e ρ d) (h2 : JA X es ρ ds) (hs : starEach (e :: es) X.env = (false, eval e X.env) :: starEach es X.env := by rfl) : JA X (e :: es) ρ (d :: ds) := ⟨fun W σ H ex hV Q g =>
  .of (pa_cons pe_w pa_w hs) (h W σ H ex hV _ fun v W1 H1 s1 r1 => h2 W1 σ H1 s1.wh (hV.mono s1.ww) _ fun vs W2 H2 s2 r2 => g (v :: vs) W2 H2 (s1.trans s2) (.cons (r1.mono s2.ww) r2))⟩
theorem j_tup {k} (h : JA X es ρ ds) (hl : ds.length ≤ sizeLine := by (simp only [List.length_cons, List.length_nil]; decide)) : J X (.Tuple es k pos) ρ (.tup ds) := ⟨fun W σ H ex hV Q g =>
  .of (pe_tup pa_w) (h W σ H ex hV _ fun vs W1 H1 s1 r1 => ⟨by rw [← r1.length]; exact hl, fun q hq =>
    g _ _ _ (s1.trans (.new s1.wh hq)) (.tup (SqT.of upd_same) (r1.mono (Evl.Ex.new (Evl.fresh_back s1.wh hq))))⟩)⟩
theorem j_lst (h : JA X es ρ ds) (hl : ds.length ≤ sizeLine := by (simp only [List.length_cons, List.length_nil]; decide)) : J X (.List es pos) ρ (.lst ds) := ⟨fun W σ H ex hV Q g =>
  .of (pe_lst pa_w) (h W σ H ex hV _ fun vs W1 H1 s1 r1 => ⟨by rw [← r1.length]; exact hl, fun q hq =>
    g _ _ _ (s1.trans (.new s1.wh hq)) (.lst upd_same (r1.mono (Evl.Ex.new (Evl.fresh_back s1.wh hq))))⟩)⟩

theorem RepAll.at {H : Hp} {vs : List V} {i : Int} (h : RepAll K H ds vs) (q : atI ds i = some d) : ∃ v, atI vs i = some v ∧ Rep K H d v := by
  unfold atI at q ⊢
  rw [h.length] at q
  cases hk : ixN vs.length i with
  | none => rw [hk] at q; cases q
  | some j =>
    rw [hk] at q
    obtain ⟨v, h1, h2⟩ := h.get (show ds[j]? = some d from q)
    exact ⟨v, h1, h2⟩
theorem atI_ints {ns : List Int} {i : Int} (h0 : 0 ≤ i) (h1 : i < ns.length) : atI (ns.map D.int) i = some (.int (ns.getD i.toNat 0)) := by
  unfold atI ixN
  rw [List.length_map, if_pos h0, if_pos h1]
  show (ns.map D.int)[i.toNat]? = _
  have : i.toNat < ns.length := by omega
  rw [List.getElem?_map, List.getElem?_eq_getElem this, List.getD_eq_getElem?_getD, List.getElem?_eq_getElem this]
  rfl
theorem j_ixL {i : Int} (ha : J X a ρ (.lst ds)) (hb : J X b ρ (.int i)) (q : atI ds i = some d) (hs : PlainIx b := by exact fun _ _ => rfl) : J X (.Subscript a b pos) ρ d := ⟨fun W σ H ex hV Q g =>
  .of (pe_ix ix_list pe_w pe_w hs) (ha W σ H ex hV _ fun v W1 H1 s1 r1 => hb W1 σ H1 s1.wh (hV.mono s1.ww) _ fun w W2 H2 s2 r2 => by
    cases r2
    cases r1 with
    | lst h1 h2 =>
      obtain ⟨v, e1, e2⟩ := h2.at q
      exact ⟨_, _, i, v, rfl, rfl, SqL.of ((s1.trans s2).wh _ _ (s2.ww _ _ h1)), e1, g _ W2 H2 (s1.trans s2) (e2.mono s2.ww)⟩)⟩
theorem j_ixT {i : Int} (ha : J X a ρ (.tup ds)) (hb : J X b ρ (.int i)) (q : atI ds i = some d) (hs : PlainIx b := by exact fun _ _ => rfl) : J X (.Subscript a b pos) ρ d := ⟨fun W σ H ex hV Q g =>
  .of (pe_ix ix_tup pe_w pe_w hs) (ha W σ H ex hV _ fun v W1 H1 s1 r1 => hb W1 σ H1 s1.wh (hV.mono s1.ww) _ fun w W2 H2 s2 r2 => by
    cases r2
    cases r1 with
    | tup h1 h2 =>
      obtain ⟨v, e1, e2⟩ := h2.at q
      exact ⟨_, _, i, v, rfl, rfl, Evl.ex_t s2.wh (Evl.ex_t s2.ww h1), e1, g _ W2 H2 (s1.trans s2) (e2.mono s2.ww)⟩)⟩
theorem j_ixS {z : Str} {i : Int} {n : Nat} (ha : J X a ρ (.str z)) (hb : J X b ρ (.int i)) (hz : z.length ≤ sizeLine) (q : atI z.cps.toList i = some n) (hs : PlainIx b := by exact fun _ _ => rfl) : J X (.Subscript a b pos) ρ (.str ⟨#[n]⟩) := ⟨fun W σ H ex hV Q g =>
  .of (pe_ix ix_str pe_w pe_w hs) (ha W σ H ex hV _ fun v W1 H1 s1 r1 => hb W1 σ H1 s1.wh (hV.mono s1.ww) _ fun w W2 H2 s2 r2 => by
    cases r2
    cases r1
    exact ⟨z, i, n, rfl, rfl, hz, q, g _ W2 H2 (s1.trans s2) (.str _)⟩)⟩

def JO (X : Cx) (e : Option Expr) (ρ : Rho) (o : Option Int) : Prop := (e = none ∧ o = none) ∨ ∃ e' i, e = some e' ∧ o = some i ∧ J X e' ρ (.int i)
theorem jo_none : JO X none ρ none := .inl ⟨rfl, rfl⟩
theorem jo_some {i : Int} (h : J X e ρ (.int i)) : JO X (some e) ρ (some i) := .inr ⟨e, i, rfl, rfl, h⟩
def wO (X : Cx) (e : Option Expr) : TO := match e with
  | none => tNoPart
  | some e => tPart (wE X e)
theorem po_w {e : Option Expr} : PO X e (wO X e) := match e with
  | none => po_none
  | some e => po_some pe_w
theorem JO.run {e : Option Expr} {o : Option Int} (h : JO X e ρ o) {W : Hp} {σ : L2.St} {H : Hp} (ex : Ex W H) (hV : Vis X.K ρ W σ) {Q : Option Int → Hp → Prop} (g : ∀ W' H', Step W H W' H' → Q o H') : wO X e σ H Q := by
  rcases h with ⟨rfl, rfl⟩ | ⟨e', i, rfl, rfl, h⟩
  · exact g W H (.refl ex)
  · exact h W σ H ex hV _ fun v W1 H1 s1 r1 => by cases r1; exact ⟨i, rfl, g W1 H1 s1⟩
def cut {α : Type} (xs : List α) (lo hi : Option Int) : List α := (xs.drop (HT.sIx xs.length 0 lo)).take (HT.sIx xs.length xs.length hi - HT.sIx xs.length 0 lo)
theorem RepAll.cut {H : Hp} {vs : List V} (h : RepAll K H ds vs) (lo hi : Option Int) : RepAll K H (Pf.cut ds lo hi) (cutV vs lo hi) := by
  unfold Pf.cut cutV
  rw [h.length]
  exact (h.drop _).take _
theorem j_slL {lo hi : Option Expr} {o1 o2 : Option Int} (ha : J X a ρ (.lst ds)) (h1 : JO X lo ρ o1) (h2 : JO X hi ρ o2) : J X (.Subscript a (.Slice lo hi none p2) pos) ρ (.lst (cut ds o1 o2)) := ⟨fun W σ H ex hV Q g =>
  .of (pe_slice sl_list pe_w po_w po_w) (ha W σ H ex hV _ fun v W1 H1 s1 r1 => h1.run s1.wh (hV.mono s1.ww) fun W2 H2 s2 => h2.run s2.wh (hV.mono (s1.trans s2).ww) fun W3 H3 s3 => by
    cases r1 with
    | lst k1 k2 =>
      have s4 := (s1.trans s2).trans s3
      refine ⟨_, _, rfl, SqL.of ((s2.trans s3).hh _ _ (s1.wh _ _ k1)), fun q hq => ?_⟩
      exact g _ _ _ (s4.trans (.new s4.wh hq)) (.lst upd_same ((k2.mono ((s2.trans s3).ww.trans (Evl.Ex.new (Evl.fresh_back s4.wh hq)))).cut _ _)))⟩
theorem j_slScr {ns : List Int} {lo hi : Option Expr} {o1 o2 : Option Int} (ha : J X a ρ (.scr ns)) (h1 : JO X lo ρ o1) (h2 : JO X hi ρ o2) : J X (.Subscript a (.Slice lo hi none p2) pos) ρ (.lst ((cut ns o1 o2).map D.int)) := ⟨fun W σ H ex hV Q g =>
  .of (pe_slice sl_list pe_w po_w po_w) (ha W σ H ex hV _ fun v W1 H1 s1 r1 => h1.run s1.wh (hV.mono s1.ww) fun W2 H2 s2 => h2.run s2.wh (hV.mono (s1.trans s2).ww) fun W3 H3 s3 => by
    cases r1 with
    | scr k1 =>
      have s4 := (s1.trans s2).trans s3
      refine ⟨_, _, rfl, Evl.ex_l (s2.trans s3).hh (Evl.ex_l s1.wh k1), fun q hq => ?_⟩
      have e1 : cutV (ns.map V.int) o1 o2 = (cut ns o1 o2).map V.int := by
        unfold cutV cut
        rw [List.length_map, ← List.map_drop, ← List.map_take]
      exact g _ _ _ (s4.trans (.new s4.wh hq)) (.lst upd_same (by rw [e1]; exact .toInts _)))⟩
theorem j_slT {lo hi : Option Expr} {o1 o2 : Option Int} (ha : J X a ρ (.tup ds)) (h1 : JO X lo ρ o1) (h2 : JO X hi ρ o2) : J X (.Subscript a (.Slice lo hi none p2) pos) ρ (.tup (cut ds o1 o2)) := ⟨fun W σ H ex hV Q g =>
  .of (pe_slice sl_tupA pe_w po_w po_w) (ha W σ H ex hV _ fun v W1 H1 s1 r1 => h1.run s1.wh (hV.mono s1.ww) fun W2 H2 s2 => h2.run s2.wh (hV.mono (s1.trans s2).ww) fun W3 H3 s3 => by
    cases r1 with
    | @tup l vs _ k1 k2 =>
      have s4 := (s1.trans s2).trans s3
      refine ⟨l, vs, rfl, Evl.ex_t (s2.trans s3).hh (Evl.ex_t s1.wh k1), fun hw => ?_, fun hw q hq => ?_⟩
      · refine g _ _ _ s4 ?_
        have e1 : cut ds o1 o2 = ds := by
          unfold cut
          rw [k2.length, hw.1, hw.2]
          simp [← k2.length]
        rw [e1]
        exact .tup (Evl.ex_t (s2.trans s3).ww k1) (k2.mono (s2.trans s3).ww)
      · exact g _ _ _ (s4.trans (.new s4.wh hq)) (.tup (SqT.of upd_same) ((k2.mono ((s2.trans s3).ww.trans (Evl.Ex.new (Evl.fresh_back s4.wh hq)))).cut _ _)))⟩
theorem j_slS {z : Str} {lo hi : Option Expr} {o1 o2 : Option Int} (ha : J X a ρ (.str z)) (hz : z.length ≤ sizeLine) (h1 : JO X lo ρ o1) (h2 : JO X hi ρ o2) : J X (.Subscript a (.Slice lo hi none p2) pos) ρ (.str (cutS z o1 o2)) := ⟨fun W σ H ex hV Q g =>
  .of (pe_slice sl_str pe_w po_w po_w) (ha W σ H ex hV _ fun v W1 H1 s1 r1 => h1.run s1.wh (hV.mono s1.ww) fun W2 H2 s2 => h2.run s2.wh (hV.mono (s1.trans s2).ww) fun W3 H3 s3 => by
    cases r1
    exact ⟨z, rfl, hz, g _ _ _ ((s1.trans s2).trans s3) (.str _)⟩)⟩
theorem j_cb {r : List V → Hp → VK → Prop} {id : String} {n : Str} (hc : CallR X (.builtin id) r) (hm : X.mg n = none) (hv : bootBuiltins n = some (.builtin id)) (ha : JA X (e :: es) ρ ds) (hr : RCD X.K r ds d) (hg : Gl X n := by rfl) (hn : n ≠ "__name__" := by decide) (hdb : (n == ("__debug__" : Str)) = false := by decide)
    (he : starEach (e :: es) X.env = (false, eval e X.env) :: starEach es X.env := by rfl) (hpl : (backTo pos (starEach es X.env)).any (·.1) = false := by rfl) : J X (.Call (.Name n p) (e :: es) [] pos) ρ d := ⟨fun W σ H ex hV Q g =>
  .of (pe_callB hc hg hm hv pa_w hn hdb he hpl) (ha W σ H ex hV _ fun vs W1 H1 s1 r1 => hr W1 H1 vs s1.wh r1 Q (g.step s1))⟩
theorem j_ct {r : List V → Hp → VK → Prop} {T : String} {n : Str} (hc : CallR X (.type T) r) (hm : X.mg n = none) (hv : bootBuiltins n = some (.type T)) (ha : JA X (e :: es) ρ ds) (hr : RCD X.K r ds d) (hg : Gl X n := by rfl) (hn : n ≠ "__name__" := by decide) (hdb : (n == ("__debug__" : Str)) = false := by decide)
    (he : starEach (e :: es) X.env = (false, eval e X.env) :: starEach es X.env := by rfl) (hpl : (backTo pos (starEach es X.env)).any (·.1) = false := by rfl) : J X (.Call (.Name n p) (e :: es) [] pos) ρ d := ⟨fun W σ H ex hV Q g =>
  .of (pe_callTy hc hg hm hv pa_w hn hdb he hpl) (ha W σ H ex hV _ fun vs W1 H1 s1 r1 => hr W1 H1 vs s1.wh r1 Q (g.step s1))⟩
/-- a built-in's name as a value: a class -/
theorem j_ty {T : String} {n : Str} (hm : X.mg n = none) (hv : bootBuiltins n = some (.type T)) (hg : Gl X n := by rfl) (hn : n ≠ "__name__" := by decide) (hd : (n == ("__debug__" : Str)) = false := by decide) : J X (.Name n pos) ρ (.ty T) := ⟨fun W σ H ex hV Q g =>
  .of (pe_bltn hg hm hv (show RelV (.ty T) (.type T) from rfl) hn hd) (g.now ex (.ty T))⟩
/-- a module's constant -/
theorem j_glob {n : Str} {v : V} {w : Value} (hm : X.mg n = some w) (r : RelV v w) (hd : ∀ H, Rep X.K H d v) (hg : Gl X n := by rfl) (hdb : (n == ("__debug__" : Str)) = false := by decide) : J X (.Name n pos) ρ d := ⟨fun W σ H ex hV Q g =>
  .of (pe_glob hg hm r hdb) (g.now ex (hd W))⟩
end

/-- a def's promise: at arguments that stand for ds, where G ds P, it hands back what P holds of -/
def spP (K : PySem.W.Frag) (n : Nat) (G : List D → (D → Prop) → Prop) : Sp := fun vs H Q _ => vs.length = n ∧ ∃ W ds P, Ex W H ∧ RepAll K W ds vs ∧ G ds P ∧ ∀ d, P d → GoodE K W H d Q
structure PFn (P : Program) (w : World) (K : PySem.W.Frag) (mg : Str → Option Value) (base : Heap) (k : Nat) (x : Str) (n : Nat) (G : List D → (D → Prop) → Prop) : Prop where
  ex : ∃ f fd ps, FnOk P w K mg base CX0 k f fd ps (spP K n G) ∧ mg x = some (.ref f) ∧ PySem.W.keepIn K (.ref f) = true ∧ Binds K fd ps []
section
variable {X : Cx} {e : Expr} {es : List Expr} {ρ : Rho} {d : D} {ds : List D} {pos p : Pos} {k j n : Nat} {x : Str} {G : List D → (D → Prop) → Prop} {P : D → Prop}
theorem j_call (c : PFn X.prog X.w X.K X.mg X.base k x n G) (hr : Room j X.A) (ha : JA X (e :: es) ρ ds) (hG : G ds P) (hP : ∀ d', P d' → d' = d) (hk : k ≤ j := by decide) (hn : ds.length = n := by rfl) (hg : Gl X x := by rfl) (hdb : (x == ("__debug__" : Str)) = false := by decide)
    (he : starEach (e :: es) X.env = (false, eval e X.env) :: starEach es X.env := by rfl) (hpl : (backTo pos (starEach es X.env)).any (·.1) = false := by rfl) : J X (.Call (.Name x p) (e :: es) [] pos) ρ d := ⟨fun W σ H ex hV Q g => by
  obtain ⟨f, fd, ps, F, hm, hkp, hb⟩ := c.ex
  refine .of (pe_call (F.mono hk) hr hg hm hkp hb .nil pass0 pa_w hdb he hpl) (ha W σ H ex hV _ fun vs W1 H1 s1 r1 => ?_)
  rw [List.append_nil]
  exact ⟨by rw [← r1.length]; exact hn, W1, ds, P, s1.wh, r1, hG, fun d' hd => by rw [hP d' hd]; exact g.step s1⟩⟩
end
end Pf

namespace Pf
open PySem L2
open Evl (Ex)

section
variable {K : PySem.W.Frag} {i j : Int} {s t : Str} {b c : Bool} {d : D} {ds es : List D}
theorem r2_I {C : Int → Int → Prop} {g : Int → Int → Int} (h : C i j) : R2D K (rI C fun i j => .int (g i j)) (.int i) (.int j) (.int (g i j)) := fun W H v u ex r1 r2 Q q => by
  cases r1; cases r2; exact ⟨i, j, rfl, rfl, h, q.now ex (.int _)⟩
theorem r2_I0 {g : Int → Int → Int} : R2D K (rI0 fun i j => .int (g i j)) (.int i) (.int j) (.int (g i j)) := fun W H v u ex r1 r2 Q q => by
  cases r1; cases r2; exact ⟨i, j, rfl, rfl, q.now ex (.int _)⟩
theorem r2_B0 {g : Int → Int → Bool} : R2D K (rI0 fun i j => .bl (g i j)) (.int i) (.int j) (.bl (g i j)) := fun W H v u ex r1 r2 Q q => by
  cases r1; cases r2; exact ⟨i, j, rfl, rfl, q.now ex (.bl _)⟩
theorem r2_eqI : R2D K rEq (.int i) (.int j) (.bl (decide (i = j))) := fun W H v u ex r1 r2 Q q => by
  cases r1; cases r2
  refine ⟨rfl, ?_⟩
  have e : decide (V.int i = V.int j) = decide (i = j) := decide_eq_decide.mpr ⟨fun h => V.int.inj h, fun h => h ▸ rfl⟩
  rw [e]; exact q.now ex (.bl _)
theorem r2_eqS : R2D K rEq (.str s) (.str t) (.bl (decide (s = t))) := fun W H v u ex r1 r2 Q q => by
  cases r1; cases r2
  refine ⟨rfl, ?_⟩
  have e : decide (V.str s = V.str t) = decide (s = t) := decide_eq_decide.mpr ⟨fun h => V.str.inj h, fun h => h ▸ rfl⟩
  rw [e]; exact q.now ex (.bl _)
theorem r2_eqB : R2D K rEq (.bl b) (.bl c) (.bl (decide (b = c))) := fun W H v u ex r1 r2 Q q => by
  cases r1; cases r2
  refine ⟨rfl, ?_⟩
  have e : decide (V.bl b = V.bl c) = decide (b = c) := decide_eq_decide.mpr ⟨fun h => V.bl.inj h, fun h => h ▸ rfl⟩
  rw [e]; exact q.now ex (.bl _)
theorem r2_neI : R2D K rNe (.int i) (.int j) (.bl (!decide (i = j))) := fun W H v u ex r1 r2 Q q => by
  cases r1; cases r2
  refine ⟨rfl, ?_⟩
  have e : decide (V.int i = V.int j) = decide (i = j) := decide_eq_decide.mpr ⟨fun h => V.int.inj h, fun h => h ▸ rfl⟩
  rw [e]; exact q.now ex (.bl _)
theorem r2_neS : R2D K rNe (.str s) (.str t) (.bl (!decide (s = t))) := fun W H v u ex r1 r2 Q q => by
  cases r1; cases r2
  refine ⟨rfl, ?_⟩
  have e : decide (V.str s = V.str t) = decide (s = t) := decide_eq_decide.mpr ⟨fun h => V.str.inj h, fun h => h ▸ rfl⟩
  rw [e]; exact q.now ex (.bl _)
def isNon : D → Bool
  | .non => true
  | _ => false
theorem Rep.isNon {H : Hp} {v : V} (r : Rep K H d v) : decide (v = .non) = isNon d := by
  cases r <;> simp [Pf.isNon]
theorem r2_isN : R2D K (fun x y H Q => y = .non ∧ Q (.bl (decide (x = .non))) H) d .non (.bl (isNon d)) := fun W H v u ex r1 r2 Q q => by
  cases r2; rw [r1.isNon]; exact ⟨rfl, q.now ex (.bl _)⟩
theorem r2_addL (h : ds.length + es.length ≤ sizeLine) : R2D K rCat (.lst ds) (.lst es) (.lst (ds ++ es)) := fun W H v u ex r1 r2 Q q => by
  cases r1 with
  | lst h1 k1 =>
    cases r2 with
    | lst h2 k2 =>
      refine ⟨_, _, _, _, rfl, rfl, ex _ _ h1, ex _ _ h2, by rw [← k1.length, ← k2.length]; exact h, fun p hp => q _ _ _ (.new ex hp) (.lst upd_same ?_)⟩
      exact (k1.append k2).mono (Evl.Ex.new (Evl.fresh_back ex hp))
theorem r2_addT (h : ds.length + es.length ≤ sizeLine) : R2D K (rCatA K) (.tup ds) (.tup es) (.tup (ds ++ es)) := fun W H v u ex r1 r2 Q q => by
  cases r1 with
  | tup h1 k1 =>
    cases r2 with
    | tup h2 k2 =>
      refine ⟨_, _, _, _, rfl, rfl, Evl.ex_t ex h1, Evl.ex_t ex h2, by rw [← k1.length, ← k2.length]; exact h, fun e => ?_, fun e1 e2 => ?_, fun e1 e2 p hp => ?_⟩
      · subst e; cases k1; exact q.now ex (.tup h2 k2)
      · subst e2; cases k2; rw [List.append_nil] at q; exact q.now ex (.tup h1 k1)
      · exact q _ _ _ (.new ex hp) (.tup (SqT.of upd_same) ((k1.append k2).mono (Evl.Ex.new (Evl.fresh_back ex hp))))
/-- in, over flat items -/
def flatD : D → Bool
  | .non => true
  | .bl _ => true
  | .int _ => true
  | .str _ => true
  | _ => false
def eqD : D → D → Bool
  | .non, .non => true
  | .bl a, .bl b => a == b
  | .bl a, .int b => (if a then 1 else 0) == b
  | .int a, .bl b => a == (if b then 1 else 0)
  | .int a, .int b => a == b
  | .str a, .str b => a == b
  | _, _ => false
theorem Rep.flat {H : Hp} {v : V} (r : Rep K H d v) (h : flatD d = true) : flatV v = true := by
  cases r <;> first | rfl | cases h
theorem Rep.eqV {H : Hp} {v u : V} {e : D} (r1 : Rep K H d v) (r2 : Rep K H e u) (h1 : flatD d = true) (h2 : flatD e = true) : L2.eqV v u = eqD d e := by
  cases r1 <;> first | (cases r2 <;> first | rfl | cases h2) | cases h1
theorem RepAll.flat : ∀ {ds : List D} {vs : List V} {H : Hp}, RepAll K H ds vs → ds.all flatD = true → vs.all flatV = true
  | _, _, _, .nil, _ => rfl
  | _, _, _, .cons r t, h => by
    rw [List.all_cons, Bool.and_eq_true] at h ⊢
    exact ⟨r.flat h.1, RepAll.flat t h.2⟩
theorem RepAll.inV {H : Hp} {v : V} (r : Rep K H d v) (hd : flatD d = true) : ∀ {ds : List D} {vs : List V}, RepAll K H ds vs → ds.all flatD = true → L2.inV v vs = ds.any fun y => eqD y d
  | _, _, .nil, _ => rfl
  | _, _, .cons r' t, h => by
    rw [List.all_cons, Bool.and_eq_true] at h
    show (L2.eqV _ _ || _) = _
    rw [List.any_cons, r'.eqV r h.1 hd]
    have := RepAll.inV r hd t h.2
    unfold L2.inV at this
    rw [this]
theorem r2_inL {neg : Bool} (hd : flatD d = true) (hs : ds.all flatD = true) : R2D K (rIn K neg) d (.lst ds) (.bl (if neg then !(ds.any fun y => eqD y d) else ds.any fun y => eqD y d)) := fun W H v u ex r1 r2 Q q => by
  cases r2 with
  | lst h k =>
    refine ⟨_, _, rfl, .inl (SqL.of (ex _ _ h)), r1.flat hd, k.flat hs, ?_⟩
    rw [RepAll.inV r1 hd k hs]
    exact q.now ex (.bl _)
theorem r2_inT {neg : Bool} (hd : flatD d = true) (hs : ds.all flatD = true) : R2D K (rIn K neg) d (.tup ds) (.bl (if neg then !(ds.any fun y => eqD y d) else ds.any fun y => eqD y d)) := fun W H v u ex r1 r2 Q q => by
  cases r2 with
  | tup h k =>
    refine ⟨_, _, rfl, .inr (Evl.ex_t ex h), r1.flat hd, k.flat hs, ?_⟩
    rw [RepAll.inV r1 hd k hs]
    exact q.now ex (.bl _)
theorem any_eqStr (x : Str) (xs : List Str) : ((xs.map D.str).any fun y => eqD y (.str x)) = decide (x ∈ xs) := by
  induction xs with
  | nil => rfl
  | cons y ys ih =>
    rw [List.map_cons, List.any_cons, ih]
    show ((y == x) || _) = _
    by_cases e : y = x
    · subst e; simp
    · have : ¬ x = y := fun z => e z.symm
      simp [e, this]
theorem all_flatStr (xs : List Str) : (xs.map D.str).all flatD = true := by
  induction xs with
  | nil => rfl
  | cons y ys ih => rw [List.map_cons, List.all_cons, ih]; rfl
theorem r2_inStrL {x : Str} {xs : List Str} : R2D K (rIn K false) (.str x) (.lst (xs.map D.str)) (.bl (decide (x ∈ xs))) := by
  have h := r2_inL (K := K) (neg := false) (d := .str x) (ds := xs.map D.str) rfl (all_flatStr xs)
  rw [any_eqStr] at h; exact h
theorem r2_inStrT {x : Str} {xs : List Str} : R2D K (rIn K false) (.str x) (.tup (xs.map D.str)) (.bl (decide (x ∈ xs))) := by
  have h := r2_inT (K := K) (neg := false) (d := .str x) (ds := xs.map D.str) rfl (all_flatStr xs)
  rw [any_eqStr] at h; exact h
theorem r2_inSign {c : Nat} {z : Str} : R2D K (fun x y H Q => ∃ (c : Nat) (z : Str), x = .str ⟨#[c]⟩ ∧ y = .str z ∧ Q (.bl (decide (c ∈ z.cps.toList))) H) (.str ⟨#[c]⟩) (.str z) (.bl (decide (c ∈ z.cps.toList))) := fun W H v u ex r1 r2 Q q => by
  cases r1; cases r2; exact ⟨c, z, rfl, rfl, q.now ex (.bl _)⟩
mutual
def toPy : D → Option PyData
  | .non => some .none
  | .bl b => some (.bool b)
  | .int i => some (.int i)
  | .str s => some (.str s)
  | .lst xs => (toPys xs).map .list
  | .tup xs => (toPys xs).map .tuple
  | _ => none
def toPys : List D → Option (List PyData)
  | [] => some []
  | x :: xs => match toPy x, toPys xs with
    | some y, some ys => some (y :: ys)
    | _, _ => none
end
theorem Rep.dp {H : Hp} {v : V} (h : Rep K H d v) : ∀ p, toPy d = some p → Dp K H v p := by
  refine Rep.rec (motive_1 := fun d v _ => ∀ p, toPy d = some p → Dp K H v p) (motive_2 := fun ds vs _ => ∀ ps, toPys ds = some ps → DpAll K H vs ps) ?_ ?_ ?_ ?_ ?_ ?_ ?_ ?_ ?_ ?_ ?_ ?_ ?_ ?_ h
  · intro p e; cases e; exact .non
  · intro b p e; cases e; exact .bl b
  · intro b p e; cases e; exact .int b
  · intro b p e; cases e; exact .str b
  · intro b p e; cases e
  · intro a dd fs fds _ _ _ _ p e; cases e
  · intro a ns h p e; cases e
  · intro a vs ds h _ ih p e
    simp only [toPy, Option.map_eq_some_iff] at e
    obtain ⟨ps, e1, rfl⟩ := e
    exact .lst (SqL.of h) (ih ps e1)
  · intro a vs ds h _ ih p e
    simp only [toPy, Option.map_eq_some_iff] at e
    obtain ⟨ps, e1, rfl⟩ := e
    exact .tup h (ih ps e1)
  · intro a kvs kds _ _ _ _ p e; cases e
  · intro a C dx fs fds _ _ _ _ p e; cases e
  · intro a o vs ds _ _ _ _ _ p e; cases e
  · intro ps e; cases e; exact .nil
  · intro d v ds vs _ _ i1 i2 ps e
    simp only [toPys] at e
    split at e
    · rename_i y ys e1 e2
      cases e
      exact .cons (i1 _ e1) (i2 _ e2)
    · cases e
theorem r2_eqD {d e : D} {p q : PyData} {b : Bool} (h1 : toPy d = some p) (h2 : toPy e = some q) (s1 : SeqAt.shaped p = true) (s2 : SeqAt.shaped q = true) (hb : PyData.eqv p q = b) : R2D K (rEqD K) d e (.bl b) := fun W H v u ex r1 r2 Q g =>
  ⟨p, q, (r1.mono ex).dp p h1, (r2.mono ex).dp q h2, s1, s2, by rw [hb]; exact g.now ex (.bl _)⟩
theorem rc_int : RCD K (fun xs H Q => (∃ i, xs = [.int i] ∧ Q (.int i) H) ∨ ∃ k, xs = [.bl k] ∧ Q (.int (if k then 1 else 0)) H) [.int i] (.int i) := fun W H vs ex r Q q => by
  cases r with | cons r t => cases t; cases r; exact .inl ⟨i, rfl, q.now ex (.int _)⟩
theorem rc_abs : RCD K (fun xs H Q => ∃ i, xs = [.int i] ∧ Q (.int (if i < 0 then -i else i)) H) [.int i] (.int (if i < 0 then -i else i)) := fun W H vs ex r Q q => by
  cases r with | cons r t => cases t; cases r; exact ⟨i, rfl, q.now ex (.int _)⟩
theorem rc_max2 : RCD K (fun xs H Q => ∃ i j, xs = [.int i, .int j] ∧ Q (.int (if j > i then j else i)) H) [.int i, .int j] (.int (if j > i then j else i)) := fun W H vs ex r Q q => by
  cases r with | cons r t => cases t with | cons r' t' => cases t'; cases r; cases r'; exact ⟨i, j, rfl, q.now ex (.int _)⟩
def lenD : D → Option Nat
  | .lst ds => some ds.length
  | .tup ds => some ds.length
  | .scr ns => some ns.length
  | .str s => if s.length ≤ sizeLine then some s.length else none
  | _ => none
theorem rc_len {n : Nat} (h : lenD d = some n) : RCD K (fun xs H Q => ∃ x n, xs = [x] ∧ LenV K x H n ∧ Q (.int n) H) [d] (.int n) := fun W H vs ex r Q q => by
  cases r with
  | cons r t =>
    cases t
    refine ⟨_, n, rfl, ?_, q.now ex (.int _)⟩
    cases r with
    | lst h1 k => cases h; exact .inl ⟨_, SqL.of (ex _ _ h1), k.length⟩
    | tup h1 k => cases h; exact .inr ⟨_, Evl.ex_t ex h1, k.length⟩
    | scr h1 => cases h; exact .inl ⟨_, Evl.ex_l ex h1, by rw [List.length_map]⟩
    | str x =>
      simp only [lenD] at h
      split at h
      · cases h; exact ⟨by assumption, rfl⟩
      · cases h
    | _ => cases h
theorem rc_sum {ns : List Int} : RCD K (rSum K) [.lst (ns.map D.int)] (.int ns.sum) := fun W H vs ex r Q q => by
  cases r with
  | cons r t =>
    cases t
    cases r with
    | lst h1 k => cases k.ints; exact ⟨_, ns, rfl, SqL.of (ex _ _ h1), q.now ex (.int _)⟩
theorem rc_all {bs : List Bool} : RCD K (rAll K) [.lst (bs.map D.bl)] (.bl (bs.all id)) := fun W H vs ex r Q q => by
  cases r with
  | cons r t =>
    cases t
    cases r with
    | lst h1 k => cases k.bools; exact ⟨_, bs, rfl, SqL.of (ex _ _ h1), q.now ex (.bl _)⟩
theorem rc_any {bs : List Bool} : RCD K (rAny K) [.lst (bs.map D.bl)] (.bl (bs.any id)) := fun W H vs ex r Q q => by
  cases r with
  | cons r t =>
    cases t
    cases r with
    | lst h1 k => cases k.bools; exact ⟨_, bs, rfl, SqL.of (ex _ _ h1), q.now ex (.bl _)⟩
theorem rc_tupleL : RCD K (fun xs H Q => ∃ p ys, xs = [.ref p] ∧ ((SqL K H p ys ∧ ∀ l, H l = none → Q (.ref l) (upd H l (.tup ys))) ∨ (SqT K H p ys ∧ Q (.ref p) H))) [.lst ds] (.tup ds) := fun W H vs ex r Q q => by
  cases r with
  | cons r t =>
    cases t
    cases r with
    | lst h1 k => exact ⟨_, _, rfl, .inl ⟨SqL.of (ex _ _ h1), fun l hl => q _ _ _ (.new ex hl) (.tup (SqT.of upd_same) (k.mono (Evl.Ex.new (Evl.fresh_back ex hl))))⟩⟩
/-- isinstance(x, T), T a built-in class, x no instance -/
def tyD : D → Option Value
  | .non => some (.type "NoneType")
  | .bl _ => some (.type "bool")
  | .int _ => some (.type "int")
  | .str _ => some (.type "str")
  | .lst _ => some (.type "list")
  | .dct _ => some (.type "dict")
  | _ => none
theorem rc_isi {T : String} {t : Value} (h : tyD d = some t) (hk : PySem.W.kitOne K t (.type T) = some b) : RCD K (rIsi K) [d, .ty T] (.bl b) := fun W H vs ex r Q q => by
  cases r with
  | cons r t =>
    cases t with
    | cons r' t' =>
      cases t'
      cases r'
      refine ⟨_, _, _, _, b, rfl, .ty T, .base ?_, hk, q.now ex (.bl _)⟩
      cases r with
      | non => cases h; exact .non
      | bl b => cases h; exact .bl _
      | int i => cases h; exact .int _
      | str s => cases h; exact .str _
      | lst h1 _ => cases h; exact .lst (ex _ _ h1)
      | dct h1 _ _ => cases h; exact .dK (ex _ _ h1)
      | _ => cases h
end

structure Walks (K : PySem.W.Frag) (J : It) (W : Hp) (ds : List D) : Prop where
  go : ∀ i H, Ex W H → i < ds.length → J.go i H
  yld : ∀ i H x H' d, Ex W H → ds[i]? = some d → J.yld i H x H' → ∀ W2, Ex W W2 → Ex W2 H → ∃ W3, Step W2 H W3 H' ∧ Rep K W3 d x
  stop : ∀ H, Ex W H → J.stop ds.length H
def wI (X : Cx) (tg iter : Expr) : TI := fun σ H R => ∀ (pins : List (Addr × Obj)) (s : Shared), Inv X pins σ H s →
  wpAny (model X.prog X.w) X.A (eval iter X.env) (fun v s1 => wpAny (model X.prog X.w) X.A (pyIter v) (PIE X pins σ tg R) X.xe s1) X.xe s
theorem pi_w {X : Cx} {tg iter : Expr} : PI X tg iter (wI X tg iter) := ⟨fun pins s _ _ _ I h => h pins s I⟩
theorem wI.of {X : Cx} {tg iter : Expr} {t : TI} (h : PI X tg iter t) {σ : L2.St} {H : Hp} {R : It → Hp → Prop} (q : t σ H R) : wI X tg iter σ H R := fun pins s I => h.run pins s σ H R I q
structure JI (X : Cx) (tg iter : Expr) (ρ : Rho) (ds : List D) : Prop where
  run : ∀ W σ H, Ex W H → Vis X.K ρ W σ → ∀ R : It → Hp → Prop, (∀ J W1 H1, Step W H W1 H1 → Walks X.K J W1 ds → R J H1) → wI X tg iter σ H R
instance {X : Cx} {tg iter : Expr} {ρ : Rho} {ds : List D} : CoeFun (JI X tg iter ρ ds) (fun _ => ∀ W σ H, Ex W H → Vis X.K ρ W σ → ∀ R : It → Hp → Prop, (∀ J W1 H1, Step W H W1 H1 → Walks X.K J W1 ds → R J H1) → wI X tg iter σ H R) := ⟨JI.run⟩
section
variable {X : Cx} {K : PySem.W.Frag} {tg iter a b : Expr} {ρ : Rho} {ds : List D} {pos p : Pos}
theorem walks_list {W : Hp} {l : Addr} {vs : List V} (h : W l = some (.lst vs)) (k : RepAll K W ds vs) : Walks K (Itl K l) W ds where
  go := fun i H ex hi => by
    have hv : i < vs.length := by rw [← k.length]; exact hi
    exact ⟨vs, vs[i], SqL.of (ex _ _ h), by simp [hv]⟩
  yld := fun i H x H' d ex hd hy W2 e1 e2 => by
    obtain ⟨rfl, hy⟩ := hy
    obtain ⟨v, h1, h2⟩ := k.get hd
    have := hy vs (SqL.of (ex _ _ h))
    rw [h1] at this
    cases this
    exact ⟨W2, .refl e2, h2.mono e1⟩
  stop := fun H ex => ⟨vs, SqL.of (ex _ _ h), Nat.le_of_eq k.length.symm⟩
theorem ji_list (h : J X iter ρ (.lst ds)) : JI X tg iter ρ ds := ⟨fun W σ H ex hV R g => .of (pi_list pe_w) (h W σ H ex hV _ fun v W1 H1 s1 r1 => by
  cases r1 with
  | lst h1 k => exact ⟨_, rfl, ⟨_, SqL.of (s1.wh _ _ h1)⟩, g _ W1 H1 s1 (walks_list h1 k)⟩)⟩
theorem walks_tup {W : Hp} {l : Addr} {vs : List V} (uq : ∀ H xs ys, SqT K H l xs → SqT K H l ys → Ex W H → xs = ys → True) (h : SqT K W l vs) (k : RepAll K W ds vs) : Walks K (Itt K l) W ds where
  go := fun i H ex hi => by
    have hv : i < vs.length := by rw [← k.length]; exact hi
    exact ⟨vs, vs[i], Evl.ex_t ex h, by simp [hv]⟩
  yld := fun i H x H' d ex hd hy W2 e1 e2 => by
    obtain ⟨rfl, hy⟩ := hy
    obtain ⟨v, h1, h2⟩ := k.get hd
    have := hy vs (Evl.ex_t ex h)
    rw [h1] at this
    cases this
    exact ⟨W2, .refl e2, h2.mono e1⟩
  stop := fun H ex => ⟨vs, Evl.ex_t ex h, Nat.le_of_eq k.length.symm⟩
theorem ji_tup (h : J X iter ρ (.tup ds)) : JI X tg iter ρ ds := ⟨fun W σ H ex hV R g => .of (pi_tup pe_w) (h W σ H ex hV _ fun v W1 H1 s1 r1 => by
  cases r1 with
  | tup h1 k => exact ⟨_, rfl, ⟨_, Evl.ex_t s1.wh h1⟩, g _ W1 H1 s1 (walks_tup (fun _ _ _ _ _ _ _ => trivial) h1 k)⟩)⟩
def rangeD (lo : Int) (n : Nat) : List D := (List.range n).map fun k => D.int (lo + (k : Nat))
theorem walks_range {W : Hp} {lo : Int} {n : Nat} : Walks K (Itr lo n) W (rangeD lo n) where
  go := fun i H ex hi => by unfold rangeD at hi; rw [List.length_map, List.length_range] at hi; exact hi
  yld := fun i H x H' d ex hd hy W2 e1 e2 => by
    obtain ⟨rfl, rfl⟩ := hy
    unfold rangeD at hd
    rw [List.getElem?_map] at hd
    cases e : (List.range n)[i]? with
    | none => rw [e] at hd; cases hd
    | some k =>
      rw [e] at hd
      obtain ⟨hk, e'⟩ := List.getElem?_eq_some_iff.mp e
      rw [List.getElem_range] at e'
      subst e'
      cases hd
      exact ⟨W2, .refl e2, .int _⟩
  stop := fun H ex => by unfold rangeD; rw [List.length_map, List.length_range]; exact Nat.le_refl n
theorem ji_range1 {n : Int} (hm : X.mg "range" = none) (h : J X a ρ (.int n)) (h1 : -(2 ^ 62) ≤ n) (h2 : n < 2 ^ 62) (hg : Gl X "range" := by rfl) (hs : starEach [a] X.env = [(false, eval a X.env)] := by rfl) : JI X tg (.Call (.Name "range" p) [a] [] pos) ρ (rangeD 0 n.toNat) := ⟨fun W σ H ex hV R g =>
  .of (pi_range1 hg hm pa_w hs) (ja_cons h ja_nil hs W σ H ex hV _ fun vs W1 H1 s1 r1 => by
    cases r1 with
    | cons r t => cases t; cases r; exact ⟨n, rfl, h1, h2, g _ W1 H1 s1 walks_range⟩)⟩
theorem ji_range2 {m n : Int} (hm : X.mg "range" = none) (ha : J X a ρ (.int m)) (hb : J X b ρ (.int n)) (h1 : -(2 ^ 62) ≤ m ∧ m < 2 ^ 62 ∧ -(2 ^ 62) ≤ n ∧ n < 2 ^ 62) (hg : Gl X "range" := by rfl) (hs : starEach [a, b] X.env = [(false, eval a X.env), (false, eval b X.env)] := by rfl) (hs2 : starEach [b] X.env = [(false, eval b X.env)] := by rfl) :
    JI X tg (.Call (.Name "range" p) [a, b] [] pos) ρ (rangeD m (n - m).toNat) := ⟨fun W σ H ex hV R g =>
  .of (pi_range2 hg hm pa_w hs hs2) (ja_cons ha (ja_cons hb ja_nil hs2) (by rw [hs, hs2]) W σ H ex hV _ fun vs W1 H1 s1 r1 => by
    cases r1 with
    | cons r t => cases t with | cons r' t' => cases t'; cases r; cases r'; exact ⟨m, n, rfl, h1, g _ W1 H1 s1 walks_range⟩)⟩
end
end Pf

namespace Pf
open PySem L2
open Evl (Ex)

inductive Pat where
  | nm (i : Nat) | tp (is : List Nat) | tn (ps : List (Nat ⊕ List Nat))
def gNames : List Nat → TGs
  | [] => gNil
  | i :: is => gCons (gName i) (gNames is)
def gComps (K : PySem.W.Frag) : List (Nat ⊕ List Nat) → TGs
  | [] => gNil
  | .inl i :: ps => gCons (gName i) (gComps K ps)
  | .inr is :: ps => gCons (gTup K is.length (gNames is)) (gComps K ps)
def Pat.g (K : PySem.W.Frag) : Pat → TG
  | .nm i => gName i
  | .tp is => gTup K is.length (gNames is)
  | .tn ps => gTup K ps.length (gComps K ps)
def slotsC : List (Nat ⊕ List Nat) → List Nat
  | [] => []
  | .inl i :: ps => i :: slotsC ps
  | .inr is :: ps => is ++ slotsC ps
def Pat.slots : Pat → List Nat
  | .nm i => [i]
  | .tp is => is
  | .tn ps => slotsC ps
def setAll {α : Type} (ρ : List (Option α)) : List Nat → List α → List (Option α)
  | i :: is, d :: ds => setAll (ρ.set i (some d)) is ds
  | _, _ => ρ
/-- by data, each as f -/
def setC {α : Type} (f : D → α) : List (Nat ⊕ List Nat) → List D → List (Option α) → Option (List (Option α))
  | [], [], ρ => some ρ
  | .inl i :: ps, d :: ds, ρ => setC f ps ds (ρ.set i (some (f d)))
  | .inr is :: ps, .tup es :: ds, ρ => if es.length = is.length then setC f ps ds (setAll ρ is (es.map f)) else none
  | _, _, _ => none
def Pat.set : Pat → D → Rho → Option Rho
  | .nm i, d, ρ => some (ρ.set i (some d))
  | .tp is, .tup ds, ρ => if ds.length = is.length then some (setAll ρ is ds) else none
  | .tp _, _, _ => none
  | .tn ps, .tup ds, ρ => setC id ps ds ρ
  | .tn _, _, _ => none
theorem setAll_length {α : Type} : ∀ (is : List Nat) (ds : List α) (ρ : List (Option α)), (setAll ρ is ds).length = ρ.length
  | [], _, _ => rfl
  | _ :: _, [], _ => rfl
  | i :: is, d :: ds, ρ => by
    show (setAll (ρ.set i (some d)) is ds).length = _
    rw [setAll_length is ds, List.length_set]
theorem setAll_out {α : Type} : ∀ (is : List Nat) (ds : List α) (ρ : List (Option α)) (j : Nat), j ∉ is → (setAll ρ is ds)[j]? = ρ[j]?
  | [], _, _, _, _ => rfl
  | _ :: _, [], _, _, _ => rfl
  | i :: is, d :: ds, ρ, j, h => by
    show (setAll (ρ.set i (some d)) is ds)[j]? = _
    rw [List.mem_cons, not_or] at h
    rw [setAll_out is ds _ j h.2, List.getElem?_set_ne (fun e => h.1 e.symm)]
theorem setC_length {α : Type} {f : D → α} : ∀ {ps : List (Nat ⊕ List Nat)} {ds : List D} {ρ ρ' : List (Option α)}, setC f ps ds ρ = some ρ' → ρ'.length = ρ.length
  | [], [], ρ, ρ', h => by cases h; rfl
  | [], _ :: _, ρ, ρ', h => by cases h
  | .inl i :: ps, [], ρ, ρ', h => by cases h
  | .inl i :: ps, d :: ds, ρ, ρ', h => by have := setC_length (f := f) (ps := ps) (ds := ds) h; rw [this, List.length_set]
  | .inr is :: ps, [], ρ, ρ', h => by cases h
  | .inr is :: ps, d :: ds, ρ, ρ', h => by
    cases d <;> simp only [setC] at h <;> first | cases h | skip
    split at h
    · have := setC_length (f := f) (ps := ps) (ds := ds) h; rw [this, setAll_length]
    · cases h
theorem Pat.set_length {pat : Pat} {d : D} {ρ ρ' : Rho} (h : pat.set d ρ = some ρ') : ρ'.length = ρ.length := by
  cases pat with
  | nm i => cases h; exact List.length_set
  | tp is =>
    cases d <;> simp only [Pat.set] at h <;> first | cases h | skip
    split at h
    · cases h; exact setAll_length _ _ _
    · cases h
  | tn ps =>
    cases d <;> simp only [Pat.set] at h <;> first | cases h | skip
    exact setC_length h
section
variable {K : PySem.W.Frag} {ρ ρ' : Rho} {W H : Hp} {σ : L2.St} {d : D} {v : V}
theorem Vis.set (h : Vis K ρ W σ) (r : Rep K W d v) (i : Nat) : Vis K (ρ.set i (some d)) W (σ.set i (some v)) := ⟨by rw [List.length_set, List.length_set, h.len], fun j e q => by
  by_cases hj : i = j
  · subst hj
    by_cases hi : i < ρ.length
    · rw [List.getElem?_set_self hi] at q
      cases q
      exact ⟨v, List.getElem?_set_self (by rw [← h.len]; exact hi), r⟩
    · rw [List.getElem?_eq_none (by rw [List.length_set]; omega)] at q
      cases q
  · rw [List.getElem?_set_ne hj] at q ⊢
    exact h.at_ j e q⟩
theorem Vis.setAll : ∀ (is : List Nat) {ds : List D} {vs : List V} {ρ : Rho} {σ : L2.St}, Vis K ρ W σ → RepAll K W ds vs → ds.length = is.length → Vis K (Pf.setAll ρ is ds) W (Pf.setAll σ is vs)
  | [], _, _, _, _, h, .nil, _ => h
  | i :: is, _, _, _, _, h, .cons r t, e => Vis.setAll is (h.set r i) t (by simpa using e)
  | [], _, _, _, _, _, .cons _ _, e => by simp at e
  | _ :: _, _, _, _, _, _, .nil, e => by simp at e
theorem gNames_run : ∀ (is : List Nat) {vs : List V} {σ : L2.St} {Q : L2.St → Hp → Prop}, vs.length = is.length → Q (Pf.setAll σ is vs) H → gNames is vs σ H Q
  | [], [], _, _, _, q => ⟨rfl, q⟩
  | i :: is, v :: vs, σ, Q, e, q => ⟨v, vs, rfl, gNames_run is (σ := σ.set i (some v)) (by simpa using e) q⟩
  | [], _ :: _, _, _, e, _ => by simp at e
  | _ :: _, [], _, _, e, _ => by simp at e
theorem gComps_run (ex : Ex W H) : ∀ (ps : List (Nat ⊕ List Nat)) {ds : List D} {vs : List V} {ρ ρ' : Rho} {σ σ0 : L2.St} {Q : L2.St → Hp → Prop}, Vis K ρ W σ → RepAll K W ds vs → setC id ps ds ρ = some ρ' →
    (∀ σ', Vis K ρ' W σ' → (∀ j, j ∉ slotsC ps → σ'[j]? = σ[j]?) → Q σ' H) → gComps K ps vs σ H Q
  | [], _, _, ρ, ρ', σ, _, Q, h, .nil, hs, q => by cases hs; exact ⟨rfl, q σ h fun _ _ => rfl⟩
  | [], _, _, ρ, ρ', σ, _, Q, h, .cons _ _, hs, q => by cases hs
  | .inl i :: ps, _, _, ρ, ρ', σ, σ0, Q, h, .nil, hs, q => by cases hs
  | .inr is :: ps, _, _, ρ, ρ', σ, σ0, Q, h, .nil, hs, q => by cases hs
  | .inl i :: ps, _, v :: vs, ρ, ρ', σ, σ0, Q, h, .cons r t, hs, q => ⟨v, vs, rfl, gComps_run ex ps (σ0 := σ0) (h.set r i) t hs fun σ' h' ho => q σ' h' fun j hj => by
      have h1 : ¬ (j = i ∨ j ∈ slotsC ps) := fun z => hj (List.mem_cons.mpr z)
      rw [ho j fun z => h1 (.inr z), List.getElem?_set_ne fun z => h1 (.inl z.symm)]⟩
  | .inr is :: ps, d :: ds, v :: vs, ρ, ρ', σ, σ0, Q, h, .cons r t, hs, q => by
    cases r with
    | @tup a us es h1 k =>
      simp only [setC] at hs
      split at hs
      · rename_i hl
        rw [List.map_id] at hs
        refine ⟨_, vs, rfl, a, us, rfl, Evl.ex_t ex h1, by rw [← k.length]; exact hl, gNames_run is (by rw [← k.length]; exact hl) ?_⟩
        refine gComps_run ex ps (σ0 := σ0) (h.setAll is k hl) t hs fun σ' h' ho => q σ' h' fun j hj => ?_
        have h2 : ¬ (j ∈ is ∨ j ∈ slotsC ps) := fun z => hj (List.mem_append.mpr z)
        rw [ho j fun z => h2 (.inr z)]
        exact setAll_out is _ σ j fun z => h2 (.inl z)
      · cases hs
    | _ => cases hs
theorem Pat.run {pat : Pat} (h : Vis K ρ W σ) (ex : Ex W H) (r : Rep K W d v) (hs : pat.set d ρ = some ρ') {Q : L2.St → Hp → Prop}
    (q : ∀ σ', Vis K ρ' W σ' → (∀ j, j ∉ pat.slots → σ'[j]? = σ[j]?) → Q σ' H) : pat.g K v σ H Q := by
  cases pat with
  | nm i =>
    cases hs
    exact q _ (h.set r i) fun j hj => List.getElem?_set_ne (by intro e; subst e; exact hj (List.mem_singleton.mpr rfl))
  | tp is =>
    cases r with
    | tup h1 k =>
      simp only [Pat.set] at hs
      split at hs
      · rename_i hl
        cases hs
        refine ⟨_, _, rfl, Evl.ex_t ex h1, by rw [← k.length]; exact hl, gNames_run is (by rw [← k.length]; exact hl) ?_⟩
        exact q _ (h.setAll is k hl) fun j hj => setAll_out is _ σ j hj
      · cases hs
    | _ => cases hs
  | tn ps =>
    cases r with
    | tup h1 k =>
      have hl : ∀ (ps : List (Nat ⊕ List Nat)) (ds : List D) (ρ ρ' : Rho), setC id ps ds ρ = some ρ' → ds.length = ps.length := fun ps => by
        induction ps with
        | nil => intro ds ρ ρ' h; cases ds with
          | nil => rfl
          | cons _ _ => cases h
        | cons p ps ih =>
          intro ds ρ ρ' h
          cases ds with
          | nil => cases p <;> cases h
          | cons d ds =>
            cases p with
            | inl i => exact congrArg (· + 1) (ih ds _ _ h)
            | inr is =>
              cases d <;> simp only [setC] at h <;> first | cases h | skip
              split at h
              · exact congrArg (· + 1) (ih ds _ _ h)
              · cases h
      exact ⟨_, _, rfl, Evl.ex_t ex h1, by rw [← k.length]; exact hl _ _ _ _ hs, gComps_run ex ps (σ0 := σ) h k hs q⟩
    | _ => cases hs
end
theorem wipe_get (σ : L2.St) : ∀ (vs : List Nat) (j : Nat), (wipe σ vs)[j]? = if j ∈ vs ∧ j < σ.length then some none else σ[j]?
  | [], j => by simp [wipe]
  | v :: vs, j => by
    unfold wipe
    by_cases e : v = j
    · subst e
      by_cases hl : v < σ.length
      · rw [List.getElem?_set_self (by rw [wipe_length]; exact hl), if_pos ⟨List.mem_cons_self, hl⟩]
      · rw [List.getElem?_eq_none (by rw [List.length_set, wipe_length]; omega), if_neg (fun z => hl z.2), List.getElem?_eq_none (by omega)]
    · rw [List.getElem?_set_ne e, wipe_get σ vs j]
      have : (j ∈ v :: vs) ↔ j ∈ vs := by rw [List.mem_cons]; exact ⟨fun h => h.resolve_left (fun z => e z.symm), .inr⟩
      simp only [this]
theorem wipe_eq {σ τ : L2.St} {vs is : List Nat} (hl : σ.length = τ.length) (hs : ∀ i ∈ is, i ∈ vs) (h : ∀ j, j ∉ is → τ[j]? = (wipe σ vs)[j]?) : wipe τ vs = wipe σ vs := by
  apply List.ext_getElem?
  intro j
  rw [wipe_get τ vs j, wipe_get σ vs j, hl]
  by_cases hj : j ∈ vs ∧ j < τ.length
  · rw [if_pos hj, if_pos hj]
  · rw [if_neg hj, if_neg hj]
    by_cases hi : j ∈ is
    · have : ¬ j < τ.length := fun z => hj ⟨hs j hi, z⟩
      rw [List.getElem?_eq_none (by omega), List.getElem?_eq_none (by omega)]
    · rw [h j hi, wipe_get, hl, if_neg hj]
def wipeR (ρ : Rho) : List Nat → Rho
  | [] => ρ
  | v :: vs => (wipeR ρ vs).set v none
theorem Vis.wipe {K : PySem.W.Frag} {ρ : Rho} {W : Hp} {σ : L2.St} (h : Vis K ρ W σ) : ∀ vs, Vis K (wipeR ρ vs) W (L2.wipe σ vs)
  | [] => h
  | v :: vs => by
    have ih := Vis.wipe h vs
    refine ⟨by unfold wipeR L2.wipe; rw [List.length_set, List.length_set, ih.len], fun j e q => ?_⟩
    unfold wipeR at q
    unfold L2.wipe
    by_cases hj : v = j
    · subst hj
      by_cases hi : v < (wipeR ρ vs).length
      · rw [List.getElem?_set_self hi] at q; cases q
      · rw [List.getElem?_eq_none (by rw [List.length_set]; omega)] at q; cases q
    · rw [List.getElem?_set_ne hj] at q ⊢
      exact ih.at_ j e q
def wTs (X : Cx) (ifs : List Expr) : TT := fun σ H Q => ∀ (pins : List (Addr × Obj)) (s : Shared), Inv X pins σ H s →
  wpAny (model X.prog X.w) X.A (forIn ifs true fun c r => if r = true then do let ok ← isTrue c X.env (eval c X.env); pure (ForInStep.yield ok) else pure (ForInStep.yield r)) (TP X pins σ Q) X.xe s
theorem wTs.of {X : Cx} {ifs : List Expr} {t : TT} (h : PTs X ifs t) {σ : L2.St} {H : Hp} {Q : Bool → Hp → Prop} (q : t σ H Q) : wTs X ifs σ H Q := fun pins s I => h.run pins s σ H Q I q
structure JTs (X : Cx) (ifs : List Expr) (ρ : Rho) (b : Bool) : Prop where
  run : ∀ W σ H, Ex W H → Vis X.K ρ W σ → ∀ Q : Bool → Hp → Prop, GoodT W H b Q → wTs X ifs σ H Q
instance {X : Cx} {ifs : List Expr} {ρ : Rho} {b : Bool} : CoeFun (JTs X ifs ρ b) (fun _ => ∀ W σ H, Ex W H → Vis X.K ρ W σ → ∀ Q : Bool → Hp → Prop, GoodT W H b Q → wTs X ifs σ H Q) := ⟨JTs.run⟩
theorem jts_nil {X : Cx} {ρ : Rho} : JTs X [] ρ true := ⟨fun W σ H ex hV Q g => .of pts_nil (g.now ex)⟩
/-- a block's context -/
abbrev blkX (X : Cx) (scope : Scope) (s : Shared) (H : Hp) (C : Addr) (cl : List (Str × Addr)) (fp : List Addr) : Cx := X.blk s H scope (compEnvC scope cl C X.env) fp
section
variable {X : Cx} {elt tg iter : Expr} {ifs : List Expr} {scope : Scope} {own : List (Str × Nat)} {pos : Pos} {ρ : Rho} {its : List (D × Option D)} {pat : Pat}
/-- what one turn of a comprehension does with the item d -/
def LcTurn (X : Cx) (scope : Scope) (pat : Pat) (elt : Expr) (ifs : List Expr) (ρ : Rho) (d : D) (y : Option D) : Prop :=
  ∃ ρ', pat.set d ρ = some ρ' ∧ ∀ s H C cl fp, match y with
    | none => JTs (blkX X scope s H C cl fp) ifs ρ' false
    | some y => JTs (blkX X scope s H C cl fp) ifs ρ' true ∧ J (blkX X scope s H C cl fp) elt ρ' y
/-- the reading of a comprehension, as it is used for a value and for a stored one. D: the new list -/
theorem lc_readAt {W H : Hp} {σ : L2.St} (hi : ∀ R : It → Hp → Prop, (∀ J W1 H1, Step W H W1 H1 → Walks X.K J W1 (its.map (·.1)) → R J H1) → wI X tg iter σ H R) (hown : ∀ i ∈ pat.slots, i ∈ own.map (·.2)) (hlen : its.length < sizeLine)
    (turn : ∀ q ∈ its, LcTurn X scope pat elt ifs (wipeR ρ (own.map (·.2))) q.1 q.2) (ex : Ex W H) (hV : Vis X.K ρ W σ) {Q : VK}
    (g : ∀ (Dn : Addr) (W' H' : Hp) (vs : List V), Step W H W' H' → H Dn = none → W' Dn = none → H' Dn = some (.lst vs) → RepAll X.K W' (its.filterMap (·.2)) vs → Q (.ref Dn) H') :
    tLc (wI X tg iter) (pat.g X.K) (fun σ H Q => ∀ s H0 C cl fp, wTs (blkX X scope s H0 C cl fp) ifs σ H Q) (fun σ H Q => ∀ s H0 C cl fp, wE (blkX X scope s H0 C cl fp) elt σ H Q) (own.map (·.2)) σ H Q := by
  refine hi _ fun Jt W1 H1 s1 wk => ?_
  intro Dn hD
  have hW1 : W1 Dn = none := Evl.fresh_back s1.wh hD
  refine ⟨fun i m H2 => m = its.length - i ∧ i ≤ its.length ∧ ∃ W2 vs, Step W1 H1 W2 H2 ∧ W2 Dn = none ∧ H2 Dn = some (.lst vs) ∧ RepAll X.K W2 ((its.take i).filterMap (·.2)) vs, ⟨_, rfl, Nat.zero_le _, W1, [], .newH s1.wh hD, hW1, upd_same, .nil⟩, ?_⟩
  rintro i m H2 ⟨rfl, hil, W2, vs, s2, hW2, hH2, rv⟩
  by_cases hlt : i < its.length
  · refine .inr ⟨wk.go i H2 (s2.ww.trans s2.wh) (by rw [List.length_map]; exact hlt), _, fun H' z => ⟨_, (by omega : its.length - (i + 1) < its.length - i), rfl, hlt, z⟩, fun x H3 hy => ?_⟩
    obtain ⟨⟨d, fd⟩, hd⟩ : ∃ d, its[i]? = some d := ⟨its[i], by simp [hlt]⟩
    obtain ⟨W3, s3, rx⟩ := wk.yld i H2 x H3 d (s2.ww.trans s2.wh) (by rw [List.getElem?_map, hd]; rfl) hy W2 s2.ww s2.wh
    obtain ⟨ρ', hset, ht⟩ := turn _ (List.mem_of_getElem? hd)
    have hV3 : Vis X.K ρ W3 σ := hV.mono ((s1.trans s2).trans s3).ww
    have hW3 : W3 Dn = none := by
      cases q : W3 Dn with
      | none => rfl
      | some o =>
        have := s3.fr Dn (by rw [q]; simp) hW2
        rw [hH2] at this; cases this
    have hH3 : H3 Dn = some (.lst vs) := s3.hh _ _ hH2
    have tk : its.take (i + 1) = its.take i ++ [(d, fd)] := by
      rw [List.take_add_one, hd]; rfl
    refine Pat.run (hV3.wipe _) s3.wh rx hset fun σ2 hV4 ho => ⟨wipe_eq (by rw [← hV4.len, ← hV3.len, Pat.set_length hset]; have := (hV3.wipe (own.map (·.2))).len; rw [wipe_length, ← hV3.len] at this; exact this.symm) hown ho, ?_⟩
    cases fd with
    | none =>
      dsimp only at ht
      refine fun s H0 C cl fp => ht s H0 C cl fp W3 σ2 H3 s3.wh hV4 _ fun W4 H4 s4 => ?_
      rw [if_neg Bool.false_ne_true]
      have hH4 := s4.hh _ _ hH3
      refine ⟨W4, vs, (s2.trans s3).trans s4, ?_, hH4, ?_⟩
      · cases q : W4 Dn with
        | none => rfl
        | some o => have := s4.fr Dn (by rw [q]; simp) hW3; rw [hH3] at this; cases this
      · rw [tk, List.filterMap_append]
        simp only [List.filterMap_cons, List.filterMap_nil, List.append_nil]
        exact rv.mono (s3.trans s4).ww
    | some y =>
      dsimp only at ht
      refine fun s H0 C cl fp => (ht s H0 C cl fp).1 W3 σ2 H3 s3.wh hV4 _ fun W4 H4 s4 => ?_
      rw [if_pos rfl]
      refine fun s' H0' C' cl' fp' => (ht s' H0' C' cl' fp').2 W4 σ2 H4 s4.wh (hV4.mono s4.ww) _ fun v W5 H5 s5 r5 => ?_
      have s35 := s4.trans s5
      have hH5 := s35.hh _ _ hH3
      have hW5 : W5 Dn = none := by
        cases q : W5 Dn with
        | none => rfl
        | some o => have := s35.fr Dn (by rw [q]; simp) hW3; rw [hH3] at this; cases this
      have hvl : vs.length ≤ i := by
        rw [← rv.length]
        exact Nat.le_trans (List.length_filterMap_le _ _) (by rw [List.length_take]; omega)
      refine ⟨vs, hH5, by omega, W5, vs ++ [v], ?_, hW5, upd_same, ?_⟩
      · have s25 := (s2.trans s3).trans s35
        refine ⟨s25.ww, fun a o h => ?_, fun a o h => ?_, s25.fr⟩
        · rw [upd_ne (ne_of_none h hW5)]; exact s25.wh a o h
        · rw [upd_ne (ne_of_none h hD)]; exact s25.hh a o h
      · rw [tk, List.filterMap_append]
        simp only [List.filterMap_cons, List.filterMap_nil]
        exact (rv.mono (s3.trans s35).ww).append (.cons r5 .nil)
  · have e : i = its.length := by omega
    subst e
    refine .inl ⟨by have := wk.stop H2 (s2.ww.trans s2.wh); rwa [List.length_map] at this, g Dn W2 H2 vs (s1.trans s2) (Evl.fresh_back s1.hh hD) hW2 hH2 ?_⟩
    rw [List.take_length] at rv
    exact rv
theorem lc_read (hi : JI X tg iter ρ (its.map (·.1))) (hown : ∀ i ∈ pat.slots, i ∈ own.map (·.2)) (hlen : its.length < sizeLine)
    (turn : ∀ q ∈ its, LcTurn X scope pat elt ifs (wipeR ρ (own.map (·.2))) q.1 q.2) {W H : Hp} {σ : L2.St} (ex : Ex W H) (hV : Vis X.K ρ W σ) {Q : VK}
    (g : ∀ (Dn : Addr) (W' H' : Hp) (vs : List V), Step W H W' H' → H Dn = none → W' Dn = none → H' Dn = some (.lst vs) → RepAll X.K W' (its.filterMap (·.2)) vs → Q (.ref Dn) H') :
    tLc (wI X tg iter) (pat.g X.K) (fun σ H Q => ∀ s H0 C cl fp, wTs (blkX X scope s H0 C cl fp) ifs σ H Q) (fun σ H Q => ∀ s H0 C cl fp, wE (blkX X scope s H0 C cl fp) elt σ H Q) (own.map (·.2)) σ H Q := lc_readAt (fun R k => hi W σ H ex hV R k) hown hlen turn ex hV g
theorem Step.show' {W H W' H' : Hp} {p : Addr} {o : HO} (s : Step W H W' H') (hp : H p = none) (hw : W' p = none) (hh : H' p = some o) : Step W H (upd W' p o) H' :=
  ⟨fun a u h => by rw [upd_ne (ne_of_none (s.ww a u h) hw)]; exact s.ww a u h, fun a u h => by
    by_cases ha : a = p
    · subst ha; rw [upd_same] at h; cases h; exact hh
    · rw [upd_ne ha] at h; exact s.wh a u h, s.hh, fun b h1 h2 => by
    by_cases ha : b = p
    · subst ha; exact hp
    · rw [upd_ne ha] at h1; exact s.fr b h1 h2⟩
theorem j_lc (hi : JI X tg iter ρ (its.map (·.1))) (ok : BlkOk X.N X.env.scope scope own) (hg : ∀ s H C cl fp, PG (blkX X scope s H C cl fp) tg (pat.g X.K)) (hown : ∀ i ∈ pat.slots, i ∈ own.map (·.2)) (hlen : its.length < sizeLine)
    (turn : ∀ q ∈ its, LcTurn X scope pat elt ifs (wipeR ρ (own.map (·.2))) q.1 q.2) (hN : X.N.Nodup) (hc : X.calm = true := by rfl) (hs : ∀ x, foldedSetIterable iter X.env x = pure x := by intro _; rfl) :
    J X (.ListComp elt [⟨tg, iter, ifs, 0⟩] scope pos) ρ (.lst (its.filterMap (·.2))) := ⟨fun W σ H ex hV Q g =>
  .of (pe_lc (tt := fun σ H Q => ∀ s H0 C cl fp, wTs (blkX X scope s H0 C cl fp) ifs σ H Q) (te := fun σ H Q => ∀ s H0 C cl fp, wE (blkX X scope s H0 C cl fp) elt σ H Q) hc hN pi_w ok hg
    (fun s H0 C cl fp => ⟨fun pins s' σ' H' Q' I h => h s H0 C cl fp pins s' I⟩) (fun s H0 C cl fp => ⟨fun pins s' σ' H' Q' I h => h s H0 C cl fp pins s' I⟩) hs)
    (lc_read hi hown hlen turn ex hV fun Dn W' H' vs s hD hW hH rv => g _ _ _ (s.show' hD hW hH) (.lst upd_same (rv.mono fun a u h => by rw [upd_ne (ne_of_none h hW)]; exact h)))⟩
theorem sel_filter {α : Type} (g : α → D) (p : α → Bool) (h : α → D) : ∀ xs : List α, (xs.map fun x => (g x, if p x = true then some (h x) else none)).filterMap (·.2) = (xs.filter p).map h
  | [] => rfl
  | x :: xs => by
    rw [List.map_cons, List.filterMap_cons]
    by_cases q : p x = true
    · rw [List.filter_cons_of_pos q]; simp only [q, if_true]; rw [List.map_cons, sel_filter g p h xs]
    · rw [List.filter_cons_of_neg q]; simp only [if_neg q]; rw [sel_filter g p h xs]
/-- over the items of a kind, by a name: those that p holds of, each as h -/
theorem lcN_turn {α : Type} {i : Nat} {xs : List α} {g : α → D} {p : α → Bool} {h : α → D}
    (turn : ∀ x ∈ xs, ∀ s H C cl fp, JTs (blkX X scope s H C cl fp) ifs ((wipeR ρ (own.map (·.2))).set i (some (g x))) (p x) ∧ (p x = true → J (blkX X scope s H C cl fp) elt ((wipeR ρ (own.map (·.2))).set i (some (g x))) (h x))) :
    ∀ q ∈ xs.map fun x => (g x, if p x = true then some (h x) else none), LcTurn X scope (.nm i) elt ifs (wipeR ρ (own.map (·.2))) q.1 q.2 := by
  intro q hq
  obtain ⟨x, hx, rfl⟩ := List.mem_map.mp hq
  refine ⟨_, rfl, fun s H C cl fp => ?_⟩
  have t := turn x hx s H C cl fp
  by_cases e : p x = true
  · simp only [e, if_true]; rw [e] at t; exact ⟨t.1, t.2 rfl⟩
  · simp only [if_neg e]
    have e' : p x = false := by simpa using e
    rw [e'] at t; exact t.1
theorem j_lcN {α : Type} {i : Nat} (xs : List α) (g : α → D) (p : α → Bool) (h : α → D) (hi : JI X tg iter ρ (xs.map g)) (ok : BlkOk X.N X.env.scope scope own) (hg : ∀ s H C cl fp, PG (blkX X scope s H C cl fp) tg (gName i)) (hlen : xs.length < sizeLine)
    (turn : ∀ x ∈ xs, ∀ s H C cl fp, JTs (blkX X scope s H C cl fp) ifs ((wipeR ρ (own.map (·.2))).set i (some (g x))) (p x) ∧ (p x = true → J (blkX X scope s H C cl fp) elt ((wipeR ρ (own.map (·.2))).set i (some (g x))) (h x))) (hN : X.N.Nodup) (hown : i ∈ own.map (·.2) := by decide) (hc : X.calm = true := by rfl) (hs : ∀ x, foldedSetIterable iter X.env x = pure x := by intro _; rfl) :
    J X (.ListComp elt [⟨tg, iter, ifs, 0⟩] scope pos) ρ (.lst ((xs.filter p).map h)) := by
  rw [← sel_filter g p h xs]
  refine j_lc (pat := .nm i) (by rw [List.map_map]; exact hi) ok hg (fun j hj => (List.mem_singleton.mp hj : j = i) ▸ hown) (by rw [List.length_map]; exact hlen) (lcN_turn turn) hN hc hs
end
end Pf

namespace Pf
open PySem L2
open Evl (Ex)

/-- lists and dicts in the fields of an own object are its own, and what a journal keeps of its past -/
def mutD : D → Bool
  | .lst _ => true
  | .dct _ => true
  | .ins _ ((n, _) :: _) => decide (n = "is_blank")
  | _ => false
def isI : D → Bool
  | .int _ => true
  | _ => false
/-- meters stand in own lists as own objects (their first field is the limit), and lists of numbers stand in own dicts as own lists -/
def insM : D → Bool
  | .ins _ ((n, _) :: _) => decide (n = "limit")
  | .lst ds => ds.all isI
  | _ => false
def NoM (ds : List D) : Prop := ∀ d ∈ ds, insM d = false
theorem NoM.nil : NoM [] := fun _ h => by cases h
theorem NoM.cons {d : D} {ds : List D} (h : insM d = false) (t : NoM ds) : NoM (d :: ds) := fun x hx => by
  rcases List.mem_cons.mp hx with z | z
  · rw [z]; exact h
  · exact t x z
theorem NoM.app {ds es : List D} (h : NoM ds) (t : NoM es) : NoM (ds ++ es) := fun x hx => by
  rcases List.mem_append.mp hx with z | z
  · exact h x z
  · exact t x z
theorem NoM.map {α : Type} {f : α → D} {xs : List α} (h : ∀ x, insM (f x) = false) : NoM (xs.map f) := fun d hd => by
  obtain ⟨x, _, rfl⟩ := List.mem_map.mp hd
  exact h x
theorem NoM.fm {α : Type} {p : α → Bool} {g : α → D} {f : α → D} {xs : List α} (h : ∀ x, insM (f x) = false) : NoM ((xs.map fun x => (g x, if p x = true then some (f x) else none)).filterMap (·.2)) := fun d hd => by
  obtain ⟨⟨a, b⟩, h1, h2⟩ := List.mem_filterMap.mp hd
  obtain ⟨x, _, e⟩ := List.mem_map.mp h1
  simp only [Prod.mk.injEq] at e
  obtain ⟨_, e⟩ := e
  have h2 : b = some d := h2
  rw [h2] at e
  split at e
  · cases e; exact h x
  · cases e
theorem NoM.sub {ds es : List D} (h : NoM es) (s : ∀ d ∈ ds, d ∈ es) : NoM ds := fun d hd => h d (s d hd)
mutual
inductive Own (K : PySem.W.Frag) (Hf H : Hp) : D → V → List Addr → Prop
  | fz {d : D} {v : V} : Rep K Hf d v → Own K Hf H d v []
  | lst {a : Addr} {vs : List V} {ds : List D} {A : List Addr} : H a = some (.lst vs) → OwnAll K Hf H ds vs A → a ∉ A → Own K Hf H (.lst ds) (.ref a) (a :: A)
  | dct {a : Addr} {kvs : List (Key × V)} {kds : List (Key × D)} {A : List Addr} : H a = some (.dK kvs) → kvs.map (·.1) = kds.map (·.1) → OwnAll K Hf H (kds.map (·.2)) (kvs.map (·.2)) A → a ∉ A → Own K Hf H (.dct kds) (.ref a) (a :: A)
  | ins {a C dx : Addr} {fs : List (Str × V)} {fds : List (Str × D)} {A : List Addr} : H a = some (.ins C dx fs) → fs.map (·.1) = fds.map (·.1) → OwnFs K Hf H (fds.map (·.2)) (fs.map (·.2)) A → a ∉ A → Own K Hf H (.ins C fds) (.ref a) (a :: A)
inductive OwnAll (K : PySem.W.Frag) (Hf H : Hp) : List D → List V → List Addr → Prop
  | nil : OwnAll K Hf H [] [] []
  | cons {d : D} {v : V} {ds : List D} {vs : List V} {A B : List Addr} : Own K Hf H d v A → OwnAll K Hf H ds vs B → (∀ a ∈ A, a ∉ B) → (insM d = true → A ≠ []) → OwnAll K Hf H (d :: ds) (v :: vs) (A ++ B)
inductive OwnFs (K : PySem.W.Frag) (Hf H : Hp) : List D → List V → List Addr → Prop
  | nil : OwnFs K Hf H [] [] []
  | cons {d : D} {v : V} {ds : List D} {vs : List V} {A B : List Addr} : Own K Hf H d v A → OwnFs K Hf H ds vs B → (∀ a ∈ A, a ∉ B) → (mutD d = true → A ≠ []) → OwnFs K Hf H (d :: ds) (v :: vs) (A ++ B)
end
section
variable {K : PySem.W.Frag} {Hf H Hf' H' W : Hp}
/-- the heap may change elsewhere -/
theorem Own.move {d : D} {v : V} {A : List Addr} (h : Own K Hf H d v A) : Ex Hf Hf' → (∀ a ∈ A, H' a = H a) → Own K Hf' H' d v A := by
  refine Own.rec (motive_1 := fun d v A _ => Ex Hf Hf' → (∀ a ∈ A, H' a = H a) → Own K Hf' H' d v A) (motive_2 := fun ds vs A _ => Ex Hf Hf' → (∀ a ∈ A, H' a = H a) → OwnAll K Hf' H' ds vs A) (motive_3 := fun ds vs A _ => Ex Hf Hf' → (∀ a ∈ A, H' a = H a) → OwnFs K Hf' H' ds vs A) ?_ ?_ ?_ ?_ ?_ ?_ ?_ ?_ h
  · exact fun r e _ => .fz (r.mono e)
  · exact fun h1 _ n ih e k => .lst (by rw [k _ List.mem_cons_self]; exact h1) (ih e fun a ha => k a (List.mem_cons_of_mem _ ha)) n
  · exact fun h1 q _ n ih e k => .dct (by rw [k _ List.mem_cons_self]; exact h1) q (ih e fun a ha => k a (List.mem_cons_of_mem _ ha)) n
  · exact fun h1 q _ n ih e k => .ins (by rw [k _ List.mem_cons_self]; exact h1) q (ih e fun a ha => k a (List.mem_cons_of_mem _ ha)) n
  · exact fun _ _ => .nil
  · exact fun _ _ n w i1 i2 e k => .cons (i1 e fun a ha => k a (List.mem_append_left _ ha)) (i2 e fun a ha => k a (List.mem_append_right _ ha)) n w
  · exact fun _ _ => .nil
  · exact fun _ _ n w i1 i2 e k => .cons (i1 e fun a ha => k a (List.mem_append_left _ ha)) (i2 e fun a ha => k a (List.mem_append_right _ ha)) n w
/-- read in a heap that has all of it -/
theorem Own.rep {d : D} {v : V} {A : List Addr} (h : Own K Hf H d v A) : Ex Hf W → (∀ a ∈ A, W a = H a) → Rep K W d v := by
  refine Own.rec (motive_1 := fun d v A _ => Ex Hf W → (∀ a ∈ A, W a = H a) → Rep K W d v) (motive_2 := fun ds vs A _ => Ex Hf W → (∀ a ∈ A, W a = H a) → RepAll K W ds vs) (motive_3 := fun ds vs A _ => Ex Hf W → (∀ a ∈ A, W a = H a) → RepAll K W ds vs) ?_ ?_ ?_ ?_ ?_ ?_ ?_ ?_ h
  · exact fun r e _ => r.mono e
  · exact fun h1 _ n ih e k => .lst (by rw [k _ List.mem_cons_self]; exact h1) (ih e fun a ha => k a (List.mem_cons_of_mem _ ha))
  · exact fun h1 q _ n ih e k => .dct (by rw [k _ List.mem_cons_self]; exact h1) q (ih e fun a ha => k a (List.mem_cons_of_mem _ ha))
  · exact fun h1 q _ n ih e k => .ins (by rw [k _ List.mem_cons_self]; exact h1) q (ih e fun a ha => k a (List.mem_cons_of_mem _ ha))
  · exact fun _ _ => .nil
  · exact fun _ _ n w i1 i2 e k => .cons (i1 e fun a ha => k a (List.mem_append_left _ ha)) (i2 e fun a ha => k a (List.mem_append_right _ ha))
  · exact fun _ _ => .nil
  · exact fun _ _ n w i1 i2 e k => .cons (i1 e fun a ha => k a (List.mem_append_left _ ha)) (i2 e fun a ha => k a (List.mem_append_right _ ha))
theorem OwnAll.fz : ∀ {ds : List D} {vs : List V}, RepAll K Hf ds vs → NoM ds → OwnAll K Hf H ds vs []
  | _, _, .nil, _ => .nil
  | _, _, .cons r t, n => .cons (A := []) (B := []) (.fz r) (OwnAll.fz t fun d hd => n d (List.mem_cons_of_mem _ hd)) (fun _ h => absurd h (by simp)) (fun h => by rw [n _ List.mem_cons_self] at h; cases h)
theorem OwnAll.append : ∀ {ds es : List D} {vs us : List V} {A B : List Addr}, OwnAll K Hf H ds vs A → OwnAll K Hf H es us B → (∀ a ∈ A, a ∉ B) → OwnAll K Hf H (ds ++ es) (vs ++ us) (A ++ B)
  | _, _, _, _, _, _, .nil, s, _ => s
  | _, _, _, _, _, _, .cons (A := A1) (B := B1) r t n w, s, h => by
    rw [List.append_assoc]
    refine .cons r (OwnAll.append t s fun a ha => h a (List.mem_append_right _ ha)) (fun a ha hb => ?_) w
    rcases List.mem_append.mp hb with q | q
    · exact n a ha q
    · exact h a (List.mem_append_left _ ha) q
theorem OwnAll.length : ∀ {ds : List D} {vs : List V} {A : List Addr}, OwnAll K Hf H ds vs A → ds.length = vs.length
  | _, _, _, .nil => rfl
  | _, _, _, .cons _ b _ _ => congrArg (· + 1) (OwnAll.length b)
end

inductive SV where
  | fz (d : D) | ow (d : D)
def SV.d : SV → D
  | .fz d => d
  | .ow d => d
abbrev RhoS := List (Option SV)
def SV.fzD : SV → Option D
  | .fz d => some d
  | .ow _ => none
def fzR (ρ : RhoS) : Rho := ρ.map fun o => o.bind SV.fzD
def allR (ρ : RhoS) : Rho := ρ.map fun o => o.map SV.d
/-- the entry of the def: its frozen heap, its heap, what may be changed of it, where the own arguments stand -/
structure Ent where
  W0 : Hp
  H0 : Hp
  M : Addr → Prop
  pa : Nat → Option Addr
structure StAt (K : PySem.W.Frag) (E : Ent) (ρ : RhoS) (σ : L2.St) (H Hf : Hp) (A : Nat → List Addr) : Prop where
  len : ρ.length = σ.length
  w0 : Ex E.W0 Hf
  fh : Ex Hf H
  fr : Fr E.W0 Hf E.H0
  hh : ∀ b o, E.H0 b = some o → ¬ E.M b → H b = some o
  kp : ∀ b, H b = none → E.H0 b = none
  sl : ∀ (i : Nat) (sv : SV), ρ[i]? = some (some sv) → ∃ v, σ[i]? = some (some v) ∧ match sv with
    | .fz d => Rep K Hf d v
    | .ow d => Own K Hf H d v (A i) ∧ A i ≠ []
  ap : ∀ i a, a ∈ A i → Hf a = none ∧ H a ≠ none ∧ (E.H0 a = none ∨ (E.M a ∧ E.pa i ≠ none))
  dj : ∀ i j a, a ∈ A i → a ∈ A j → i = j
  pn : ∀ i a, E.pa i = some a → σ[i]? = some (some (.ref a))
def StOk (K : PySem.W.Frag) (E : Ent) (ρ : RhoS) (σ : L2.St) (H : Hp) : Prop := ∃ Hf A, StAt K E ρ σ H Hf A
section
variable {K : PySem.W.Frag} {E : Ent} {ρ : RhoS} {σ : L2.St} {H Hf W' H' : Hp} {A : Nat → List Addr}
theorem fzR_get {i : Nat} {d : D} (h : (fzR ρ)[i]? = some (some d)) : ρ[i]? = some (some (.fz d)) := by
  unfold fzR at h
  rw [List.getElem?_map] at h
  cases e : ρ[i]? with
  | none => rw [e] at h; cases h
  | some o =>
    rw [e] at h
    cases o with
    | none => cases h
    | some sv => cases sv with
      | fz d' => cases h; rfl
      | ow d' => cases h
theorem allR_get {i : Nat} {d : D} (h : (allR ρ)[i]? = some (some d)) : ∃ sv, ρ[i]? = some (some sv) ∧ sv.d = d := by
  unfold allR at h
  rw [List.getElem?_map] at h
  cases e : ρ[i]? with
  | none => rw [e] at h; cases h
  | some o =>
    rw [e] at h
    cases o with
    | none => cases h
    | some sv => cases h; exact ⟨sv, rfl, rfl⟩
theorem StAt.vis (s : StAt K E ρ σ H Hf A) : Vis K (fzR ρ) Hf σ := ⟨by unfold fzR; rw [List.length_map]; exact s.len, fun i d h => s.sl i _ (fzR_get h)⟩
theorem StAt.visH (s : StAt K E ρ σ H Hf A) : Vis K (allR ρ) H σ := ⟨by unfold allR; rw [List.length_map]; exact s.len, fun i d h => by
  obtain ⟨sv, h1, h2⟩ := allR_get h
  obtain ⟨v, e1, e2⟩ := s.sl i sv h1
  refine ⟨v, e1, ?_⟩
  cases sv with
  | fz d' => cases h2; exact Rep.mono s.fh e2
  | ow d' => cases h2; exact Own.rep e2.1 s.fh fun _ _ => rfl⟩
/-- behind an expression's reading that ran from the frozen heap -/
theorem StAt.step (s : StAt K E ρ σ H Hf A) (t : Step Hf H W' H') : StAt K E ρ σ H' W' A where
  len := s.len
  w0 := s.w0.trans t.ww
  fh := t.wh
  fr := fun b h1 h2 => by
    by_cases e : Hf b = none
    · exact s.kp b (t.fr b h1 e)
    · exact s.fr b e h2
  hh := fun b o h1 h2 => t.hh _ _ (s.hh b o h1 h2)
  kp := fun b h => s.kp b (Evl.fresh_back t.hh h)
  sl := fun i sv h => by
    obtain ⟨v, e1, e2⟩ := s.sl i sv h
    refine ⟨v, e1, ?_⟩
    cases sv with
    | fz d => exact Rep.mono t.ww e2
    | ow d =>
      refine ⟨Own.move e2.1 t.ww fun a ha => ?_, e2.2⟩
      have h2 := (s.ap i a ha).2.1
      cases q : H a with
      | none => exact absurd q h2
      | some o => exact t.hh _ _ q
  ap := fun i a ha => by
    obtain ⟨h1, h2, h3⟩ := s.ap i a ha
    refine ⟨?_, fun z => h2 (Evl.fresh_back t.hh z), h3⟩
    cases q : W' a with
    | none => rfl
    | some o => exact absurd (t.fr a (by rw [q]; simp) h1) h2
  dj := s.dj
  pn := s.pn
/-- .. from the whole heap: the frozen heap stays -/
theorem StAt.grow (s : StAt K E ρ σ H Hf A) (t : Ex H H') : StAt K E ρ σ H' Hf A where
  len := s.len
  w0 := s.w0
  fh := s.fh.trans t
  fr := s.fr
  hh := fun b o h1 h2 => t _ _ (s.hh b o h1 h2)
  kp := fun b h => s.kp b (Evl.fresh_back t h)
  sl := fun i sv h => by
    obtain ⟨v, e1, e2⟩ := s.sl i sv h
    refine ⟨v, e1, ?_⟩
    cases sv with
    | fz d => exact e2
    | ow d =>
      refine ⟨Own.move e2.1 (.refl _) fun a ha => ?_, e2.2⟩
      have h2 := (s.ap i a ha).2.1
      cases q : H a with
      | none => exact absurd q h2
      | some o => exact t _ _ q
  ap := fun i a ha => by
    obtain ⟨h1, h2, h3⟩ := s.ap i a ha
    exact ⟨h1, fun z => h2 (Evl.fresh_back t z), h3⟩
  dj := s.dj
  pn := s.pn
/-- a slot is set to a value in the frozen heap -/
theorem StAt.setFz (s : StAt K E ρ σ H Hf A) {i : Nat} {d : D} {v : V} (r : Rep K Hf d v) (hp : E.pa i = none) : StAt K E (ρ.set i (some (.fz d))) (σ.set i (some v)) H Hf (fun j => if j = i then [] else A j) where
  len := by rw [List.length_set, List.length_set]; exact s.len
  w0 := s.w0
  fh := s.fh
  fr := s.fr
  hh := s.hh
  kp := s.kp
  sl := fun j sv h => by
    by_cases hj : i = j
    · subst hj
      by_cases hi : i < ρ.length
      · rw [List.getElem?_set_self hi] at h; cases h
        exact ⟨v, List.getElem?_set_self (by rw [← s.len]; exact hi), r⟩
      · rw [List.getElem?_eq_none (by rw [List.length_set]; omega)] at h; cases h
    · rw [List.getElem?_set_ne hj] at h ⊢
      rw [if_neg (fun z => hj z.symm)]
      exact s.sl j sv h
  ap := fun j a ha => by
    by_cases hj : j = i
    · rw [if_pos hj] at ha; exact absurd ha (by simp)
    · rw [if_neg hj] at ha; exact s.ap j a ha
  dj := fun j k a h1 h2 => by
    by_cases hj : j = i
    · rw [if_pos hj] at h1; exact absurd h1 (by simp)
    · by_cases hk : k = i
      · rw [if_pos hk] at h2; exact absurd h2 (by simp)
      · rw [if_neg hj] at h1; rw [if_neg hk] at h2; exact s.dj j k a h1 h2
  pn := fun j a h => by
    have hj : i ≠ j := fun e => by subst e; rw [hp] at h; cases h
    rw [List.getElem?_set_ne hj]; exact s.pn j a h
/-- a slot is set to a new object of its own -/
theorem StAt.setOw (s : StAt K E ρ σ H Hf A) {i : Nat} {d : D} {v : V} {B : List Addr} (r : Own K Hf H d v B) (hB0 : B ≠ []) (hp : E.pa i = none) (hB : ∀ a ∈ B, Hf a = none ∧ H a ≠ none ∧ E.H0 a = none ∧ ∀ j, a ∉ A j) : StAt K E (ρ.set i (some (.ow d))) (σ.set i (some v)) H Hf (fun j => if j = i then B else A j) where
  len := by rw [List.length_set, List.length_set]; exact s.len
  w0 := s.w0
  fh := s.fh
  fr := s.fr
  hh := s.hh
  kp := s.kp
  sl := fun j sv h => by
    by_cases hj : i = j
    · subst hj
      by_cases hi : i < ρ.length
      · rw [List.getElem?_set_self hi] at h; cases h
        exact ⟨v, List.getElem?_set_self (by rw [← s.len]; exact hi), by dsimp only; rw [if_pos rfl]; exact ⟨r, hB0⟩⟩
      · rw [List.getElem?_eq_none (by rw [List.length_set]; omega)] at h; cases h
    · rw [List.getElem?_set_ne hj] at h ⊢
      rw [if_neg (fun z => hj z.symm)]
      exact s.sl j sv h
  ap := fun j a ha => by
    by_cases hj : j = i
    · rw [if_pos hj] at ha; obtain ⟨h1, h2, h3, _⟩ := hB a ha; exact ⟨h1, h2, .inl h3⟩
    · rw [if_neg hj] at ha; exact s.ap j a ha
  dj := fun j k a h1 h2 => by
    by_cases hj : j = i
    · by_cases hk : k = i
      · rw [hj, hk]
      · rw [if_pos hj] at h1; rw [if_neg hk] at h2; exact absurd h2 ((hB a h1).2.2.2 k)
    · by_cases hk : k = i
      · rw [if_neg hj] at h1; rw [if_pos hk] at h2; exact absurd h1 ((hB a h2).2.2.2 j)
      · rw [if_neg hj] at h1; rw [if_neg hk] at h2; exact s.dj j k a h1 h2
  pn := fun j a h => by
    have hj : i ≠ j := fun e => by subst e; rw [hp] at h; cases h
    rw [List.getElem?_set_ne hj]; exact s.pn j a h
/-- the object of a slot is changed -/
theorem StAt.change (s : StAt K E ρ σ H Hf A) {i : Nat} {d d' : D} {a : Addr} {o : HO} {B : List Addr} (hi : ρ[i]? = some (some (.ow d))) (hv : σ[i]? = some (some (.ref a))) (ha : a ∈ A i) (hB0 : B ≠ []) (hB : ∀ b ∈ B, b ∈ A i)
    (r : Own K Hf (upd H a o) d' (.ref a) B) : StAt K E (ρ.set i (some (.ow d'))) σ (upd H a o) Hf (fun j => if j = i then B else A j) where
  len := by rw [List.length_set]; exact s.len
  w0 := s.w0
  fh := fun b u h => by rw [upd_ne (ne_of_none h (s.ap i a ha).1)]; exact s.fh b u h
  fr := s.fr
  hh := fun b u h1 h2 => by
    have : b ≠ a := fun e => by
      subst e
      rcases (s.ap i b ha).2.2 with q | q
      · rw [h1] at q; cases q
      · exact h2 q.1
    rw [upd_ne this]; exact s.hh b u h1 h2
  kp := fun b h => by
    by_cases e : b = a
    · subst e; rw [upd_same] at h; cases h
    · rw [upd_ne e] at h; exact s.kp b h
  sl := fun j sv h => by
    by_cases hj : i = j
    · subst hj
      have hl : i < ρ.length := (List.getElem?_eq_some_iff.mp hi).1
      rw [List.getElem?_set_self hl] at h; cases h
      exact ⟨_, hv, by dsimp only; rw [if_pos rfl]; exact ⟨r, hB0⟩⟩
    · rw [List.getElem?_set_ne hj] at h
      rw [if_neg (fun z => hj z.symm)]
      obtain ⟨v, e1, e2⟩ := s.sl j sv h
      refine ⟨v, e1, ?_⟩
      cases sv with
      | fz d => exact e2
      | ow d => exact ⟨Own.move e2.1 (.refl _) fun b hb => upd_ne fun e => by subst e; exact hj (s.dj _ _ _ ha hb), e2.2⟩
  ap := fun j b hb => by
    have hu : upd H a o b ≠ none := by
      by_cases e : b = a
      · subst e; rw [upd_same]; simp
      · rw [upd_ne e]
        by_cases hj : j = i
        · rw [if_pos hj] at hb; exact (s.ap i b (hB b hb)).2.1
        · rw [if_neg hj] at hb; exact (s.ap j b hb).2.1
    by_cases hj : j = i
    · rw [if_pos hj] at hb
      obtain ⟨h1, _, h3⟩ := s.ap i b (hB b hb)
      exact ⟨h1, hu, by rw [hj]; exact h3⟩
    · rw [if_neg hj] at hb
      obtain ⟨h1, _, h3⟩ := s.ap j b hb
      exact ⟨h1, hu, h3⟩
  dj := fun j k b h1 h2 => by
    have g : ∀ j, b ∈ (if j = i then B else A j) → b ∈ A j := fun j h => by
      by_cases hj : j = i
      · rw [if_pos hj] at h; rw [hj]; exact hB b h
      · rw [if_neg hj] at h; exact h
    exact s.dj j k b (g j h1) (g k h2)
  pn := s.pn
end

/-- an error: its class, and what its own __init__ wrote -/
structure Er where
  cls : Value
  fs : Option (List (Str × D))
def ErAt (K : PySem.W.Frag) (H : Hp) (er : Er) (d : Option Addr) : Prop := match er.fs with
  | none => d = none
  | some fds => ∃ dd vs, d = some dd ∧ H dd = some (.xd vs) ∧ vs.map (·.1) = fds.map (·.1) ∧ RepAll K (fun _ => none) (fds.map (·.2)) (vs.map (·.2))
inductive Out where
  | nx (ρ : RhoS) | rt (d : D) (ρ : RhoS) | bk (ρ : RhoS) | ct (ρ : RhoS) | ex (er : Er) (ρ : RhoS)
def RtOk (K : PySem.W.Frag) (E : Ent) (d : D) (ρ : RhoS) (v : V) (H : Hp) : Prop := ∃ σ Hf A W', StAt K E ρ σ H Hf A ∧ Ex Hf W' ∧ Ex W' H ∧ Fr E.W0 W' E.H0 ∧ (∀ i a, a ∈ A i → E.pa i ≠ none → W' a = none) ∧ Rep K W' d v
/-- the error er is taken where the names are worth ρ (at H, ahead of the error's making) -/
def ExOk (X : Cx) (E : Ent) (er : Er) (ρ : RhoS) : Prop := ∃ W : L2.WX, L2.Takes X W ∧ ∀ d σ H H', StOk X.K E ρ σ H → Ex H H' → ErAt X.K H' er d → (∀ dd, d = some dd → H dd = none) → W er.cls d σ H'
def OutOk (X : Cx) (E : Ent) (D : Ends) : Out → Prop
  | .nx ρ => ∀ σ H, StOk X.K E ρ σ H → D.nx σ H
  | .rt d ρ => ∀ v H, RtOk X.K E d ρ v H → D.rt v H
  | .bk ρ => ∀ σ H, StOk X.K E ρ σ H → D.bk σ H
  | .ct ρ => ∀ σ H, StOk X.K E ρ σ H → D.ct σ H
  | .ex er ρ => ExOk X E er ρ
def Ent.Pins (E : Ent) (pin : List Nat) : Prop := ∀ i, E.pa i ≠ none ↔ i ∈ pin
structure JS (X : Cx) (pin : List Nat) (st : Stmt) (ρ : RhoS) (Φ : Out → Prop) : Prop where
  run : ∀ (E : Ent) σ H (D : Ends), E.Pins pin → StOk X.K E ρ σ H → (∀ o, Φ o → OutOk X E D o) → wS X st D σ H
instance {X : Cx} {pin : List Nat} {st : Stmt} {ρ : RhoS} {Φ : Out → Prop} : CoeFun (JS X pin st ρ Φ) (fun _ => ∀ (E : Ent) σ H (D : Ends), E.Pins pin → StOk X.K E ρ σ H → (∀ o, Φ o → OutOk X E D o) → wS X st D σ H) := ⟨JS.run⟩
structure JSs (X : Cx) (pin : List Nat) (sts : List Stmt) (ρ : RhoS) (Φ : Out → Prop) : Prop where
  run : ∀ (E : Ent) σ H (D : Ends), E.Pins pin → StOk X.K E ρ σ H → (∀ o, Φ o → OutOk X E D o) → wSs X sts D σ H
instance {X : Cx} {pin : List Nat} {sts : List Stmt} {ρ : RhoS} {Φ : Out → Prop} : CoeFun (JSs X pin sts ρ Φ) (fun _ => ∀ (E : Ent) σ H (D : Ends), E.Pins pin → StOk X.K E ρ σ H → (∀ o, Φ o → OutOk X E D o) → wSs X sts D σ H) := ⟨JSs.run⟩
/-- what must hold behind a statement for the rest -/
def thenSs (X : Cx) (pin : List Nat) (rest : List Stmt) (Φ : Out → Prop) : Out → Prop
  | .nx ρ => JSs X pin rest ρ Φ
  | .rt d ρ => Φ (.rt d ρ)
  | .bk ρ => Φ (.bk ρ)
  | .ct ρ => Φ (.ct ρ)
  | .ex er ρ => Φ (.ex er ρ)
section
variable {X : Cx} {pin : List Nat} {st : Stmt} {rest a b : List Stmt} {ρ : RhoS} {Φ : Out → Prop} {e c : Expr} {d : D} {pos p' : Pos} {i : Nat} {x : Str} {t : Bool}
theorem Ent.Pins.none {E : Ent} (h : E.Pins pin) (hi : i ∉ pin) : E.pa i = none := by
  cases q : E.pa i with
  | none => rfl
  | some a => exact absurd ((h i).mp (by rw [q]; simp)) hi
theorem jss_nil (h : Φ (.nx ρ)) : JSs X pin [] ρ Φ := ⟨fun E σ H D _ s k => .of pss_nil (k _ h σ H s)⟩
theorem jss_cons (h : JS X pin st ρ (thenSs X pin rest Φ)) : JSs X pin (st :: rest) ρ Φ := ⟨fun E σ H D hp s k =>
  .of (pss_cons ps_w pss_w) (h E σ H _ hp s fun o ho => by
    cases o with
    | nx ρ' => exact fun σ' H' s' => JSs.run (show JSs X pin rest ρ' Φ from ho) E σ' H' D hp s' k
    | rt d ρ' => exact k _ ho
    | bk ρ' => exact k _ ho
    | ct ρ' => exact k _ ho
    | ex er ρ' => exact k _ ho)⟩
theorem JS.imp {Ψ : Out → Prop} (h : JS X pin st ρ Ψ) (k : ∀ o, Ψ o → Φ o) : JS X pin st ρ Φ := ⟨fun E σ H D hp s q => h E σ H D hp s fun o ho => q o (k o ho)⟩
theorem JSs.imp {Ψ : Out → Prop} (h : JSs X pin rest ρ Ψ) (k : ∀ o, Ψ o → Φ o) : JSs X pin rest ρ Φ := ⟨fun E σ H D hp s q => h E σ H D hp s fun o ho => q o (k o ho)⟩
theorem js_break (h : Φ (.bk ρ)) : JS X pin (.Break pos) ρ Φ := ⟨fun E σ H D _ s k => .of ps_break (k _ h σ H s)⟩
theorem js_if (hc : JT X c (allR ρ) t) (h1 : t = true → JSs X pin a ρ Φ) (h2 : t = false → JSs X pin b ρ Φ) : JS X pin (.If c a b pos) ρ Φ := ⟨fun E σ H D hp ⟨Hf, A, s⟩ k =>
  .of (ps_if pt_w pss_w pss_w) (hc H σ H (.refl _) s.visH _ fun W' H' st => by
    have s' := s.grow st.hh
    cases t with
    | true => rw [if_pos rfl]; exact h1 rfl E σ H' D hp ⟨Hf, A, s'⟩ k
    | false => rw [if_neg Bool.false_ne_true]; exact h2 rfl E σ H' D hp ⟨Hf, A, s'⟩ k)⟩
/-- the branch is known -/
theorem js_ifT (hc : JT X c (allR ρ) true) (h1 : JSs X pin a ρ Φ) : JS X pin (.If c a b pos) ρ Φ := js_if hc (fun _ => h1) (fun z => Bool.noConfusion z)
theorem js_ifF (hc : JT X c (allR ρ) false) (h1 : JSs X pin b ρ Φ) : JS X pin (.If c a b pos) ρ Φ := js_if hc (fun z => Bool.noConfusion z) (fun _ => h1)
theorem js_drop (h : J X e (allR ρ) d) (hk : Φ (.nx ρ)) (hs : swapsWith e none pos.line X.env = pure false := by rfl) : JS X pin (.Expr e pos) ρ Φ := ⟨fun E σ H D hp ⟨Hf, A, s⟩ k =>
  .of (ps_expr pe_w hs) (h H σ H (.refl _) s.visH _ fun v W' H' st r => k _ hk σ H' ⟨Hf, A, s.grow st.hh⟩)⟩
/-- flat data do not lean on the heap -/
theorem Rep.any {K : PySem.W.Frag} {H H' : Hp} {v : V} (r : Rep K H d v) (h : flatD d = true) : Rep K H' d v := by
  cases r with
  | non => exact .non
  | bl b => exact .bl b
  | int i => exact .int i
  | str x => exact .str x
  | _ => cases h
theorem js_set (h : J X e (fzR ρ) d) (hk : Φ (.nx (ρ.set i (some (.fz d))))) (hN : X.N.Nodup) (hi : X.N[i]? = some x := by rfl) (hx : Loc X.env.scope x := by first | exact Or.inl rfl | exact Or.inr rfl) (hp : i ∉ pin := by decide) (hs : swapsWith e (some (.Name x p')) pos.line X.env = pure false := by rfl)
    (hf : X.fn x = true ∨ X.env.scope.names.lookup x = some .local := by first | exact .inl rfl | exact .inr rfl) : JS X pin (.Assign [.Name x p'] e pos) ρ Φ := ⟨fun E σ H D hpn ⟨Hf, A, s⟩ k =>
  .of (ps_set hN hi hx pe_w hs hf) (h Hf σ H s.fh s.vis _ fun v W' H' st r => k _ hk _ H' ⟨W', _, (s.step st).setFz r (hpn.none hp)⟩)⟩
theorem js_setS (h : J X e (allR ρ) d) (hd : flatD d = true) (hk : Φ (.nx (ρ.set i (some (.fz d))))) (hN : X.N.Nodup) (hi : X.N[i]? = some x := by rfl) (hx : Loc X.env.scope x := by first | exact Or.inl rfl | exact Or.inr rfl) (hp : i ∉ pin := by decide) (hs : swapsWith e (some (.Name x p')) pos.line X.env = pure false := by rfl)
    (hf : X.fn x = true ∨ X.env.scope.names.lookup x = some .local := by first | exact .inl rfl | exact .inr rfl) : JS X pin (.Assign [.Name x p'] e pos) ρ Φ := ⟨fun E σ H D hpn ⟨Hf, A, s⟩ k =>
  .of (ps_set hN hi hx pe_w hs hf) (h H σ H (.refl _) s.visH _ fun v W' H' st r => k _ hk _ H' ⟨Hf, _, (s.grow st.hh).setFz (r.any hd) (hpn.none hp)⟩)⟩
/-- the heap that a value handed back stands in: all that is new, but for what the own arguments hold -/
noncomputable def retW (E : Ent) (Hf H : Hp) (A : Nat → List Addr) : Hp := fun b =>
  haveI := Classical.propDecidable (∃ i, b ∈ A i ∧ E.pa i ≠ none)
  if ∃ i, b ∈ A i ∧ E.pa i ≠ none then none else match E.H0 b with
  | none => H b
  | some _ => Hf b
/-- own arguments hidden -/
def retR (pin : List Nat) (ρ : RhoS) : Rho := ρ.mapIdx fun i o => if i ∈ pin then o.bind SV.fzD else o.map SV.d
theorem retR_nil (ρ : RhoS) : retR [] ρ = allR ρ := by
  unfold retR allR
  apply List.ext_getElem?
  intro i
  rw [List.getElem?_mapIdx, List.getElem?_map]
  simp
section
variable {E : Ent} {σ : L2.St} {H Hf : Hp} {A : Nat → List Addr}
theorem retW_arg {b : Addr} (h : ∃ i, b ∈ A i ∧ E.pa i ≠ none) : retW E Hf H A b = none := by unfold retW; rw [if_pos h]
theorem retW_new {b : Addr} (hn : ¬ ∃ i, b ∈ A i ∧ E.pa i ≠ none) (h : E.H0 b = none) : retW E Hf H A b = H b := by unfold retW; rw [if_neg hn, h]
theorem retW_old {b : Addr} (hn : ¬ ∃ i, b ∈ A i ∧ E.pa i ≠ none) (h : E.H0 b ≠ none) : retW E Hf H A b = Hf b := by
  unfold retW
  rw [if_neg hn]
  cases q : E.H0 b with
  | none => exact absurd q h
  | some o => rfl
theorem StAt.retHf (s : StAt X.K E ρ σ H Hf A) : Ex Hf (retW E Hf H A) := fun b o h => by
  have hn : ¬ ∃ i, b ∈ A i ∧ E.pa i ≠ none := fun ⟨i, h1, _⟩ => by
    have := (s.ap i b h1).1
    rw [h] at this; cases this
  by_cases q : E.H0 b = none
  · rw [retW_new hn q]; exact s.fh b o h
  · rw [retW_old hn q]; exact h
theorem StAt.retH (s : StAt X.K E ρ σ H Hf A) : Ex (retW E Hf H A) H := fun b o h => by
  by_cases hn : ∃ i, b ∈ A i ∧ E.pa i ≠ none
  · rw [retW_arg hn] at h; cases h
  · by_cases q : E.H0 b = none
    · rw [retW_new hn q] at h; exact h
    · rw [retW_old hn q] at h; exact s.fh b o h
theorem StAt.visR (hp : E.Pins pin) (s : StAt X.K E ρ σ H Hf A) : Vis X.K (retR pin ρ) (retW E Hf H A) σ := by
  refine ⟨by unfold retR; rw [List.length_mapIdx]; exact s.len, fun i d h => ?_⟩
  unfold retR at h
  rw [List.getElem?_mapIdx] at h
  cases e : ρ[i]? with
  | none => rw [e] at h; cases h
  | some o =>
    rw [e] at h
    cases o with
    | none => simp at h
    | some sv =>
      obtain ⟨v, q1, q2⟩ := s.sl i sv e
      refine ⟨v, q1, ?_⟩
      cases sv with
      | fz d' =>
        have : d' = d := by simpa [SV.fzD, SV.d] using h
        subst this
        exact Rep.mono s.retHf q2
      | ow d' =>
        by_cases hi : i ∈ pin
        · simp [hi, SV.fzD] at h
        · have : d' = d := by simpa [hi, SV.d] using h
          subst this
          refine Own.rep q2.1 s.retHf fun a ha => ?_
          have hn : ¬ ∃ j, a ∈ A j ∧ E.pa j ≠ none := fun ⟨j, h1, h2⟩ => by
            have := s.dj i j a ha h1
            subst this
            exact hi ((hp i).mp h2)
          rcases (s.ap i a ha).2.2 with q | q
          · exact retW_new hn q
          · exact absurd ⟨i, ha, q.2⟩ hn
end
theorem js_retR (h : J X e (retR pin ρ) d) (hk : Φ (.rt d ρ)) : JS X pin (.Return (some e) pos) ρ Φ := ⟨fun E σ H D hp ⟨Hf, A, s⟩ k =>
  .of (ps_ret pe_w) (h (retW E Hf H A) σ H s.retH (s.visR hp) _ fun v W' H' st r => k _ hk v H' ⟨σ, Hf, A, W', s.grow st.hh, s.retHf.trans st.ww, st.wh, fun b h1 h2 => by
      by_cases q : retW E Hf H A b = none
      · exact s.kp b (st.fr b h1 q)
      · by_cases hn : ∃ i, b ∈ A i ∧ E.pa i ≠ none
        · exact absurd (retW_arg hn) q
        · by_cases z : E.H0 b = none
          · exact z
          · rw [retW_old hn z] at q; exact s.fr b q h2, fun i a ha hpa => by
      cases q : W' a with
      | none => rfl
      | some o => exact absurd (st.fr a (by rw [q]; simp) (retW_arg ⟨i, ha, hpa⟩)) (s.ap i a ha).2.1, r⟩)⟩
theorem js_ret (h : J X e (allR ρ) d) (hk : Φ (.rt d ρ)) : JS X [] (.Return (some e) pos) ρ Φ := js_retR (by rw [retR_nil]; exact h) hk
end
end Pf

namespace Pf
open PySem PyProof.Rows L2
open Evl (Ex)

section
variable {X : Cx} {pin : List Nat} {st : Stmt} {rest a b body : List Stmt} {ρ : RhoS} {Φ : Out → Prop} {e c tg iter : Expr} {es : List Expr} {d : D} {ds : List D} {pos p p' p1 p2 p3 : Pos} {i : Nat} {x : Str} {t : Bool}
  {K : PySem.W.Frag} {E : Ent} {σ : L2.St} {H Hf : Hp} {A : Nat → List Addr}
structure JN (X : Cx) (e : Expr) (ρ : Rho) (ds : List D) : Prop where
  run : ∀ W σ H, Ex W H → Vis X.K ρ W σ → ∀ Q : VK, (∀ (a : Addr) (W' H' : Hp) (vs : List V), Step W H W' H' → H a = none → W' a = none → H' a = some (.lst vs) → RepAll X.K W' ds vs → Q (.ref a) H') → wE X e σ H Q
instance {X : Cx} {e : Expr} {ρ : Rho} {ds : List D} : CoeFun (JN X e ρ ds) (fun _ => ∀ W σ H, Ex W H → Vis X.K ρ W σ → ∀ Q : VK, (∀ (a : Addr) (W' H' : Hp) (vs : List V), Step W H W' H' → H a = none → W' a = none → H' a = some (.lst vs) → RepAll X.K W' ds vs → Q (.ref a) H') → wE X e σ H Q) := ⟨JN.run⟩
theorem jn_lst {ρ : Rho} (h : JA X es ρ ds) (hl : ds.length ≤ sizeLine := by (simp only [List.length_cons, List.length_nil]; decide)) : JN X (.List es pos) ρ ds := ⟨fun W σ H ex hV Q g =>
  .of (pe_lst pa_w) (h W σ H ex hV _ fun vs W1 H1 s1 r1 => ⟨by rw [← r1.length]; exact hl, fun q hq =>
    g q W1 _ vs (s1.trans (.newH s1.wh hq)) (Evl.fresh_back s1.hh hq) (Evl.fresh_back s1.wh hq) upd_same r1⟩)⟩
theorem Own.newL {W : Hp} {a : Addr} {vs : List V} (h : H a = some (.lst vs)) (r : RepAll K W ds vs) (n : NoM ds) : Own K W H (.lst ds) (.ref a) [a] := .lst h (.fz r n) (by simp)
theorem StAt.newL (s : StAt K E ρ σ H Hf A) {W' H' : Hp} {a : Addr} {vs : List V} (st : Step Hf H W' H') (h1 : H a = none) (h2 : W' a = none) (h3 : H' a = some (.lst vs)) (r : RepAll K W' ds vs) (hp : E.pa i = none) (n : NoM ds) :
    StOk K E (ρ.set i (some (.ow (.lst ds)))) (σ.set i (some (.ref a))) H' :=
  ⟨W', _, (s.step st).setOw (.newL h3 r n) (by simp) hp fun b hb => by
    have e : b = a := by simpa using hb
    subst e
    exact ⟨h2, by rw [h3]; simp, s.kp b h1, fun j hj => (s.ap j b hj).2.1 h1⟩⟩
theorem js_setN (h : JN X e (fzR ρ) ds) (hk : Φ (.nx (ρ.set i (some (.ow (.lst ds)))))) (hN : X.N.Nodup) (hM : NoM ds := by (repeat (first | exact NoM.nil | exact NoM.map fun _ => rfl | exact NoM.fm fun _ => rfl | refine NoM.cons rfl ?_ | refine NoM.app ?_ ?_))) (hi : X.N[i]? = some x := by rfl) (hx : Loc X.env.scope x := by first | exact Or.inl rfl | exact Or.inr rfl) (hp : i ∉ pin := by decide) (hs : swapsWith e (some (.Name x p')) pos.line X.env = pure false := by rfl)
    (hf : X.fn x = true ∨ X.env.scope.names.lookup x = some .local := by first | exact .inl rfl | exact .inr rfl) : JS X pin (.Assign [.Name x p'] e pos) ρ Φ := ⟨fun E σ H D hpn ⟨Hf, A, s⟩ k =>
  .of (ps_set hN hi hx pe_w hs hf) (h Hf σ H s.fh s.vis _ fun a W' H' vs st h1 h2 h3 r => k _ hk _ H' (s.newL st h1 h2 h3 r (hpn.none hp) hM))⟩
/-- a comprehension stored to a plain local name: the value frozen, or the slot's own -/
theorem js_setLc {elt : Expr} {ifs : List Expr} {scope : Scope} {own : List (Str × Nat)} {pat : Pat} {its : List (D × Option D)} {lpos : Pos} (hi' : JI X tg iter (fzR ρ) (its.map (·.1))) (ok : BlkOk X.N X.env.scope scope own) (hg : ∀ s H C cl fp, PG (blkX X scope s H C cl fp) tg (pat.g X.K)) (hown : ∀ i ∈ pat.slots, i ∈ own.map (·.2)) (hlen : its.length < sizeLine)
    (turn : ∀ q ∈ its, LcTurn X scope pat elt ifs (wipeR (fzR ρ) (own.map (·.2))) q.1 q.2) (hk : Φ (.nx (ρ.set i (some (.fz (.lst (its.filterMap (·.2)))))))) (hN : X.N.Nodup) (hsw : swapsWith (.ListComp elt [⟨tg, iter, ifs, 0⟩] scope lpos) (some (.Name x p')) pos.line X.env = pure true)
    (hi : X.N[i]? = some x := by rfl) (hx : X.env.scope.names.lookup x = some .local := by rfl) (hp : i ∉ pin := by decide) (hc : X.calm = true := by rfl) (hs : ∀ x, foldedSetIterable iter X.env x = pure x := by intro _; rfl) :
    JS X pin (.Assign [.Name x p'] (.ListComp elt [⟨tg, iter, ifs, 0⟩] scope lpos) pos) ρ Φ := ⟨fun E σ H D hpn ⟨Hf, A, s⟩ k =>
  .of (ps_setLc (tt := fun σ H Q => ∀ s H0 C cl fp, wTs (blkX X scope s H0 C cl fp) ifs σ H Q) (te := fun σ H Q => ∀ s H0 C cl fp, wE (blkX X scope s H0 C cl fp) elt σ H Q) hc hN hi hx hsw pi_w ok hg
    (fun s H0 C cl fp => ⟨fun pins s' σ' H' Q' I h => h s H0 C cl fp pins s' I⟩) (fun s H0 C cl fp => ⟨fun pins s' σ' H' Q' I h => h s H0 C cl fp pins s' I⟩) hs)
    (lc_read hi' hown hlen turn s.fh s.vis fun Dn W' H' vs st hD hW hH rv => k _ hk _ H' ⟨_, _, (s.step (st.show' hD hW hH)).setFz (.lst upd_same (rv.mono fun a u h => by rw [upd_ne (ne_of_none h hW)]; exact h)) (hpn.none hp)⟩)⟩

theorem js_setLcN {α : Type} {j : Nat} {elt : Expr} {ifs : List Expr} {scope : Scope} {own : List (Str × Nat)} {lpos : Pos} (xs : List α) (g : α → D) (q : α → Bool) (h : α → D) (hi' : JI X tg iter (fzR ρ) (xs.map g)) (ok : BlkOk X.N X.env.scope scope own) (hg : ∀ s H C cl fp, PG (blkX X scope s H C cl fp) tg (gName j)) (hlen : xs.length < sizeLine)
    (turn : ∀ x ∈ xs, ∀ s H C cl fp, JTs (blkX X scope s H C cl fp) ifs ((wipeR (fzR ρ) (own.map (·.2))).set j (some (g x))) (q x) ∧ (q x = true → J (blkX X scope s H C cl fp) elt ((wipeR (fzR ρ) (own.map (·.2))).set j (some (g x))) (h x))) (hk : Φ (.nx (ρ.set i (some (.fz (.lst ((xs.filter q).map h))))))) (hN : X.N.Nodup) (hsw : swapsWith (.ListComp elt [⟨tg, iter, ifs, 0⟩] scope lpos) (some (.Name x p')) pos.line X.env = pure true)
    (hown : j ∈ own.map (·.2) := by decide) (hi : X.N[i]? = some x := by rfl) (hx : X.env.scope.names.lookup x = some .local := by rfl) (hp : i ∉ pin := by decide) (hc : X.calm = true := by rfl) (hs : ∀ x, foldedSetIterable iter X.env x = pure x := by intro _; rfl) :
    JS X pin (.Assign [.Name x p'] (.ListComp elt [⟨tg, iter, ifs, 0⟩] scope lpos) pos) ρ Φ :=
  js_setLc (pat := .nm j) (its := xs.map fun x => (g x, if q x = true then some (h x) else none)) (by rw [List.map_map]; exact hi') ok hg (fun k hk => (List.mem_singleton.mp hk : k = j) ▸ hown) (by rw [List.length_map]; exact hlen) (lcN_turn turn) (by rw [sel_filter]; exact hk) hN hsw hi hx hp hc hs
theorem OwnAll.snoc {vs : List V} {v : V} {B : List Addr} (h : OwnAll K Hf H ds vs B) (r : Rep K Hf d v) (n : insM d = false) : OwnAll K Hf H (ds ++ [d]) (vs ++ [v]) B := by
  have := h.append (OwnAll.fz (.cons r .nil) (.cons n .nil)) (fun _ _ => by simp)
  rwa [List.append_nil] at this
theorem OwnAll.move {vs : List V} {B : List Addr} {Hf' H' : Hp} (h : OwnAll K Hf H ds vs B) (e : Ex Hf Hf') (k : ∀ a ∈ B, H' a = H a) : OwnAll K Hf' H' ds vs B := by
  refine OwnAll.rec (motive_1 := fun d v A _ => Ex Hf Hf' → (∀ a ∈ A, H' a = H a) → Own K Hf' H' d v A) (motive_2 := fun ds vs A _ => Ex Hf Hf' → (∀ a ∈ A, H' a = H a) → OwnAll K Hf' H' ds vs A) (motive_3 := fun ds vs A _ => Ex Hf Hf' → (∀ a ∈ A, H' a = H a) → OwnFs K Hf' H' ds vs A) ?_ ?_ ?_ ?_ ?_ ?_ ?_ ?_ h e k
  · exact fun r e _ => .fz (r.mono e)
  · exact fun h1 _ n ih e k => .lst (by rw [k _ List.mem_cons_self]; exact h1) (ih e fun a ha => k a (List.mem_cons_of_mem _ ha)) n
  · exact fun h1 q _ n ih e k => .dct (by rw [k _ List.mem_cons_self]; exact h1) q (ih e fun a ha => k a (List.mem_cons_of_mem _ ha)) n
  · exact fun h1 q _ n ih e k => .ins (by rw [k _ List.mem_cons_self]; exact h1) q (ih e fun a ha => k a (List.mem_cons_of_mem _ ha)) n
  · exact fun _ _ => .nil
  · exact fun _ _ n w i1 i2 e k => .cons (i1 e fun a ha => k a (List.mem_append_left _ ha)) (i2 e fun a ha => k a (List.mem_append_right _ ha)) n w
  · exact fun _ _ => .nil
  · exact fun _ _ n w i1 i2 e k => .cons (i1 e fun a ha => k a (List.mem_append_left _ ha)) (i2 e fun a ha => k a (List.mem_append_right _ ha)) n w
theorem OwnFs.move {Hf' H' : Hp} : ∀ {ds : List D} {vs : List V} {B : List Addr}, OwnFs K Hf H ds vs B → Ex Hf Hf' → (∀ a ∈ B, H' a = H a) → OwnFs K Hf' H' ds vs B
  | _, _, _, .nil, _, _ => .nil
  | _, _, _, .cons a b n w, e, k => .cons (a.move e fun x hx => k x (List.mem_append_left _ hx)) (OwnFs.move b e fun x hx => k x (List.mem_append_right _ hx)) n w
theorem js_append (hi : ρ[i]? = some (some (.ow (.lst ds)))) (h : J X e (fzR ρ) d) (hl : ds.length < sizeLine) (hk : Φ (.nx (ρ.set i (some (.ow (.lst (ds ++ [d]))))))) (hM : insM d = false := by rfl) (hN : X.N[i]? = some x := by rfl) (hv : L2.Vis X.env.scope x := by first | exact Or.inl rfl | exact Or.inr (Or.inl rfl))
    (hd : (x == ("__debug__" : Str)) = false := by decide) (hcd : (x == ("__classdict__" : Str)) = false := by decide) (hst : starEach [e] X.env = (false, eval e X.env) :: starEach [] X.env := by rfl)
    (hfew : ((backTo p3 (starEach [e] X.env)).all (fun x => !x.1) && (backToKw p3 (keywordEach [] X.env)).all (fun x => x.1.isSome) && decide ([e].length + ([] : List Keyword).length + (if ([] : List Keyword).isEmpty then 0 else 1) < 30)) = true := by rfl)
    (hline : (p2.endLine == p3.line) = true := by rfl)
    (hs : swapsWith (.Call (.Attribute (.Name x p1) "append" p2) [e] [] p3) none pos.line X.env = pure false := by rfl) : JS X pin (.Expr (.Call (.Attribute (.Name x p1) "append" p2) [e] [] p3) pos) ρ Φ := ⟨fun E σ H D hpn ⟨Hf, A, s⟩ k => by
  refine .of (ps_expr (pe_bm PySem.F.plainAttrs_list PySem.F.slot_list_append PySem.F.type_list_append mt_append (pe_var hN hv hd hcd) (pa_cons pe_w pa_nil hst) rfl hfew hline hst) hs) ?_
  obtain ⟨v, hσ, ow, ne⟩ := s.sl i _ hi
  generalize hA : A i = Ai at ow ne
  cases ow with
  | fz _ => exact absurd rfl ne
  | @lst l vs _ B hl1 ha nB =>
    refine ⟨_, hσ, .inl ⟨rfl, _, SqL.of hl1⟩, ?_⟩
    refine h Hf σ H s.fh s.vis _ fun y W' H' st r => ?_
    have s' := s.step st
    have hl2 := st.hh _ _ hl1
    refine ⟨l, vs, y, rfl, rfl, hl2, by rw [← ha.length]; exact hl, ?_⟩
    have hm : l ∈ A i := by rw [hA]; exact List.mem_cons_self
    have k1 : ∀ a ∈ B, upd H' l (.lst (vs ++ [y])) a = H a := fun a haB => by
      rw [upd_ne (fun z => by subst z; exact nB haB)]
      have := (s.ap i a (by rw [hA]; exact List.mem_cons_of_mem _ haB)).2.1
      cases q : H a with
      | none => exact absurd q this
      | some o => exact st.hh _ _ q
    exact k _ hk _ _ ⟨W', _, s'.change (B := l :: B) hi hσ hm (by simp) (fun b hb => by rw [hA]; exact hb) (.lst upd_same ((ha.move st.ww k1).snoc r hM) nB)⟩⟩

def Pat.setS : Pat → D → RhoS → Option RhoS
  | .nm i, d, ρ => some (ρ.set i (some (.fz d)))
  | .tp is, .tup ds, ρ => if ds.length = is.length then some (setAll ρ is (ds.map SV.fz)) else none
  | .tp _, _, _ => none
  | .tn ps, .tup ds, ρ => setC SV.fz ps ds ρ
  | .tn _, _, _ => none
theorem setAllFz {i : Nat} : ∀ (is : List Nat) {ds : List D} {vs : List V} {ρ : RhoS} {σ : L2.St} {A : Nat → List Addr}, StAt K E ρ σ H Hf A → RepAll K Hf ds vs → ds.length = is.length → (∀ i ∈ is, E.pa i = none) → ∃ A', StAt K E (setAll ρ is (ds.map SV.fz)) (setAll σ is vs) H Hf A'
  | [], _, _, _, _, _, s, .nil, _, _ => ⟨_, s⟩
  | i :: is, _, _, _, _, _, s, .cons r t, e, hp => setAllFz (i := i) is (s.setFz r (hp i List.mem_cons_self)) t (by simpa using e) fun j hj => hp j (List.mem_cons_of_mem _ hj)
  | [], _, _, _, _, _, _, .cons _ _, e, _ => by simp at e
  | _ :: _, _, _, _, _, _, _, .nil, e, _ => by simp at e
theorem gComps_runS : ∀ (ps : List (Nat ⊕ List Nat)) {ds : List D} {vs : List V} {ρ ρ' : RhoS} {σ : L2.St} {A : Nat → List Addr} {Q : L2.St → Hp → Prop}, StAt K E ρ σ H Hf A → RepAll K Hf ds vs → setC SV.fz ps ds ρ = some ρ' → (∀ i ∈ slotsC ps, E.pa i = none) →
    (∀ σ' A', StAt K E ρ' σ' H Hf A' → Q σ' H) → gComps K ps vs σ H Q
  | [], _, _, ρ, ρ', σ, A, Q, s, .nil, hs, hp, q => by cases hs; exact ⟨rfl, q σ A s⟩
  | [], _, _, ρ, ρ', σ, A, Q, s, .cons _ _, hs, hp, q => by cases hs
  | .inl i :: ps, _, _, ρ, ρ', σ, A, Q, s, .nil, hs, hp, q => by cases hs
  | .inr is :: ps, _, _, ρ, ρ', σ, A, Q, s, .nil, hs, hp, q => by cases hs
  | .inl i :: ps, _, v :: vs, ρ, ρ', σ, A, Q, s, .cons r t, hs, hp, q => ⟨v, vs, rfl, gComps_runS ps (s.setFz r (hp i (List.mem_cons_self))) t hs (fun j hj => hp j (List.mem_cons_of_mem _ hj)) q⟩
  | .inr is :: ps, d :: ds, v :: vs, ρ, ρ', σ, A, Q, s, .cons r t, hs, hp, q => by
    cases r with
    | @tup a us es h1 k =>
      simp only [setC] at hs
      split at hs
      · rename_i hl
        obtain ⟨A', s'⟩ := setAllFz (i := 0) is s k hl fun j hj => hp j (List.mem_append_left _ hj)
        exact ⟨_, vs, rfl, a, us, rfl, Evl.ex_t s.fh h1, by rw [← k.length]; exact hl, gNames_run is (by rw [← k.length]; exact hl) (gComps_runS ps s' t hs (fun j hj => hp j (List.mem_append_right _ hj)) q)⟩
      · cases hs
    | _ => cases hs
theorem setC_len {α : Type} {f : D → α} : ∀ (ps : List (Nat ⊕ List Nat)) {ds : List D} {ρ ρ' : List (Option α)}, setC f ps ds ρ = some ρ' → ds.length = ps.length
  | [], [], _, _, _ => rfl
  | [], _ :: _, _, _, h => by cases h
  | .inl _ :: _, [], _, _, h => by cases h
  | .inr _ :: _, [], _, _, h => by cases h
  | .inl i :: ps, d :: ds, ρ, ρ', h => congrArg (· + 1) (setC_len ps (ds := ds) h)
  | .inr is :: ps, d :: ds, ρ, ρ', h => by
    cases d <;> simp only [setC] at h <;> first | cases h | skip
    split at h
    · exact congrArg (· + 1) (setC_len ps (ds := ds) h)
    · cases h
theorem Pat.runS {pat : Pat} {ρ' : RhoS} {v : V} (s : StAt K E ρ σ H Hf A) (r : Rep K Hf d v) (hs : pat.setS d ρ = some ρ') (hp : ∀ i ∈ pat.slots, E.pa i = none) {Q : L2.St → Hp → Prop} (q : ∀ σ' A', StAt K E ρ' σ' H Hf A' → Q σ' H) : pat.g K v σ H Q := by
  cases pat with
  | nm i => cases hs; exact q _ _ (s.setFz r (hp i (List.mem_singleton.mpr rfl)))
  | tp is =>
    cases r with
    | tup h1 k =>
      simp only [Pat.setS] at hs
      split at hs
      · rename_i hl
        cases hs
        obtain ⟨A', s'⟩ := setAllFz (i := 0) is s k hl hp
        exact ⟨_, _, rfl, Evl.ex_t s.fh h1, by rw [← k.length]; exact hl, gNames_run is (by rw [← k.length]; exact hl) (q _ _ s')⟩
      · cases hs
    | _ => cases hs
  | tn ps =>
    cases r with
    | tup h1 k => exact ⟨_, _, rfl, Evl.ex_t s.fh h1, by rw [← k.length]; exact setC_len ps hs, gComps_runS ps s k hs hp q⟩
    | _ => cases hs
/-- a, b = e -/
theorem js_pat {pat : Pat} {ρ' : RhoS} (h : J X e (fzR ρ) d) (hset : pat.setS d ρ = some ρ') (hk : Φ (.nx ρ')) (hg : PG X tg (pat.g X.K)) (hp : ∀ i ∈ pat.slots, i ∉ pin := by decide) (hs : swapsWithSole [tg] e pos.line X.env = pure false := by rfl) (hw : swappedStores [tg] e X.env = pure none := by rfl)
    (h1 : (assignEach [tg] X.env).map (·.2) = [assign tg X.env] := by rfl) : JS X pin (.Assign [tg] e pos) ρ Φ := ⟨fun E σ H D hpn ⟨Hf, A, s⟩ k =>
  .of (ps_asg pe_w hg hs hw h1) (h Hf σ H s.fh s.vis _ fun v W' H' st r => Pat.runS (s.step st) r hset (fun i hi => hpn.none (hp i hi)) fun σ' A' s' => k _ hk σ' H' ⟨W', A', s'⟩)⟩

structure JP (X : Cx) (e : Expr) (ρ : Rho) (P : D → Prop) : Prop where
  run : ∀ W σ H, Ex W H → Vis X.K ρ W σ → ∀ Q : VK, (∀ d, P d → GoodE X.K W H d Q) → wE X e σ H Q
instance {X : Cx} {e : Expr} {ρ : Rho} {P : D → Prop} : CoeFun (JP X e ρ P) (fun _ => ∀ W σ H, Ex W H → Vis X.K ρ W σ → ∀ Q : VK, (∀ d, P d → GoodE X.K W H d Q) → wE X e σ H Q) := ⟨JP.run⟩
theorem jp_call {ρ : Rho} {k j n : Nat} {G : List D → (D → Prop) → Prop} {P : D → Prop} (c : PFn X.prog X.w X.K X.mg X.base k x n G) (hr : Room j X.A) (ha : JA X (e :: es) ρ ds) (hG : G ds P) (hk : k ≤ j := by decide) (hn : ds.length = n := by rfl) (hg : Gl X x := by rfl) (hdb : (x == ("__debug__" : Str)) = false := by decide)
    (he : starEach (e :: es) X.env = (false, eval e X.env) :: starEach es X.env := by rfl) (hpl : (backTo pos (starEach es X.env)).any (·.1) = false := by rfl) : JP X (.Call (.Name x p) (e :: es) [] pos) ρ P := ⟨fun W σ H ex hV Q g => by
  obtain ⟨f, fd, ps, F, hm, hkp, hb⟩ := c.ex
  refine .of (pe_call (F.mono hk) hr hg hm hkp hb .nil pass0 pa_w hdb he hpl) (ha W σ H ex hV _ fun vs W1 H1 s1 r1 => ?_)
  rw [List.append_nil]
  exact ⟨by rw [← r1.length]; exact hn, W1, ds, P, s1.wh, r1, hG, fun d' hd => (g d' hd).step s1⟩⟩
theorem js_setP {P : D → Prop} (h : JP X e (fzR ρ) P) (hk : ∀ d, P d → Φ (.nx (ρ.set i (some (.fz d))))) (hN : X.N.Nodup) (hi : X.N[i]? = some x := by rfl) (hx : Loc X.env.scope x := by first | exact Or.inl rfl | exact Or.inr rfl) (hp : i ∉ pin := by decide) (hs : swapsWith e (some (.Name x p')) pos.line X.env = pure false := by rfl)
    (hf : X.fn x = true ∨ X.env.scope.names.lookup x = some .local := by first | exact .inl rfl | exact .inr rfl) : JS X pin (.Assign [.Name x p'] e pos) ρ Φ := ⟨fun E σ H D hpn ⟨Hf, A, s⟩ k =>
  .of (ps_set hN hi hx pe_w hs hf) (h Hf σ H s.fh s.vis _ fun d hd v W' H' st r => k _ (hk d hd) _ H' ⟨W', _, (s.step st).setFz r (hpn.none hp)⟩)⟩
theorem StAt.base {W1 : Hp} (s : StAt K { E with W0 := W1 } ρ σ H Hf A) (e : Ex E.W0 W1) (f : Fr E.W0 W1 E.H0) : StAt K E ρ σ H Hf A :=
  ⟨s.len, e.trans s.w0, s.fh, fun b h1 h2 => by
    by_cases z : W1 b = none
    · exact s.fr b h1 z
    · exact f b z h2, s.hh, s.kp, s.sl, s.ap, s.dj, s.pn⟩
theorem StAt.rebase (s : StAt K E ρ σ H Hf A) : StAt K { E with W0 := Hf } ρ σ H Hf A :=
  ⟨s.len, .refl _, s.fh, fun b h1 h2 => absurd h2 h1, s.hh, s.kp, s.sl, s.ap, s.dj, s.pn⟩
theorem RtOk.base {W1 : Hp} {v : V} (s : RtOk K { E with W0 := W1 } d ρ v H) (e : Ex E.W0 W1) (f : Fr E.W0 W1 E.H0) : RtOk K E d ρ v H := by
  obtain ⟨σ, Hf, A, W', s, h1, h2, h3, h4, h5⟩ := s
  exact ⟨σ, Hf, A, W', s.base e f, h1, h2, fun b q1 q2 => by
    by_cases z : W1 b = none
    · exact h3 b q1 z
    · exact f b z q2, h4, h5⟩
/-- what a turn's outcome must be -/
def turnO (I : RhoS → Prop) (Φ : Out → Prop) : Out → Prop
  | .nx ρ => I ρ
  | .ct ρ => I ρ
  | .bk ρ => Φ (.nx ρ)
  | .rt d ρ => Φ (.rt d ρ)
  | .ex er ρ => Φ (.ex er ρ)
/-- what is walked, known by a property -/
structure JIP (X : Cx) (tg iter : Expr) (ρ : Rho) (Pd : List D → Prop) : Prop where
  run : ∀ W σ H, Ex W H → Vis X.K ρ W σ → ∀ R : It → Hp → Prop, (∀ ds, Pd ds → ∀ J W1 H1, Step W H W1 H1 → Walks X.K J W1 ds → R J H1) → wI X tg iter σ H R
instance {X : Cx} {tg iter : Expr} {ρ : Rho} {Pd : List D → Prop} : CoeFun (JIP X tg iter ρ Pd) (fun _ => ∀ W σ H, Ex W H → Vis X.K ρ W σ → ∀ R : It → Hp → Prop, (∀ ds, Pd ds → ∀ J W1 H1, Step W H W1 H1 → Walks X.K J W1 ds → R J H1) → wI X tg iter σ H R) := ⟨JIP.run⟩
theorem jip_of {ρ : Rho} (h : JI X tg iter ρ ds) : JIP X tg iter ρ (fun es => es = ds) := ⟨fun W σ H ex hV R g => h W σ H ex hV R (g ds rfl)⟩
theorem js_forP {pat : Pat} {Pd : List D → Prop} (I : List D → Nat → RhoS → Prop) (hi : JIP X tg iter (fzR ρ) Pd) (hg : PG X tg (pat.g X.K)) (h0 : ∀ ds, Pd ds → I ds 0 ρ)
    (turn : ∀ ds, Pd ds → ∀ k d ρ, ds[k]? = some d → I ds k ρ → ∃ ρ', pat.setS d ρ = some ρ' ∧ JSs X pin body ρ' (turnO (I ds (k + 1)) Φ)) (done : ∀ ds, Pd ds → ∀ ρ, I ds ds.length ρ → Φ (.nx ρ)) (hps : PassesOwn (model X.prog X.w) X.A X.env X.xe) (hp : ∀ i ∈ pat.slots, i ∉ pin := by decide) (hc : X.calm = true := by rfl) (hfs : ∀ x, foldedSetIterable iter X.env x = pure x := by intro _; rfl) :
    JS X pin (.For tg iter body [] pos) ρ Φ := ⟨fun E σ H D hpn ⟨Hf, A, s⟩ k => by
  refine .of (ps_for hps hc pi_w hg pss_w hfs) (hi Hf σ H s.fh s.vis _ fun ds hds Jt W1 H1 st wk => ?_)
  have s1 := s.step st
  have e1 : Ex E.W0 W1 := s1.w0
  have f1 : Fr E.W0 W1 E.H0 := s1.fr
  refine ⟨fun i m σ' H' => m = ds.length - i ∧ i ≤ ds.length ∧ ∃ ρ', I ds i ρ' ∧ StOk X.K { E with W0 := W1 } ρ' σ' H', ⟨_, rfl, Nat.zero_le _, ρ, h0 ds hds, _, _, s1.rebase⟩, ?_⟩
  rintro i m σ2 H2 ⟨rfl, hil, ρ2, hI, Hf2, A2, s2⟩
  by_cases hlt : i < ds.length
  · refine .inr ⟨wk.go i H2 (s2.w0.trans s2.fh) hlt, _, fun σ' H' z => ⟨_, (by omega : ds.length - (i + 1) < ds.length - i), rfl, hlt, z⟩, fun x H3 hy => ?_⟩
    obtain ⟨d, hd⟩ : ∃ d, ds[i]? = some d := ⟨ds[i], by simp [hlt]⟩
    obtain ⟨W3, st3, rx⟩ := wk.yld i H2 x H3 d (s2.w0.trans s2.fh) hd hy Hf2 s2.w0 s2.fh
    obtain ⟨ρ3, hset, hb⟩ := turn ds hds i d ρ2 hd hI
    refine Pat.runS (s2.step st3) rx hset (fun j hj => hpn.none (hp j hj)) fun σ4 A4 s4 => hb { E with W0 := W1 } σ4 H3 _ hpn ⟨W3, A4, s4⟩ fun o ho => ?_
    cases o with
    | nx ρ' => exact fun σ' H' s' => ⟨ρ', ho, s'⟩
    | ct ρ' => exact fun σ' H' s' => ⟨ρ', ho, s'⟩
    | bk ρ' => exact fun σ' H' ⟨Hf', A', s'⟩ => k _ ho σ' H' ⟨Hf', A', s'.base e1 f1⟩
    | rt d ρ' => exact fun v H' s' => k _ ho v H' (s'.base e1 f1)
    | ex er ρ' =>
      obtain ⟨Wx, tk, q⟩ := k _ ho
      exact ⟨Wx, tk, fun d σ' H' H2' ⟨Hf', A', s'⟩ => q d σ' H' H2' ⟨Hf', A', s'.base e1 f1⟩⟩
  · have e : i = ds.length := by omega
    subst e
    exact .inl ⟨wk.stop H2 (s2.w0.trans s2.fh), k _ (done ds hds _ hI) σ2 H2 ⟨Hf2, A2, s2.base e1 f1⟩⟩⟩
theorem js_for {pat : Pat} (I : Nat → RhoS → Prop) (hi : JI X tg iter (fzR ρ) ds) (hg : PG X tg (pat.g X.K)) (h0 : I 0 ρ)
    (turn : ∀ k d ρ, ds[k]? = some d → I k ρ → ∃ ρ', pat.setS d ρ = some ρ' ∧ JSs X pin body ρ' (turnO (I (k + 1)) Φ)) (done : ∀ ρ, I ds.length ρ → Φ (.nx ρ)) (hps : PassesOwn (model X.prog X.w) X.A X.env X.xe) (hp : ∀ i ∈ pat.slots, i ∉ pin := by decide) (hc : X.calm = true := by rfl) (hfs : ∀ x, foldedSetIterable iter X.env x = pure x := by intro _; rfl) :
    JS X pin (.For tg iter body [] pos) ρ Φ :=
  js_forP (fun _ k ρ => I k ρ) (jip_of hi) hg (fun _ _ => h0) (fun es e k d ρ hd => turn k d ρ (e ▸ hd)) (fun es e ρ h => done ρ (e ▸ h)) hps hp hc hfs
/-- a list that a call hands back, walked -/
theorem jip_call {ρ : Rho} {P : D → Prop} {Pd : List D → Prop} (h : JP X iter ρ P) (hP : ∀ d, P d → ∃ ds, d = .lst ds ∧ Pd ds) : JIP X tg iter ρ Pd := ⟨fun W σ H ex hV R g => .of (pi_list pe_w) (h W σ H ex hV _ fun d hd v W1 H1 s1 r1 => by
  obtain ⟨ds, rfl, hds⟩ := hP d hd
  cases r1 with
  | lst h1 k => exact ⟨_, rfl, ⟨_, SqL.of (s1.wh _ _ h1)⟩, g ds hds _ W1 H1 s1 (walks_list h1 k)⟩)⟩
theorem js_while (I : RhoS → Prop) (μ : RhoS → Nat) (h0 : I ρ)
    (turn : ∀ ρ, I ρ → ∃ t, JT X c (allR ρ) t ∧ (t = true → JSs X pin body ρ (turnO (fun ρ' => I ρ' ∧ μ ρ' < μ ρ) Φ)) ∧ (t = false → Φ (.nx ρ))) (hps : PassesOwn (model X.prog X.w) X.A X.env X.xe) :
    JS X pin (.While c body [] pos) ρ Φ := ⟨fun E σ H D hpn s0 k => by
  refine .of (ps_while hps pt_w pss_w) ⟨fun m σ' H' => ∃ ρ', m = μ ρ' ∧ I ρ' ∧ StOk X.K E ρ' σ' H', ⟨_, ρ, rfl, h0, s0⟩, ?_⟩
  rintro m σ2 H2 ⟨ρ2, rfl, hI, Hf2, A2, s2⟩
  obtain ⟨t, ht, h1, h2⟩ := turn ρ2 hI
  refine ht H2 σ2 H2 (.refl _) s2.visH _ fun W' H' st => ?_
  have s3 := s2.grow st.hh
  cases t with
  | false => rw [if_neg Bool.false_ne_true]; exact k _ (h2 rfl) σ2 H' ⟨Hf2, A2, s3⟩
  | true =>
    rw [if_pos rfl]
    refine ⟨_, fun σ' H' z => z, h1 rfl E σ2 H' _ hpn ⟨Hf2, A2, s3⟩ fun o ho => ?_⟩
    cases o with
    | nx ρ' => exact fun σ' H' s' => ⟨μ ρ', ho.2, ρ', rfl, ho.1, s'⟩
    | ct ρ' => exact fun σ' H' s' => ⟨μ ρ', ho.2, ρ', rfl, ho.1, s'⟩
    | bk ρ' => exact fun σ' H' s' => k _ ho σ' H' s'
    | rt d ρ' => exact fun v H' s' => k _ ho v H' s'
    | ex er ρ' => exact k _ ho⟩
end

def startR (N : List Str) (ds : List D) : RhoS := ds.map (fun d => some (.fz d)) ++ List.replicate (N.length - ds.length) none
theorem start_ok {K : PySem.W.Frag} {W H : Hp} {N : List Str} {ds : List D} {vs : List V} (ex : Ex W H) (r : RepAll K W ds vs) : StAt K ⟨W, H, fun _ => False, fun _ => none⟩ (startR N ds) (L2.start N vs) H W (fun _ => []) where
  len := by unfold startR L2.start; simp [r.length]
  w0 := .refl _
  fh := ex
  fr := fun b h1 h2 => absurd h2 h1
  hh := fun b o h _ => h
  kp := fun b h => h
  sl := fun i sv h => by
    unfold startR at h
    by_cases hi : i < ds.length
    · rw [List.getElem?_append_left (by simpa using hi), List.getElem?_map] at h
      cases e : ds[i]? with
      | none => rw [e] at h; cases h
      | some d =>
        rw [e] at h; cases h
        obtain ⟨v, h1, h2⟩ := r.get e
        refine ⟨v, ?_, h2⟩
        unfold L2.start
        rw [List.getElem?_append_left (by rw [List.length_map, ← r.length]; exact hi), List.getElem?_map, h1]
        rfl
    · rw [List.getElem?_append_right (by simpa using hi), List.getElem?_replicate] at h
      split at h <;> cases h
  ap := fun i a h => absurd h (by simp)
  dj := fun i j a h => absurd h (by simp)
  pn := fun i a h => by cases h
section
variable {P : Program} {w : World} {K : PySem.W.Frag} {mg : Str → Option Value} {base : Heap} {x qual : Str} {st : Stmt} {f : Addr} {fd : FuncData} {N ps : List Str} {k : Nat} {G : List D → (D → Prop) → Prop}
/-- the end of a def's body -/
def fin (Pd : D → Prop) : Out → Prop
  | .rt d _ => Pd d
  | .nx _ => Pd .non
  | _ => False
theorem fn_pure (F : Fun K x qual st f fd) (S : FnScope N ps (defScope st)) (hG : ∀ ds Pd, G ds Pd → ds.length = ps.length)
    (body : ∀ (cdv : Value) (A : Around) (outer : List Env) (s : Shared) (H : Hp) (E : XK) (ds : List D) (Pd : D → Prop), Room k (A.deeper (envOfC qual (defScope st) s.heap.objs.size f cdv)) → G ds Pd →
      JSs (cxOf CX0 P w K mg base N qual (defScope st) f cdv A outer s H E).nox [] (defBody st) (startR N ds) (fin Pd)) : FnOk P w K mg base CX0 (k + 1) f fd ps (spP K ps.length G) := by
  refine F.ok S (fun vs H Q E h => h.1) fun cdv A outer s H vs Q E hr h => ?_
  obtain ⟨_, W, ds, Pd, ex, r, hg, q⟩ := h
  refine ⟨_, pss_w, ?_⟩
  refine body cdv A outer s H E ds Pd hr hg ⟨W, H, fun _ => False, fun _ => none⟩ (L2.start N vs) H _ (fun i => ⟨fun z => absurd rfl z, fun z => absurd z (by simp)⟩) ⟨W, _, start_ok ex r⟩ fun o ho => ?_
  cases o with
  | nx ρ => exact fun σ' H' ⟨Hf, A', s'⟩ => q _ ho .non Hf H' ⟨s'.w0, s'.fh, fun b o h => s'.hh b o h (fun z => z), s'.fr⟩ .non
  | rt d ρ => exact fun v H' ⟨σ', Hf, A', W', s', h1, h2, h3, _, h5⟩ => q _ ho v W' H' ⟨s'.w0.trans h1, h2, fun b o h => s'.hh b o h (fun z => z), h3⟩ h5
  | bk ρ => exact ho.elim
  | ct ρ => exact ho.elim
  | ex er ρ => exact ho.elim
end
end Pf

namespace Pf
open PySem PyProof.Rows L2
open Evl (Ex)

section
variable {X : Cx} {pin : List Nat} {e a o : Expr} {es : List Expr} {ρ : Rho} {d : D} {ds : List D} {C : Addr} {fds : List (Str × D)} {pos p apos : Pos} {f m : Str} {k j n i : Nat}
end

section
variable {P : Program} {w : World} {K : PySem.W.Frag} {mg : Str → Option Value} {base : Heap} {x qual : Str} {st : Stmt} {f : Addr} {fd : FuncData} {N ps : List Str} {k : Nat} {G : D → List D → (D → D → Prop) → Prop}
end

structure JM (X : Cx) (pin : List Nat) (e : Expr) (ρ : RhoS) (Ψ : D → RhoS → Prop) : Prop where
  run : ∀ (E : Ent) σ H, E.Pins pin → StOk X.K E ρ σ H → ∀ Q : VK, (∀ r ρ', Ψ r ρ' → ∀ v H' Hf A, StAt X.K E ρ' σ H' Hf A → Rep X.K Hf r v → Q v H') → wE X e σ H Q
instance {X : Cx} {pin : List Nat} {e : Expr} {ρ : RhoS} {Ψ : D → RhoS → Prop} : CoeFun (JM X pin e ρ Ψ) (fun _ => ∀ (E : Ent) σ H, E.Pins pin → StOk X.K E ρ σ H → ∀ Q : VK, (∀ r ρ', Ψ r ρ' → ∀ v H' Hf A, StAt X.K E ρ' σ H' Hf A → Rep X.K Hf r v → Q v H') → wE X e σ H Q) := ⟨JM.run⟩
structure JTM (X : Cx) (pin : List Nat) (e : Expr) (ρ : RhoS) (Ψ : Bool → RhoS → Prop) : Prop where
  run : ∀ (E : Ent) σ H, E.Pins pin → StOk X.K E ρ σ H → ∀ Q : Bool → Hp → Prop, (∀ r ρ', Ψ r ρ' → ∀ H', StOk X.K E ρ' σ H' → Q r H') → wT X e σ H Q
instance {X : Cx} {pin : List Nat} {e : Expr} {ρ : RhoS} {Ψ : Bool → RhoS → Prop} : CoeFun (JTM X pin e ρ Ψ) (fun _ => ∀ (E : Ent) σ H, E.Pins pin → StOk X.K E ρ σ H → ∀ Q : Bool → Hp → Prop, (∀ r ρ', Ψ r ρ' → ∀ H', StOk X.K E ρ' σ H' → Q r H') → wT X e σ H Q) := ⟨JTM.run⟩
section
variable {X : Cx} {pin : List Nat} {e a o c : Expr} {es sa sb : List Expr} {ρ : RhoS} {d : D} {ds : List D} {C : Addr} {fds : List (Str × D)} {pos p p1 p' apos : Pos} {f m x : Str} {k j n i : Nat} {G : D → List D → (D → D → Prop) → Prop} {P : D → D → Prop} {Φ : Out → Prop}
theorem JM.imp {Ψ Ψ' : D → RhoS → Prop} (h : JM X pin e ρ Ψ) (k : ∀ r ρ', Ψ r ρ' → Ψ' r ρ') : JM X pin e ρ Ψ' := ⟨fun E σ H hp s Q g => h E σ H hp s Q fun r ρ' z => g r ρ' (k r ρ' z)⟩
def putD (f : Str) (v : D) : List (Str × D) → List (Str × D)
  | [] => [(f, v)]
  | (g, u) :: r => if g = f then (g, v) :: r else (g, u) :: putD f v r
theorem putD_names {f : Str} {d : D} {v : V} : ∀ {fds : List (Str × D)} {fs : List (Str × V)}, fs.map (·.1) = fds.map (·.1) → (putF f v fs).map (·.1) = (putD f d fds).map (·.1)
  | [], [], _ => rfl
  | [], _ :: _, h => by cases h
  | _ :: _, [], h => by cases h
  | (g, u) :: r, (g', u') :: r', h => by
    simp only [List.map_cons, List.cons.injEq] at h
    obtain ⟨rfl, h⟩ := h
    unfold putF putD
    by_cases e : g' = f
    · rw [if_pos e, if_pos e]; simp [h]
    · rw [if_neg e, if_neg e]; simp only [List.map_cons, putD_names (d := d) (v := v) (f := f) h]
theorem putD_own {K : PySem.W.Frag} {Hf H : Hp} {f : Str} {d : D} {v : V} (r : Rep K Hf d v) (hm : mutD d = false) : ∀ {fds : List (Str × D)} {fs : List (Str × V)} {B : List Addr}, fs.map (·.1) = fds.map (·.1) → OwnFs K Hf H (fds.map (·.2)) (fs.map (·.2)) B → ∃ B', (∀ b ∈ B', b ∈ B) ∧ OwnFs K Hf H ((putD f d fds).map (·.2)) ((putF f v fs).map (·.2)) B'
  | [], [], _, _, _ => ⟨[] ++ [], by simp, .cons (.fz r) .nil (by simp) (by rw [hm]; simp)⟩
  | [], _ :: _, _, h, _ => by cases h
  | _ :: _, [], _, h, _ => by cases h
  | (g, u) :: r0, (g', u') :: r', _, h, hr => by
    simp only [List.map_cons, List.cons.injEq] at h
    obtain ⟨rfl, h⟩ := h
    cases hr with
    | @cons _ _ _ _ A B q t nd w =>
      unfold putF putD
      by_cases e : g' = f
      · rw [if_pos e, if_pos e]
        exact ⟨[] ++ B, fun b hb => List.mem_append_right _ (by simpa using hb), .cons (.fz r) t (by simp) (by rw [hm]; simp)⟩
      · rw [if_neg e, if_neg e]
        obtain ⟨B', h1, h2⟩ := putD_own r hm h t
        exact ⟨A ++ B', fun b hb => by
          rcases List.mem_append.mp hb with z | z
          · exact List.mem_append_left _ z
          · exact List.mem_append_right _ (h1 b z), .cons q h2 (fun a ha hb => nd a ha (h1 a hb)) w⟩
/-- x.f = e: the state behind the value -/
theorem StAt.fld {K : PySem.W.Frag} {E : Ent} {σ : L2.St} {H Hf : Hp} {A : Nat → List Addr} {v y : V} (s : StAt K E ρ σ H Hf A) (hi : ρ[i]? = some (some (.ow (.ins C fds)))) (hσ : σ[i]? = some (some v)) (r : Rep K Hf d y) (hm : mutD d = false) :
    ∃ a dx fs, v = .ref a ∧ H a = some (.ins C dx fs) ∧ fs.length = fds.length ∧ StOk K E (ρ.set i (some (.ow (.ins C (putD f d fds))))) σ (upd H a (.ins C dx (putF f y fs))) := by
  obtain ⟨v', hσ', ow, ne⟩ := s.sl i _ hi
  rw [hσ] at hσ'
  cases hσ'
  generalize hA : A i = Ai at ow ne
  cases ow with
  | fz _ => exact absurd rfl ne
  | @ins a _ dx fs _ B h1 h2 h3 nB =>
    refine ⟨a, dx, fs, rfl, h1, by have := congrArg List.length h2; simpa using this, ?_⟩
    obtain ⟨B', k1, k2⟩ := putD_own (f := f) r hm h2 h3
    refine ⟨Hf, _, s.change (B := a :: B') hi hσ (by rw [hA]; exact List.mem_cons_self) (by simp) (fun b hb => by
      rw [hA]
      rcases List.mem_cons.mp hb with z | z
      · rw [z]; exact List.mem_cons_self
      · exact List.mem_cons_of_mem _ (k1 b z)) (.ins upd_same (putD_names h2) (k2.move (.refl _) fun b hb => upd_ne fun z => nB (by rw [← z]; exact k1 b hb)) fun z => nB (k1 a z))⟩
/-- e is a new object of its own -/
structure JO1 (X : Cx) (e : Expr) (ρ : Rho) (P : D → Prop) : Prop where
  run : ∀ W σ H, Ex W H → Vis X.K ρ W σ → ∀ Q : VK, (∀ (d : D) (a : Addr) (W' H' : Hp) (A' : List Addr), P d → Step W H W' H' → Own X.K W' H' d (.ref a) A' → A' ≠ [] → (∀ b ∈ A', W' b = none ∧ H' b ≠ none ∧ H b = none) → Q (.ref a) H') → wE X e σ H Q
instance {X : Cx} {e : Expr} {ρ : Rho} {P : D → Prop} : CoeFun (JO1 X e ρ P) (fun _ => ∀ W σ H, Ex W H → Vis X.K ρ W σ → ∀ Q : VK, (∀ (d : D) (a : Addr) (W' H' : Hp) (A' : List Addr), P d → Step W H W' H' → Own X.K W' H' d (.ref a) A' → A' ≠ [] → (∀ b ∈ A', W' b = none ∧ H' b ≠ none ∧ H b = none) → Q (.ref a) H') → wE X e σ H Q) := ⟨JO1.run⟩
theorem JO1.imp {P1 P2 : D → Prop} {ρ : Rho} (h : JO1 X e ρ P1) (k : ∀ d, P1 d → P2 d) : JO1 X e ρ P2 := ⟨fun W σ H ex hV Q g => h W σ H ex hV Q fun d a W' H' A' hp => g d a W' H' A' (k d hp)⟩
end
end Pf

namespace Pf
open PySem PyProof.Rows L2
open Evl (Ex)

def OpD (X : Cx) (bo : Operator) (x y z : D) : Prop := ∃ r, OpR X (binaryOp bo) r ∧ R2D X.K r x y z
def CmD (X : Cx) (op : CmpOp) (x y : D) (b : Bool) : Prop := ∃ r, OpR X (compareOp op) r ∧ R2D X.K r x y (.bl b)
section
variable {X : Cx} {a b c e : Expr} {es : List Expr} {ρ : Rho} {x y z d : D} {ds es' : List D} {pos p p2 : Pos} {op op' : CmpOp} {bo : Operator} {t u : Bool} {i j : Int} {s s' : Str}
theorem j_bin (ha : J X a ρ x) (hb : J X b ρ y) (h : OpD X bo x y z) : J X (.BinOp a bo b pos) ρ z := by
  obtain ⟨r, h1, h2⟩ := h
  exact j_op h1 ha hb h2
theorem j_cm (ha : J X a ρ x) (hb : J X b ρ y) (h : CmD X op x y t) (hm : behindInMarks op b = false := by first | exact nobehind _ (by decide) (by decide) | rfl) : J X (.Compare a [op] [b] pos) ρ (.bl t) := by
  obtain ⟨r, h1, h2⟩ := h
  exact j_cmp h1 ha hb h2 hm
theorem jt_cm (ha : J X a ρ x) (hb : J X b ρ y) (h : CmD X op x y t) (hm : behindInMarks op b = false := by first | exact nobehind _ (by decide) (by decide) | rfl) : JT X (.Compare a [op] [b] pos) ρ t := by
  obtain ⟨r, h1, h2⟩ := h
  exact jt_cmp h1 ha hb h2 hm
theorem j_ch (ha : J X a ρ x) (hb : J X b ρ y) (hc : J X c ρ z) (h1 : CmD X op x y t) (h2 : CmD X op' y z u) (hm : lastMarks [op, op'] [b, c] = false := by with_unfolding_all rfl) : J X (.Compare a [op, op'] [b, c] pos) ρ (.bl (t && u)) := by
  obtain ⟨r, k1, k2⟩ := h1
  obtain ⟨r', k1', k2'⟩ := h2
  exact j_chain k1 k1' ha hb (fun _ => hc) k2 (fun _ => k2') hm
theorem od_addI : OpD X .Add (.int i) (.int j) (.int (i + j)) := ⟨_, op_add, r2_I0⟩
theorem od_addL (h : ds.length + es'.length ≤ sizeLine) : OpD X .Add (.lst ds) (.lst es') (.lst (ds ++ es')) := ⟨_, op_cat, r2_addL h⟩
theorem od_addT (h : ds.length + es'.length ≤ sizeLine) : OpD X .Add (.tup ds) (.tup es') (.tup (ds ++ es')) := ⟨_, op_catA, r2_addT h⟩
theorem od_subI : OpD X .Sub (.int i) (.int j) (.int (i - j)) := ⟨_, op_sub, r2_I0⟩
theorem od_mulI (h : CMul i j) : OpD X .Mult (.int i) (.int j) (.int (i * j)) := ⟨_, op_mul, r2_I h⟩
theorem od_fdivI (h : CDiv i j) : OpD X .FloorDiv (.int i) (.int j) (.int (i / j)) := ⟨_, op_fdiv, r2_I h⟩
theorem od_modI (h : 0 < j) : OpD X .Mod (.int i) (.int j) (.int (i % j)) := ⟨_, op_mod, r2_I (C := fun _ j => 0 < j) h⟩
theorem od_powI (h : CPow i j) : OpD X .Pow (.int i) (.int j) (.int (i ^ j.toNat)) := ⟨_, op_pow, r2_I (C := CPow) (g := fun i j => i ^ j.toNat) h⟩
theorem cd_ltI : CmD X .Lt (.int i) (.int j) (decide (i < j)) := ⟨_, op_lt, r2_B0⟩
theorem cd_leI : CmD X .LtE (.int i) (.int j) (decide (i ≤ j)) := ⟨_, op_le, r2_B0⟩
theorem cd_gtI : CmD X .Gt (.int i) (.int j) (decide (j < i)) := ⟨_, op_gt, r2_B0 (g := fun i j => decide (j < i))⟩
theorem cd_geI : CmD X .GtE (.int i) (.int j) (decide (j ≤ i)) := ⟨_, op_ge, r2_B0 (g := fun i j => decide (j ≤ i))⟩
theorem cd_eqI : CmD X .Eq (.int i) (.int j) (decide (i = j)) := ⟨_, op_eq, r2_eqI⟩
theorem cd_eqS : CmD X .Eq (.str s) (.str s') (decide (s = s')) := ⟨_, op_eq, r2_eqS⟩
theorem cd_eqB : CmD X .Eq (.bl t) (.bl u) (decide (t = u)) := ⟨_, op_eq, r2_eqB⟩
theorem cd_neI : CmD X .NotEq (.int i) (.int j) (!decide (i = j)) := ⟨_, op_ne, r2_neI⟩
theorem cd_neS : CmD X .NotEq (.str s) (.str s') (!decide (s = s')) := ⟨_, op_ne, r2_neS⟩
theorem cd_isN : CmD X .Is d .non (isNon d) := ⟨_, op_isN, r2_isN⟩
theorem cd_inStrL {xs : List Str} : CmD X .In (.str s) (.lst (xs.map D.str)) (decide (s ∈ xs)) := ⟨_, op_in_seq, r2_inStrL⟩
theorem cd_inStrT {xs : List Str} : CmD X .In (.str s) (.tup (xs.map D.str)) (decide (s ∈ xs)) := ⟨_, op_in_seq, r2_inStrT⟩
theorem cd_inSign {n : Nat} : CmD X .In (.str ⟨#[n]⟩) (.str s) (decide (n ∈ s.cps.toList)) := ⟨_, op_in_sign, r2_inSign⟩
theorem cd_eqD {d e : D} {p q : PyData} (hu : X.A.units + 64 < cLine) (h1 : toPy d = some p) (h2 : toPy e = some q) (s1 : SeqAt.shaped p = true) (s2 : SeqAt.shaped q = true) (hb : PyData.eqv p q = t) : CmD X .Eq d e t := ⟨_, op_eqD hu, r2_eqD h1 h2 s1 s2 hb⟩
def IxD (x y d : D) : Prop := (∃ ds i, x = .lst ds ∧ y = .int i ∧ atI ds i = some d) ∨ (∃ ds i, x = .tup ds ∧ y = .int i ∧ atI ds i = some d) ∨ (∃ (z : Str) (i : Int) (n : Nat), x = .str z ∧ y = .int i ∧ z.length ≤ sizeLine ∧ atI z.cps.toList i = some n ∧ d = .str ⟨#[n]⟩)
theorem j_ix (ha : J X a ρ x) (hb : J X b ρ y) (h : IxD x y d) (hs : PlainIx b := by exact fun _ _ => rfl) : J X (.Subscript a b pos) ρ d := by
  rcases h with ⟨ds, i, rfl, rfl, h⟩ | ⟨ds, i, rfl, rfl, h⟩ | ⟨z, i, n, rfl, rfl, hz, h, rfl⟩
  · exact j_ixL ha hb h hs
  · exact j_ixT ha hb h hs
  · exact j_ixS ha hb hz h hs
theorem ixd_L (h : atI ds i = some d) : IxD (.lst ds) (.int i) d := .inl ⟨ds, i, rfl, rfl, h⟩
theorem ixd_T (h : atI ds i = some d) : IxD (.tup ds) (.int i) d := .inr (.inl ⟨ds, i, rfl, rfl, h⟩)
theorem ixd_I {ns : List Int} (h0 : 0 ≤ i) (h1 : i < ns.length) : IxD (.lst (ns.map D.int)) (.int i) (.int (ns.getD i.toNat 0)) := ixd_L (atI_ints h0 h1)
def SlD (x : D) (o1 o2 : Option Int) (d : D) : Prop := (∃ ds, x = .lst ds ∧ d = .lst (cut ds o1 o2)) ∨ (∃ ds, x = .tup ds ∧ d = .tup (cut ds o1 o2)) ∨ (∃ ns, x = .scr ns ∧ d = .lst ((cut ns o1 o2).map D.int)) ∨ (∃ z : Str, x = .str z ∧ z.length ≤ sizeLine ∧ d = .str (cutS z o1 o2))
theorem j_sl {lo hi : Option Expr} {o1 o2 : Option Int} (ha : J X a ρ x) (h1 : JO X lo ρ o1) (h2 : JO X hi ρ o2) (h : SlD x o1 o2 d) : J X (.Subscript a (.Slice lo hi none p2) pos) ρ d := by
  rcases h with ⟨ds, rfl, rfl⟩ | ⟨ds, rfl, rfl⟩ | ⟨ds, rfl, rfl⟩ | ⟨z, rfl, hz, rfl⟩
  · exact j_slL ha h1 h2
  · exact j_slT ha h1 h2
  · exact j_slScr ha h1 h2
  · exact j_slS ha hz h1 h2
theorem sld_L {o1 o2 : Option Int} : SlD (.lst ds) o1 o2 (.lst (cut ds o1 o2)) := .inl ⟨ds, rfl, rfl⟩
theorem sld_T {o1 o2 : Option Int} : SlD (.tup ds) o1 o2 (.tup (cut ds o1 o2)) := .inr (.inl ⟨ds, rfl, rfl⟩)
theorem sld_X {ns : List Int} {o1 o2 : Option Int} : SlD (.scr ns) o1 o2 (.lst ((cut ns o1 o2).map D.int)) := .inr (.inr (.inl ⟨ns, rfl, rfl⟩))
end
/-- what the built-ins' names are at the top: none of them is stored -/
structure Bt (mg : Str → Option Value) : Prop where
  len : mg "len" = none
  int : mg "int" = none
  abs : mg "abs" = none
  range : mg "range" = none
  tuple : mg "tuple" = none
  list : mg "list" = none
  sorted : mg "sorted" = none
  set : mg "set" = none
  isinstance : mg "isinstance" = none
  bool : mg "bool" = none
  min : mg "min" = none
  max : mg "max" = none
  sum : mg "sum" = none
  all : mg "all" = none
  any : mg "any" = none
  str : mg "str" = none
  zip : mg "zip" = none
  enumerate : mg "enumerate" = none
section
variable {X : Cx} {e : Expr} {es : List Expr} {ρ : Rho} {d : D} {ds : List D} {pos p : Pos} {i j : Int} {n : Nat} (T : Bt X.mg)
include T
theorem jb_len (ha : JA X [e] ρ [d]) (h : lenD d = some n) (hg : Gl X "len" := by rfl) (he : starEach [e] X.env = (false, eval e X.env) :: starEach [] X.env := by rfl) (hpl : (backTo pos (starEach [] X.env)).any (·.1) = false := by rfl) : J X (.Call (.Name "len" p) [e] [] pos) ρ (.int n) := j_cb call_len T.len PySem.boot_len ha (rc_len h) hg (by decide) (by decide) he hpl
theorem jb_int (ha : JA X [e] ρ [.int i]) (hg : Gl X "int" := by rfl) (he : starEach [e] X.env = (false, eval e X.env) :: starEach [] X.env := by rfl) (hpl : (backTo pos (starEach [] X.env)).any (·.1) = false := by rfl) : J X (.Call (.Name "int" p) [e] [] pos) ρ (.int i) := j_ct call_int1 T.int (by decide +kernel) ha rc_int hg (by decide) (by decide) he hpl
theorem jb_abs (ha : JA X [e] ρ [.int i]) (hg : Gl X "abs" := by rfl) (he : starEach [e] X.env = (false, eval e X.env) :: starEach [] X.env := by rfl) (hpl : (backTo pos (starEach [] X.env)).any (·.1) = false := by rfl) : J X (.Call (.Name "abs" p) [e] [] pos) ρ (.int (if i < 0 then -i else i)) := j_cb call_abs T.abs (by decide +kernel) ha rc_abs hg (by decide) (by decide) he hpl
theorem jb_sum {ns : List Int} (ha : JA X [e] ρ [.lst (ns.map D.int)]) (hc : X.calm = true := by rfl) (hg : Gl X "sum" := by rfl) (he : starEach [e] X.env = (false, eval e X.env) :: starEach [] X.env := by rfl) (hpl : (backTo pos (starEach [] X.env)).any (·.1) = false := by rfl) : J X (.Call (.Name "sum" p) [e] [] pos) ρ (.int ns.sum) := j_cb (cr_sum hc) T.sum (by decide +kernel) ha rc_sum hg (by decide) (by decide) he hpl
theorem jb_all {bs : List Bool} (ha : JA X [e] ρ [.lst (bs.map D.bl)]) (hc : X.calm = true := by rfl) (hg : Gl X "all" := by rfl) (he : starEach [e] X.env = (false, eval e X.env) :: starEach [] X.env := by rfl) (hpl : (backTo pos (starEach [] X.env)).any (·.1) = false := by rfl) : J X (.Call (.Name "all" p) [e] [] pos) ρ (.bl (bs.all id)) := j_cb (cr_all hc) T.all (by decide +kernel) ha rc_all hg (by decide) (by decide) he hpl
theorem jb_tupleL (ha : JA X [e] ρ [.lst ds]) (hg : Gl X "tuple" := by rfl) (he : starEach [e] X.env = (false, eval e X.env) :: starEach [] X.env := by rfl) (hpl : (backTo pos (starEach [] X.env)).any (·.1) = false := by rfl) : J X (.Call (.Name "tuple" p) [e] [] pos) ρ (.tup ds) := j_ct call_tuple_of T.tuple (by decide +kernel) ha rc_tupleL hg (by decide) (by decide) he hpl
theorem jb_max2 {e2 : Expr} (ha : JA X [e, e2] ρ [.int i, .int j]) (hc : X.calm = true := by rfl) (hg : Gl X "max" := by rfl) (he : starEach [e, e2] X.env = (false, eval e X.env) :: starEach [e2] X.env := by rfl) (hpl : (backTo pos (starEach [e2] X.env)).any (·.1) = false := by rfl) : J X (.Call (.Name "max" p) [e, e2] [] pos) ρ (.int (if j > i then j else i)) := j_cb (call_max2 hc) T.max (by decide +kernel) ha rc_max2 hg (by decide) (by decide) he hpl
theorem jb_isi {e2 : Expr} {Ty : String} {t : Value} {b : Bool} (ha : JA X [e, e2] ρ [d, .ty Ty]) (h : tyD d = some t) (hk : PySem.W.kitOne X.K t (.type Ty) = some b) (hg : Gl X "isinstance" := by rfl) (he : starEach [e, e2] X.env = (false, eval e X.env) :: starEach [e2] X.env := by rfl) (hpl : (backTo pos (starEach [e2] X.env)).any (·.1) = false := by rfl) : J X (.Call (.Name "isinstance" p) [e, e2] [] pos) ρ (.bl b) := j_cb call_isi T.isinstance (by decide +kernel) ha (rc_isi h hk) hg (by decide) (by decide) he hpl
end
end Pf

namespace Pf
open PySem PyProof.Rows L2
open Evl (Ex)
section
variable {X : Cx} {pin : List Nat} {st : Stmt} {rest body : List Stmt} {ρ : Rho} {σ : RhoS} {Φ : Out → Prop} {e iter tg : Expr} {d : D} {ds : List D} {pos : Pos} {n : Str}
theorem jv (i : Nat) (hr : ρ[i]? = some (some d)) (hN : X.N[i]? = some n := by rfl) (hv : L2.Vis X.env.scope n := by first | exact Or.inl rfl | exact Or.inr (Or.inl rfl) | exact Or.inr (Or.inr rfl)) (hd : (n == ("__debug__" : Str)) = false := by decide) (hcd : (n == ("__classdict__" : Str)) = false := by decide) : J X (.Name n pos) ρ d := j_var hr hN hv hd hcd
theorem jss_mid (Ψ : RhoS → Prop) (h : JS X pin st σ (fun o => ∃ ρ', o = .nx ρ' ∧ Ψ ρ')) (k : ∀ ρ', Ψ ρ' → JSs X pin rest ρ' Φ) : JSs X pin (st :: rest) σ Φ := jss_cons (h.imp fun o ⟨ρ', e, h⟩ => by subst e; exact k ρ' h)
theorem rangeD_get {lo : Int} {n k : Nat} (h : (rangeD lo n)[k]? = some d) : d = .int (lo + k) ∧ k < n := by
  unfold rangeD at h
  rw [List.getElem?_map] at h
  cases e : (List.range n)[k]? with
  | none => rw [e] at h; cases h
  | some m =>
    rw [e] at h
    obtain ⟨hk, e'⟩ := List.getElem?_eq_some_iff.mp e
    rw [List.getElem_range] at e'
    subst e'
    cases h
    rw [List.length_range] at hk
    exact ⟨rfl, hk⟩
theorem rangeD_length {lo : Int} {n : Nat} : (rangeD lo n).length = n := by unfold rangeD; rw [List.length_map, List.length_range]
theorem map_get {α : Type} {f : α → D} {xs : List α} {k : Nat} (h : (xs.map f)[k]? = some d) : ∃ x, xs[k]? = some x ∧ d = f x := by
  rw [List.getElem?_map] at h
  cases e : xs[k]? with
  | none => rw [e] at h; cases h
  | some x => rw [e] at h; cases h; exact ⟨x, rfl, rfl⟩
/-- for k in range(..) -/
theorem js_range {i : Nat} {p : Pos} {a : Expr} (m : Nat) (I : Nat → RhoS → Prop) (T : Bt X.mg) (ha : J X a (fzR σ) (.int (m : Int))) (hm : m < 2 ^ 62) (nd : X.N.Nodup) (h0 : I 0 σ) (turn : ∀ (k : Nat) σ, k < m → I k σ → JSs X pin body (σ.set i (some (.fz (.int (k : Int))))) (turnO (I (k + 1)) Φ)) (done : ∀ σ, I m σ → Φ (.nx σ))
    (hi : X.N[i]? = some n := by rfl) (hx : Loc X.env.scope n := by first | exact Or.inl rfl | exact Or.inr rfl) (hf : X.fn n = true ∨ X.env.scope.names.lookup n = some .local := by first | exact .inl rfl | exact .inr rfl) (hp : i ∉ pin := by decide) (hps : PassesOwn (model X.prog X.w) X.A X.env X.xe := by first | exact PassesOwn.never | assumption)
    (hg : Gl X "range" := by rfl) (hs : starEach [a] X.env = [(false, eval a X.env)] := by rfl) (hc : X.calm = true := by rfl) (hfs : ∀ x, foldedSetIterable (.Call (.Name "range" p) [a] [] pos) X.env x = pure x := by intro _; rfl) {q pos' : Pos} :
    JS X pin (.For (.Name n q) (.Call (.Name "range" p) [a] [] pos) body [] pos') σ Φ := by
  have hj : JI X (.Name n q) (.Call (.Name "range" p) [a] [] pos) (fzR σ) (rangeD 0 m) := by
    have := ji_range1 (X := X) (tg := .Name n q) (p := p) (pos := pos) T.range ha (by omega) (by omega) hg hs
    rwa [Int.toNat_natCast] at this
  refine js_for (pat := .nm i) I hj (pg_name nd hi hx hf) h0 (fun k d σ hd hI => ?_) (fun σ h => done σ (by rw [rangeD_length] at h; exact h)) hps (fun j hj => (List.mem_singleton.mp hj : j = i) ▸ hp) hc hfs
  obtain ⟨rfl, hk⟩ := rangeD_get hd
  refine ⟨_, rfl, ?_⟩
  rw [Int.zero_add]
  exact turn k σ hk hI
/-- for x in a list or tuple of a kind -/
theorem js_each {α : Type} {i : Nat} (xs : List α) (g : α → D) (I : Nat → RhoS → Prop) (hj : JI X (.Name n pos) iter (fzR σ) (xs.map g)) (nd : X.N.Nodup) (h0 : I 0 σ) (turn : ∀ (k : Nat) x σ, xs[k]? = some x → I k σ → JSs X pin body (σ.set i (some (.fz (g x)))) (turnO (I (k + 1)) Φ)) (done : ∀ σ, I xs.length σ → Φ (.nx σ))
    (hi : X.N[i]? = some n := by rfl) (hx : Loc X.env.scope n := by first | exact Or.inl rfl | exact Or.inr rfl) (hf : X.fn n = true ∨ X.env.scope.names.lookup n = some .local := by first | exact .inl rfl | exact .inr rfl) (hp : i ∉ pin := by decide) (hps : PassesOwn (model X.prog X.w) X.A X.env X.xe := by first | exact PassesOwn.never | assumption)
    (hc : X.calm = true := by rfl) (hfs : ∀ x, foldedSetIterable iter X.env x = pure x := by intro _; rfl) {pos' : Pos} :
    JS X pin (.For (.Name n pos) iter body [] pos') σ Φ := by
  refine js_for (pat := .nm i) I hj (pg_name nd hi hx hf) h0 (fun k d σ hd hI => ?_) (fun σ h => done σ (by rw [List.length_map] at h; exact h)) hps (fun j hj => (List.mem_singleton.mp hj : j = i) ▸ hp) hc hfs
  obtain ⟨x, hx, rfl⟩ := map_get hd
  exact ⟨_, rfl, turn k x σ hx hI⟩
end
theorem cmulL {i j : Int} (h1 : -(2 ^ 64) < i := by decide) (h2 : i < 2 ^ 64 := by decide) : CMul i j := .inl ⟨h1, h2⟩
theorem cmulR {i j : Int} (h1 : -(2 ^ 64) < j := by decide) (h2 : j < 2 ^ 64 := by decide) : CMul i j := .inr ⟨h1, h2⟩
end Pf

namespace Pf
open PySem PyProof.Rows L2
open Evl (Ex)
mutual
def fitD : Nat → D → Bool
  | _, .non => true
  | _, .bl _ => true
  | _, .int _ => true
  | _, .str x => PySem.PyData.strOk x
  | n + 1, .lst xs => fitAllD n xs
  | n + 1, .tup xs => fitAllD n xs
  | _, _ => false
def fitAllD : Nat → List D → Bool
  | _, [] => true
  | n, x :: xs => fitD n x && fitAllD n xs
end
mutual
def eqvD : D → D → Bool
  | .non, .non => true
  | .bl a, .bl b => a == b
  | .bl a, .int b => (if a then 1 else 0) == b
  | .int a, .bl b => a == (if b then 1 else 0)
  | .int a, .int b => a == b
  | .str a, .str b => a == b
  | .lst xs, .lst ys => eqvAllD xs ys
  | .tup xs, .tup ys => eqvAllD xs ys
  | _, _ => false
def eqvAllD : List D → List D → Bool
  | [], [] => true
  | x :: xs, y :: ys => eqvD x y && eqvAllD xs ys
  | _, _ => false
end
mutual
theorem fit_py : ∀ (n : Nat) (d : D), fitD n d = true → ∃ p, toPy d = some p ∧ p.canLay0 = true ∧ p.depth ≤ n
  | _, .non, _ => ⟨.none, by simp [toPy], by simp [PyData.canLay0], by simp [PyData.depth]⟩
  | _, .bl b, _ => ⟨.bool b, by simp [toPy], by simp [PyData.canLay0], by simp [PyData.depth]⟩
  | _, .int b, _ => ⟨.int b, by simp [toPy], by simp [PyData.canLay0], by simp [PyData.depth]⟩
  | _, .str x, h => ⟨.str x, by simp [toPy], by simpa [PyData.canLay0, fitD] using h, by simp [PyData.depth]⟩
  | n + 1, .lst xs, h => by
    obtain ⟨ps, h1, h2, h3⟩ := fitAll_py n xs (by simpa [fitD] using h)
    exact ⟨.list ps, by simp [toPy, h1], by simpa [PyData.canLay0] using h2, by simp [PyData.depth]; omega⟩
  | n + 1, .tup xs, h => by
    obtain ⟨ps, h1, h2, h3⟩ := fitAll_py n xs (by simpa [fitD] using h)
    exact ⟨.tuple ps, by simp [toPy, h1], by simpa [PyData.canLay0] using h2, by simp [PyData.depth]; omega⟩
  | 0, .lst xs, h => by simp [fitD] at h
  | 0, .tup xs, h => by simp [fitD] at h
  | _, .dct _, h => by simp [fitD] at h
  | _, .ins _ _, h => by simp [fitD] at h
  | _, .scr _, h => by simp [fitD] at h
  | _, .ty _, h => by simp [fitD] at h
theorem fitAll_py : ∀ (n : Nat) (ds : List D), fitAllD n ds = true → ∃ ps, toPys ds = some ps ∧ PyData.canLayAll0 ps = true ∧ PyData.depthAll ps ≤ n
  | _, [], _ => ⟨[], by simp [toPys], by simp [PyData.canLayAll0], by simp [PyData.depthAll]⟩
  | n, x :: xs, h => by
    have h' : fitD n x = true ∧ fitAllD n xs = true := by simpa [fitAllD] using h
    obtain ⟨p, h1, h2, h3⟩ := fit_py n x h'.1
    obtain ⟨ps, k1, k2, k3⟩ := fitAll_py n xs h'.2
    exact ⟨p :: ps, by simp [toPys, h1, k1], by simp [PyData.canLayAll0, h2, k2], by simp [PyData.depthAll]; omega⟩
end
mutual
theorem eqv_py : ∀ (n : Nat) (d e : D) (p q : PyData), fitD n d = true → fitD n e = true → toPy d = some p → toPy e = some q → PyData.eqv p q = eqvD d e := by
  intro n d e p q h1 h2 h3 h4
  cases d <;> simp only [toPy, Option.some.injEq, Option.map_eq_some_iff, reduceCtorEq] at h3 <;>
    cases e <;> simp only [toPy, Option.some.injEq, Option.map_eq_some_iff, reduceCtorEq] at h4 <;>
    first
    | (subst h3; subst h4; simp [PyData.eqv, eqvD]; done)
    | (obtain ⟨ps, h3, rfl⟩ := h3; subst h4; simp [PyData.eqv, eqvD]; done)
    | (obtain ⟨ps, h4, rfl⟩ := h4; subst h3; simp [PyData.eqv, eqvD]; done)
    | (obtain ⟨ps, h3, rfl⟩ := h3
       obtain ⟨qs, h4, rfl⟩ := h4
       first
       | (simp [PyData.eqv, eqvD]; done)
       | (simp only [PyData.eqv, eqvD]
          cases n with
          | zero => simp [fitD] at h1
          | succ n => exact eqvAll_py n _ _ ps qs (by simpa [fitD] using h1) (by simpa [fitD] using h2) h3 h4))
theorem eqvAll_py : ∀ (n : Nat) (ds es : List D) (ps qs : List PyData), fitAllD n ds = true → fitAllD n es = true → toPys ds = some ps → toPys es = some qs → PyData.eqvAll ps qs = eqvAllD ds es
  | n, [], [], ps, qs, _, _, h3, h4 => by simp [toPys] at h3 h4; subst h3; subst h4; simp [PyData.eqvAll, eqvAllD]
  | n, [], e :: es, ps, qs, _, h2, h3, h4 => by
    have h' : fitD n e = true ∧ fitAllD n es = true := by simpa [fitAllD] using h2
    obtain ⟨q, k1, _, _⟩ := fit_py n e h'.1
    obtain ⟨qs', k2, _, _⟩ := fitAll_py n es h'.2
    simp [toPys] at h3; subst h3
    simp [toPys, k1, k2] at h4; subst h4
    simp [PyData.eqvAll, eqvAllD]
  | n, e :: es, [], ps, qs, h2, _, h4, h3 => by
    have h' : fitD n e = true ∧ fitAllD n es = true := by simpa [fitAllD] using h2
    obtain ⟨q, k1, _, _⟩ := fit_py n e h'.1
    obtain ⟨qs', k2, _, _⟩ := fitAll_py n es h'.2
    simp [toPys] at h3; subst h3
    simp [toPys, k1, k2] at h4; subst h4
    simp [PyData.eqvAll, eqvAllD]
  | n, d :: ds, e :: es, ps, qs, h1, h2, h3, h4 => by
    have h1' : fitD n d = true ∧ fitAllD n ds = true := by simpa [fitAllD] using h1
    have h2' : fitD n e = true ∧ fitAllD n es = true := by simpa [fitAllD] using h2
    obtain ⟨p, k1, _, _⟩ := fit_py n d h1'.1
    obtain ⟨ps', k2, _, _⟩ := fitAll_py n ds h1'.2
    obtain ⟨q, l1, _, _⟩ := fit_py n e h2'.1
    obtain ⟨qs', l2, _, _⟩ := fitAll_py n es h2'.2
    simp [toPys, k1, k2] at h3; subst h3
    simp [toPys, l1, l2] at h4; subst h4
    simp only [PyData.eqvAll, eqvAllD, eqv_py n d e p q h1'.1 h2'.1 k1 l1, eqvAll_py n ds es ps' qs' h1'.2 h2'.2 k2 l2]
end
theorem shaped_of {p : PyData} {n : Nat} (h1 : p.canLay0 = true) (h2 : p.depth ≤ n) (hn : n ≤ 60) : SeqAt.shaped p = true := by
  unfold SeqAt.shaped
  rw [h1, Bool.true_and]
  exact decide_eq_true (by omega)
section
variable {X : Cx} {d e : D} {n : Nat}
theorem cd_eqF (n : Nat) (hu : X.A.units + 64 < cLine) (h1 : fitD n d = true) (h2 : fitD n e = true) (hn : n ≤ 60 := by decide) : CmD X .Eq d e (eqvD d e) := by
  obtain ⟨p, a1, a2, a3⟩ := fit_py n d h1
  obtain ⟨q, b1, b2, b3⟩ := fit_py n e h2
  exact cd_eqD hu a1 b1 (shaped_of a2 a3 hn) (shaped_of b2 b3 hn) (eqv_py n d e p q h1 h2 a1 b1)
end
mutual
theorem eqvD_refl : ∀ (n : Nat) (d : D), fitD n d = true → eqvD d d = true
  | _, .non, _ => by simp [eqvD]
  | _, .bl b, _ => by simp [eqvD]
  | _, .int b, _ => by simp [eqvD]
  | _, .str x, h => by simp [eqvD]
  | n + 1, .lst xs, h => by simp only [eqvD]; exact eqvAllD_refl n xs (by simpa [fitD] using h)
  | n + 1, .tup xs, h => by simp only [eqvD]; exact eqvAllD_refl n xs (by simpa [fitD] using h)
  | 0, .lst xs, h => by simp [fitD] at h
  | 0, .tup xs, h => by simp [fitD] at h
  | _, .dct _, h => by simp [fitD] at h
  | _, .ins _ _, h => by simp [fitD] at h
  | _, .scr _, h => by simp [fitD] at h
  | _, .ty _, h => by simp [fitD] at h
theorem eqvAllD_refl : ∀ (n : Nat) (ds : List D), fitAllD n ds = true → eqvAllD ds ds = true
  | _, [], _ => by simp [eqvAllD]
  | n, x :: xs, h => by
    have h' : fitD n x = true ∧ fitAllD n xs = true := by simpa [fitAllD] using h
    simp [eqvAllD, eqvD_refl n x h'.1, eqvAllD_refl n xs h'.2]
end
theorem fitStrs (n : Nat) : ∀ (xs : List Str), (∀ x ∈ xs, PySem.PyData.strOk x = true) → fitAllD n (xs.map D.str) = true
  | [], _ => by simp [fitAllD]
  | x :: xs, h => by simp [fitAllD, fitD, h x List.mem_cons_self, fitStrs n xs fun y hy => h y (List.mem_cons_of_mem _ hy)]
theorem eqv_strsNil : ∀ (xs : List Str), eqvD (.tup (xs.map D.str)) (.tup []) = decide (xs = [])
  | [] => by simp [eqvD, eqvAllD]
  | x :: xs => by simp [eqvD, eqvAllD]
end Pf

namespace Pf
open PySem PyProof.Rows L2
open Evl (Ex)
theorem atI_mem {α : Type} {L : List α} {i : Int} (h0 : 0 ≤ i) (h1 : i < L.length) : ∃ d, atI L i = some d ∧ d ∈ L := by
  have h2 : i.toNat < L.length := by omega
  refine ⟨L[i.toNat], ?_, List.getElem_mem _⟩
  unfold atI ixN
  rw [if_pos h0, if_pos h1]
  show L[i.toNat]? = _
  rw [List.getElem?_eq_getElem h2]
theorem cut_map {α β : Type} (f : α → β) (xs : List α) (a b : Option Int) : cut (xs.map f) a b = (cut xs a b).map f := by
  unfold cut
  rw [List.length_map, ← List.map_drop, ← List.map_take]
theorem cut_len {α : Type} (xs : List α) (a b : Option Int) : (cut xs a b).length ≤ xs.length := by
  unfold cut
  rw [List.length_take, List.length_drop]
  omega
theorem cut_sub {α : Type} {xs : List α} {a b : Option Int} {x : α} (h : x ∈ cut xs a b) : x ∈ xs := List.mem_of_mem_drop (List.mem_of_mem_take h)
section
variable {X : Cx} {elt tg iter : Expr} {ifs : List Expr} {scope : Scope} {own : List (Str × Nat)} {pos : Pos} {ρ : Rho}
/-- a comprehension without a test -/
theorem j_lcM {α : Type} {i : Nat} (xs : List α) (g : α → D) (h : α → D) (hi : JI X tg iter ρ (xs.map g)) (ok : BlkOk X.N X.env.scope scope own) (hg : ∀ s H C cl fp, PG (blkX X scope s H C cl fp) tg (gName i)) (hlen : xs.length < sizeLine)
    (turn : ∀ x ∈ xs, ∀ s H C cl fp, J (blkX X scope s H C cl fp) elt ((wipeR ρ (own.map (·.2))).set i (some (g x))) (h x)) (hN : X.N.Nodup) (hown : i ∈ own.map (·.2) := by decide) (hc : X.calm = true := by rfl) (hs : ∀ x, foldedSetIterable iter X.env x = pure x := by intro _; rfl) :
    J X (.ListComp elt [⟨tg, iter, [], 0⟩] scope pos) ρ (.lst (xs.map h)) := by
  have := j_lcN (X := X) (elt := elt) (tg := tg) (iter := iter) (ifs := []) (scope := scope) (own := own) (pos := pos) (ρ := ρ) (i := i) xs g (fun _ => true) h hi ok hg hlen (fun x hx s H C cl fp => ⟨jts_nil, fun _ => turn x hx s H C cl fp⟩) hN hown hc hs
  rwa [List.filter_eq_self.mpr (fun _ _ => rfl)] at this
theorem j_slStrs {a : Expr} {lo hi : Option Expr} {o1 o2 : Option Int} {p2 : Pos} {ds : List D} (xs : List Str) (ha : J X a ρ (.tup ds)) (hx : ds = xs.map D.str) (h1 : JO X lo ρ o1) (h2 : JO X hi ρ o2) : J X (.Subscript a (.Slice lo hi none p2) pos) ρ (.tup ((cut xs o1 o2).map D.str)) := by
  rw [← cut_map]; subst hx; exact j_slT ha h1 h2
/-- a call whose first argument is known by a property -/
theorem jp_call1 {e : Expr} {es : List Expr} {ds : List D} {p : Pos} {x : Str} {k j n : Nat} {G : List D → (D → Prop) → Prop} {P1 P : D → Prop} (c : PFn X.prog X.w X.K X.mg X.base k x n G) (hr : Room j X.A) (h1 : JP X e ρ P1) (ha : JA X es ρ ds) (hG : ∀ d, P1 d → G (d :: ds) P) (hk : k ≤ j := by decide) (hn : ds.length + 1 = n := by rfl) (hg : Gl X x := by rfl) (hdb : (x == ("__debug__" : Str)) = false := by decide)
    (he : starEach (e :: es) X.env = (false, eval e X.env) :: starEach es X.env := by rfl) (hpl : (backTo pos (starEach es X.env)).any (·.1) = false := by rfl) : JP X (.Call (.Name x p) (e :: es) [] pos) ρ P := ⟨fun W σ H ex hV Q g => by
  obtain ⟨f, fd, ps, F, hm, hkp, hb⟩ := c.ex
  refine .of (pe_call (F.mono hk) hr hg hm hkp hb .nil pass0 (pa_cons pe_w pa_w he) hdb he hpl) ?_
  refine h1 W σ H ex hV _ fun d1 hd1 v W1 H1 s1 r1 => ?_
  refine ha W1 σ H1 s1.wh (hV.mono s1.ww) _ fun vs W2 H2 s2 r2 => ?_
  show spP X.K n G ((v :: vs) ++ []) H2 Q E0
  rw [List.append_nil]
  exact ⟨by rw [List.length_cons, ← r2.length]; exact hn, W2, _, P, s2.wh, .cons (r1.mono s2.ww) r2, hG d1 hd1, fun d' hd => (g d' hd).step (s1.trans s2)⟩⟩
end
section
variable {X : Cx} {a b c : Expr} {rest : List Expr} {ρ : Rho} {pos : Pos} {d1 d2 : D}
theorem jw_andF (h : JT X a ρ false) : JW X (.BoolOp .And (a :: b :: rest) pos) ρ false := jw_and (u := true) h (fun z => Bool.noConfusion z)
theorem j_andFa (h : J X a ρ (.bl false)) : J X (.BoolOp .And (a :: b :: rest) pos) ρ (.bl false) := j_and (u := true) h (fun z => Bool.noConfusion z)
end
theorem ji_rangeN {X : Cx} {tg a : Expr} {ρ : Rho} {i : Int} {p pos : Pos} (n : Nat) (T : Bt X.mg) (h : J X a ρ (.int i)) (hn : i.toNat = n) (h1 : -(2 ^ 62) ≤ i) (h2 : i < 2 ^ 62) (hg : Gl X "range" := by rfl) (hs : starEach [a] X.env = [(false, eval a X.env)] := by rfl) :
    JI X tg (.Call (.Name "range" p) [a] [] pos) ρ ((List.range n).map fun k => D.int (0 + (k : Nat))) := by
  have := ji_range1 (X := X) (tg := tg) (p := p) (pos := pos) T.range h h1 h2 hg hs
  rw [hn] at this
  exact this
theorem ble {n m : Nat} (h : Nat.ble n m = true) : n ≤ m := Nat.le_of_ble_eq_true h
/-- None or an int -/
def optI : Option Int → D
  | none => .non
  | some i => .int i
end Pf

namespace Pf
open PySem L2
open Evl (Ex)
section
variable {K : PySem.W.Frag} {Hf H : Hp}
end
section
variable {K : PySem.W.Frag} {E : Ent} {ρ : RhoS} {σ : L2.St} {H Hf : Hp} {A : Nat → List Addr} {i : Nat} {C : Addr} {fds : List (Str × D)} {f : Str} {d : D}
end
end Pf

namespace Pf
open PySem L2
open Evl (Ex)
def getD (kds : List (Key × D)) (k : Key) : Option D := (kds.find? fun kv => decide (kv.1 = k)).map (·.2)
def hasD (kds : List (Key × D)) (k : Key) : Bool := kds.any fun kv => decide (kv.1 = k)
def setD (kds : List (Key × D)) (k : Key) (d : D) : List (Key × D) := if hasD kds k = true then kds.map (fun kv => if kv.1 = k then (kv.1, d) else kv) else kds ++ [(k, d)]
def delD (kds : List (Key × D)) (k : Key) : List (Key × D) := kds.filter fun kv => decide (kv.1 ≠ k)
section
variable {K : PySem.W.Frag} {Hf H : Hp}
theorem has_keys : ∀ {kds : List (Key × D)} {kvs : List (Key × V)} {k : Key}, kvs.map (·.1) = kds.map (·.1) → (kvs.any fun kv => decide (kv.1 = k)) = hasD kds k
  | [], [], _, _ => rfl
  | [], _ :: _, _, h => by cases h
  | _ :: _, [], _, h => by cases h
  | (g, u) :: r, (g', u') :: r', k, h => by
    simp only [List.map_cons, List.cons.injEq] at h
    obtain ⟨hg, h⟩ := h
    subst hg
    have := has_keys (k := k) h
    unfold hasD at this ⊢
    rw [List.any_cons, List.any_cons, this]
theorem set_keys {k : Key} {d : D} {v : V} {kds : List (Key × D)} {kvs : List (Key × V)} (h : kvs.map (·.1) = kds.map (·.1)) : (putK kvs k v).map (·.1) = (setD kds k d).map (·.1) := by
  unfold putK setD
  rw [has_keys h]
  split
  · rw [List.map_map, List.map_map]
    rw [show ((fun x : Key × V => x.1) ∘ fun kv : Key × V => if kv.1 = k then (kv.1, v) else kv) = fun x => x.1 from funext fun x => by simp only [Function.comp]; split <;> rfl]
    rw [show ((fun x : Key × D => x.1) ∘ fun kv : Key × D => if kv.1 = k then (kv.1, d) else kv) = fun x => x.1 from funext fun x => by simp only [Function.comp]; split <;> rfl]
    exact h
  · rw [List.map_append, List.map_append, h]; rfl
theorem set_map {k : Key} {d : D} {v : V} (r : Rep K Hf d v) (n : insM d = false) : ∀ {kds : List (Key × D)} {kvs : List (Key × V)} {B : List Addr}, kvs.map (·.1) = kds.map (·.1) → OwnAll K Hf H (kds.map (·.2)) (kvs.map (·.2)) B →
    ∃ B', (∀ b ∈ B', b ∈ B) ∧ OwnAll K Hf H ((kds.map fun kv => if kv.1 = k then (kv.1, d) else kv).map (·.2)) ((kvs.map fun kv => if kv.1 = k then (kv.1, v) else kv).map (·.2)) B'
  | [], [], _, _, _ => ⟨[], by simp, .nil⟩
  | [], _ :: _, _, h, _ => by cases h
  | _ :: _, [], _, h, _ => by cases h
  | (g, u) :: r0, (g', u') :: r', _, h, hr => by
    simp only [List.map_cons, List.cons.injEq] at h
    obtain ⟨hg, h⟩ := h
    subst hg
    cases hr with
    | @cons _ _ _ _ A B q t nd w =>
      obtain ⟨B', h1, h2⟩ := set_map r n h t
      by_cases e : g' = k
      · refine ⟨[] ++ B', fun b hb => List.mem_append_right _ (h1 b (by simpa using hb)), ?_⟩
        simp only [List.map_cons, if_pos e]
        exact .cons (.fz r) h2 (by simp) (fun z => by rw [n] at z; cases z)
      · refine ⟨A ++ B', fun b hb => ?_, ?_⟩
        · rcases List.mem_append.mp hb with z | z
          · exact List.mem_append_left _ z
          · exact List.mem_append_right _ (h1 b z)
        · simp only [List.map_cons, if_neg e]
          exact .cons q h2 (fun a ha hb => nd a ha (h1 a hb)) w
theorem set_own {k : Key} {d : D} {v : V} (r : Rep K Hf d v) (n : insM d = false) {kds : List (Key × D)} {kvs : List (Key × V)} {B : List Addr} (h : kvs.map (·.1) = kds.map (·.1)) (hr : OwnAll K Hf H (kds.map (·.2)) (kvs.map (·.2)) B) :
    ∃ B', (∀ b ∈ B', b ∈ B) ∧ OwnAll K Hf H ((setD kds k d).map (·.2)) ((putK kvs k v).map (·.2)) B' := by
  unfold putK setD
  rw [has_keys h]
  split
  · exact set_map r n h hr
  · refine ⟨B, fun _ h => h, ?_⟩
    rw [List.map_append, List.map_append]
    exact hr.snoc r n
theorem del_keys {k : Key} : ∀ {kds : List (Key × D)} {kvs : List (Key × V)}, kvs.map (·.1) = kds.map (·.1) → (dropK kvs k).map (·.1) = (delD kds k).map (·.1)
  | [], [], _ => rfl
  | [], _ :: _, h => by cases h
  | _ :: _, [], h => by cases h
  | (g, u) :: r, (g', u') :: r', h => by
    simp only [List.map_cons, List.cons.injEq] at h
    obtain ⟨hg, h⟩ := h
    subst hg
    have := del_keys (k := k) h
    unfold dropK delD at this ⊢
    by_cases e : g' = k
    · rw [List.filter_cons_of_neg (by simpa using e), List.filter_cons_of_neg (by simpa using e)]
      exact this
    · rw [List.filter_cons_of_pos (by simpa using e), List.filter_cons_of_pos (by simpa using e), List.map_cons, List.map_cons, this]
theorem del_own {k : Key} : ∀ {kds : List (Key × D)} {kvs : List (Key × V)} {B : List Addr}, kvs.map (·.1) = kds.map (·.1) → OwnAll K Hf H (kds.map (·.2)) (kvs.map (·.2)) B →
    ∃ B', (∀ b ∈ B', b ∈ B) ∧ OwnAll K Hf H ((delD kds k).map (·.2)) ((dropK kvs k).map (·.2)) B'
  | [], [], _, _, _ => ⟨[], by simp, .nil⟩
  | [], _ :: _, _, h, _ => by cases h
  | _ :: _, [], _, h, _ => by cases h
  | (g, u) :: r0, (g', u') :: r', _, h, hr => by
    simp only [List.map_cons, List.cons.injEq] at h
    obtain ⟨hg, h⟩ := h
    subst hg
    cases hr with
    | @cons _ _ _ _ A B q t nd w =>
      obtain ⟨B', h1, h2⟩ := del_own (k := k) h t
      unfold dropK delD at h2 ⊢
      by_cases e : g' = k
      · refine ⟨B', fun b hb => List.mem_append_right _ (h1 b hb), ?_⟩
        rw [List.filter_cons_of_neg (by simpa using e), List.filter_cons_of_neg (by simpa using e)]
        exact h2
      · refine ⟨A ++ B', fun b hb => ?_, ?_⟩
        · rcases List.mem_append.mp hb with z | z
          · exact List.mem_append_left _ z
          · exact List.mem_append_right _ (h1 b z)
        · rw [List.filter_cons_of_pos (by simpa using e), List.filter_cons_of_pos (by simpa using e)]
          exact .cons q h2 (fun a ha hb => nd a ha (h1 a hb)) w
end
section
variable {X : Cx} {pin : List Nat} {ρ : RhoS} {Φ : Out → Prop} {e ke : Expr} {d : D} {pos p' p1 p2 p3 : Pos} {i : Nat} {x f : Str} {C : Addr} {fds : List (Str × D)}
/-- x = {} -/
theorem js_setD0 (hk : Φ (.nx (ρ.set i (some (.ow (.dct [])))))) (hN : X.N.Nodup) (hi : X.N[i]? = some x := by rfl) (hx : Loc X.env.scope x := by first | exact Or.inl rfl | exact Or.inr rfl) (hp : i ∉ pin := by decide) (hs : swapsWith (.Dict [] [] p2) (some (.Name x p')) pos.line X.env = pure false := by rfl)
    (hf : X.fn x = true ∨ X.env.scope.names.lookup x = some .local := by first | exact .inl rfl | exact .inr rfl) : JS X pin (.Assign [.Name x p'] (.Dict [] [] p2) pos) ρ Φ := ⟨fun E σ H D hpn ⟨Hf, A, s⟩ k => by
  refine .of (ps_set hN hi hx pe_dnewK hs hf) fun q hq => ?_
  have s' := s.grow (Evl.Ex.new (H := H) (o := .dK []) hq)
  refine k _ hk _ _ ⟨Hf, _, s'.setOw (.dct upd_same rfl .nil (by simp)) (by simp) (hpn.none hp) fun b hb => ?_⟩
  have e : b = q := by simpa using hb
  subst e
  exact ⟨Evl.fresh_back s.fh hq, by rw [upd_same]; simp, s.kp b hq, fun j hj => (s.ap j b hj).2.1 hq⟩⟩
end
section
variable {K : PySem.W.Frag} {E : Ent} {ρ : RhoS} {σ : L2.St} {H Hf : Hp} {A : Nat → List Addr} {i : Nat} {C : Addr} {fds : List (Str × D)} {f : Str} {d : D} {kds : List (Key × D)}
end
section
variable {X : Cx} {pin : List Nat} {ρ : RhoS} {Φ : Out → Prop} {e ke : Expr} {d : D} {pos p' p1 p2 p3 : Pos} {i : Nat} {x f : Str} {C : Addr} {fds : List (Str × D)} {kds : List (Key × D)} {z : Str}
theorem j_din {o : Expr} {ρ : Rho} (hu : X.A.units + 1 < cLine) (hke : J X ke ρ (.str z)) (ho : J X o ρ (.dct kds)) (hbi : behindInMarks CmpOp.In o = false := by rfl) : J X (.Compare ke [.In] [o] pos) ρ (.bl (hasD kds (.inr z))) := ⟨fun W σ H ex V Q g => by
  refine .of (pe_cmp (pc_din hu pe_w pe_w) hbi) (hke W σ H ex V _ fun y W1 H1 s1 r1 => ho W1 σ H1 s1.wh (V.mono s1.ww) _ fun v W2 H2 s2 r2 => ?_)
  cases r1
  cases r2 with
  | dct k1 k2 k3 =>
    refine ⟨_, _, rfl, DGet.k (k := Sum.inr z) (s2.wh _ _ k1), ?_⟩
    rw [← valV_any, has_keys k2]
    exact g _ W2 H2 (s1.trans s2) (.bl _)⟩
/-- the own dict in a slot -/
theorem StAt.dctS {K : PySem.W.Frag} {E : Ent} {σ : L2.St} {H Hf : Hp} {A : Nat → List Addr} (s : StAt K E ρ σ H Hf A) (hi : ρ[i]? = some (some (.ow (.dct kds)))) :
    ∃ l kvs, σ[i]? = some (some (.ref l)) ∧ H l = some (.dK kvs) ∧ kvs.map (·.1) = kds.map (·.1) ∧ RepAll K H (kds.map (·.2)) (kvs.map (·.2)) ∧
      (∀ {d : D} {v : V} {k : Key}, Rep K Hf d v → insM d = false → StOk K E (ρ.set i (some (.ow (.dct (setD kds k d))))) σ (upd H l (.dK (putK kvs k v)))) ∧
      (∀ {k : Key}, StOk K E (ρ.set i (some (.ow (.dct (delD kds k))))) σ (upd H l (.dK (dropK kvs k)))) := by
  obtain ⟨v, hσ, ow, ne⟩ := s.sl i _ hi
  have hr := ow.rep s.fh fun _ _ => rfl
  generalize hA : A i = Ai at ow ne
  cases ow with
  | fz _ => exact absurd rfl ne
  | @dct l kvs _ A1 g1 g2 g3 g4 =>
    cases hr with
    | dct r1 r2 r3 =>
      have e0 : some (HO.dK kvs) = _ := g1.symm.trans r1
      cases e0
      have hm : l ∈ A i := by rw [hA]; exact List.mem_cons_self
      have stay : ∀ o, ∀ a ∈ A1, upd H l o a = H a := fun o a ha => upd_ne fun z => g4 (by rw [← z]; exact ha)
      refine ⟨l, kvs, hσ, g1, g2, r3, fun {d v k} r hM => ?_, fun {k} => ?_⟩
      · obtain ⟨B', m1, m2⟩ := set_own (k := k) r hM g2 g3
        exact ⟨Hf, _, s.change (B := l :: B') hi hσ hm (by simp) (fun b hb => by
          rw [hA]
          rcases List.mem_cons.mp hb with z | z
          · rw [z]; exact List.mem_cons_self
          · exact List.mem_cons_of_mem _ (m1 b z)) (.dct upd_same (set_keys g2) (m2.move (.refl _) fun a ha => stay _ a (m1 a ha)) fun z => g4 (m1 _ z))⟩
      · obtain ⟨B', m1, m2⟩ := del_own (k := k) g2 g3
        exact ⟨Hf, _, s.change (B := l :: B') hi hσ hm (by simp) (fun b hb => by
          rw [hA]
          rcases List.mem_cons.mp hb with z | z
          · rw [z]; exact List.mem_cons_self
          · exact List.mem_cons_of_mem _ (m1 b z)) (.dct upd_same (del_keys g2) (m2.move (.refl _) fun a ha => stay _ a (m1 a ha)) fun z => g4 (m1 _ z))⟩
/-- x[k] = e -/
theorem js_dput (hu : X.A.units + 1 < cLine) (hi : ρ[i]? = some (some (.ow (.dct kds)))) (h : J X e (fzR ρ) d) (hke : J X ke (allR ρ) (.str z)) (hsz : kds.length < sizeLine) (hk : Φ (.nx (ρ.set i (some (.ow (.dct (setD kds (.inr z) d)))))))
    (hM : insM d = false := by rfl) (hN : X.N[i]? = some x := by rfl) (hv : L2.Vis X.env.scope x := by first | exact Or.inl rfl | exact Or.inr (Or.inl rfl)) (hd : (x == ("__debug__" : Str)) = false := by decide) (hcd : (x == ("__classdict__" : Str)) = false := by decide)
    (hs : swapsWith e (some (.Subscript (.Name x p1) ke p')) pos.line X.env = pure false := by rfl) : JS X pin (.Assign [.Subscript (.Name x p1) ke p'] e pos) ρ Φ := ⟨fun E σ H D hpn ⟨Hf, A, s⟩ k => by
  refine .of (ps_dput hu (pe_var hN hv hd hcd) pe_w pe_w hs) ?_
  refine h Hf σ H s.fh s.vis _ fun v W' H' st r => ?_
  have s1 := s.step st
  obtain ⟨l, kvs, h1, h2, _⟩ := s1.dctS hi
  refine ⟨_, h1, ?_⟩
  refine hke H' σ H' (.refl _) s1.visH _ fun y W2 H2 st2 r2 => ?_
  cases r2
  have s2 := s1.grow st2.hh
  obtain ⟨l2, kvs2, g1, g2, g3, g4, g5, _⟩ := s2.dctS hi
  have e1 : some (some (V.ref l)) = _ := h1.symm.trans g1
  cases e1
  exact ⟨l, _, rfl, DPut.k (k := Sum.inr z) g2 (by have := congrArg List.length g3; simp at this; omega), k _ hk σ _ (g5 r hM)⟩⟩
end
end Pf

namespace Pf
open PySem L2
open Evl (Ex)
theorem DpAll.len {K : PySem.W.Frag} {H : Hp} : ∀ {xs : List V} {ps : List PyData}, DpAll K H xs ps → xs.length = ps.length
  | _, _, .nil => rfl
  | _, _, .cons _ t => congrArg (· + 1) (DpAll.len t)
end Pf

namespace Pf
open PySem L2
open Evl (Ex)
section
variable {X : Cx} {elt : Expr} {elts : List Expr} {scope : Scope} {own : List (Str × Nat)} {pos tpos apos cpos p1 p2 : Pos} {kk : Nat} {ρ : Rho} {its : List (D × Option D)} {is : List Nat} {x f : Str} {i : Nat} {C : Addr} {fds : List (Str × D)} {kds : List (Key × D)}
end
end Pf

namespace Pf
open PySem PySem.Spec PyProof.Rows L2
open Evl (Ex)
section
variable {X : Cx} {e : Expr} {te : TE} {apos cpos : Pos}
end
end Pf

namespace Pf
open PySem L2
open Evl (Ex)
theorem setD_len (kds : List (Key × D)) (k : Key) (d : D) : (setD kds k d).length ≤ kds.length + 1 := by
  unfold setD
  split
  · rw [List.length_map]; omega
  · rw [List.length_append]; exact Nat.le_refl _
section
variable {X : Cx} {kx vx tg iter : Expr} {scope : Scope} {own : List (Str × Nat)} {pos : Pos} {ρ : Rho} {its : List (D × (Str × D))} {pat : Pat}
end
section
variable {X : Cx} {pin : List Nat} {ρ : RhoS} {Φ : Out → Prop} {e ke o : Expr} {d : D} {pos p' p1 p2 p3 : Pos} {i j : Nat} {x y f : Str} {C : Addr} {fds : List (Str × D)} {kds : List (Key × D)} {z : Str}
/-- .. over what is read in the whole heap, the items flat -/
theorem StAt.move {K : PySem.W.Frag} {E : Ent} {σ : L2.St} {H Hf : Hp} {A : Nat → List Addr} {v : V} (s : StAt K E ρ σ H Hf A) (hi : ρ[i]? = some (some (.ow d))) (hv : σ[i]? = some (some v)) (hp : E.pa i = none) (hpj : E.pa j = none) (hij : i ≠ j) :
    StAt K E ((ρ.set j (some (.ow d))).set i none) (σ.set j (some v)) H Hf (fun n => if n = j then A i else if n = i then [] else A n) where
  len := by rw [List.length_set, List.length_set, List.length_set]; exact s.len
  w0 := s.w0
  fh := s.fh
  fr := s.fr
  hh := s.hh
  kp := s.kp
  sl := fun n sv h => by
    by_cases hn : i = n
    · subst hn
      by_cases hl : i < (ρ.set j (some (.ow d))).length
      · rw [List.getElem?_set_self hl] at h; cases h
      · rw [List.getElem?_eq_none (by rw [List.length_set]; omega)] at h; cases h
    · rw [List.getElem?_set_ne hn] at h
      by_cases hj : j = n
      · subst hj
        by_cases hl : j < ρ.length
        · rw [List.getElem?_set_self hl] at h; cases h
          obtain ⟨v', e1, e2⟩ := s.sl i _ hi
          rw [hv] at e1; cases e1
          exact ⟨v, List.getElem?_set_self (by rw [← s.len]; exact hl), by dsimp only; rw [if_pos rfl]; exact e2⟩
        · rw [List.getElem?_eq_none (by rw [List.length_set]; omega)] at h; cases h
      · rw [List.getElem?_set_ne hj] at h ⊢
        obtain ⟨v', e1, e2⟩ := s.sl n sv h
        refine ⟨v', e1, ?_⟩
        cases sv with
        | fz d' => exact e2
        | ow d' => dsimp only at e2 ⊢; rw [if_neg (fun q => hj q.symm), if_neg (fun q => hn q.symm)]; exact e2
  ap := fun n a ha => by
    by_cases hj : n = j
    · rw [if_pos hj] at ha
      obtain ⟨h1, h2, h3⟩ := s.ap i a ha
      exact ⟨h1, h2, .inl (h3.resolve_right fun q => q.2 hp)⟩
    · rw [if_neg hj] at ha
      by_cases hn : n = i
      · rw [if_pos hn] at ha; exact absurd ha (by simp)
      · rw [if_neg hn] at ha; exact s.ap n a ha
  dj := fun n m a h1 h2 => by
    have g : ∀ n, a ∈ (if n = j then A i else if n = i then [] else A n) → (n = j ∧ a ∈ A i) ∨ (n ≠ j ∧ n ≠ i ∧ a ∈ A n) := fun n h => by
      by_cases hj : n = j
      · rw [if_pos hj] at h; exact .inl ⟨hj, h⟩
      · rw [if_neg hj] at h
        by_cases hn : n = i
        · rw [if_pos hn] at h; exact absurd h (by simp)
        · rw [if_neg hn] at h; exact .inr ⟨hj, hn, h⟩
    rcases g n h1 with ⟨a1, a2⟩ | ⟨a1, a2, a3⟩ <;> rcases g m h2 with ⟨b1, b2⟩ | ⟨b1, b2, b3⟩
    · rw [a1, b1]
    · exact absurd (s.dj _ _ _ a2 b3).symm b2
    · exact absurd (s.dj _ _ _ b2 a3).symm a2
    · exact s.dj _ _ _ a3 b3
  pn := fun n a h => by
    have hn : j ≠ n := fun q => by subst q; rw [hpj] at h; cases h
    rw [List.getElem?_set_ne hn]; exact s.pn n a h
end
end Pf

namespace Pf
open PySem L2
open Evl (Ex)
theorem RepAll.any {K : PySem.W.Frag} {H H' : Hp} : ∀ {ds : List D} {vs : List V}, RepAll K H ds vs → ds.all flatD = true → RepAll K H' ds vs
  | _, _, .nil, _ => .nil
  | _, _, .cons r t, h => by
    rw [List.all_cons, Bool.and_eq_true] at h
    exact .cons (r.any h.1) (RepAll.any t h.2)
section
variable {X : Cx} {elt : Expr} {elts : List Expr} {scope : Scope} {own : List (Str × Nat)} {pos tpos apos cpos p1 p2 : Pos} {kk : Nat} {ρ : Rho} {its : List (D × Option D)} {pat : Pat} {x f : Str} {i : Nat} {C : Addr} {fds : List (Str × D)} {kds : List (Key × D)}
end
section
variable {X : Cx} {pin : List Nat} {ρ : RhoS} {Φ : Out → Prop} {es : List Expr} {ds ts : List D} {pos tpos p1 p2 p3 : Pos} {kk : Nat} {i : Nat} {x : Str}
/-- xs.append((e, ..)), the parts flat, read in the whole heap -/
theorem js_appendT (hi : ρ[i]? = some (some (.ow (.lst ds)))) (h : JA X es (allR ρ) ts) (hfl : ts.all flatD = true) (htl : ts.length ≤ sizeLine) (hl : ds.length < sizeLine) (hk : Φ (.nx (ρ.set i (some (.ow (.lst (ds ++ [.tup ts]))))))) (hN : X.N[i]? = some x := by rfl) (hv : L2.Vis X.env.scope x := by first | exact Or.inl rfl | exact Or.inr (Or.inl rfl))
    (hd : (x == ("__debug__" : Str)) = false := by decide) (hcd : (x == ("__classdict__" : Str)) = false := by decide) (hst : starEach [.Tuple es kk tpos] X.env = (false, eval (.Tuple es kk tpos) X.env) :: starEach [] X.env := by rfl)
    (hfew : ((backTo p3 (starEach [.Tuple es kk tpos] X.env)).all (fun x => !x.1) && (backToKw p3 (keywordEach [] X.env)).all (fun x => x.1.isSome) && decide ([Expr.Tuple es kk tpos].length + ([] : List Keyword).length + (if ([] : List Keyword).isEmpty then 0 else 1) < 30)) = true := by rfl)
    (hline : (p2.endLine == p3.line) = true := by rfl)
    (hs : swapsWith (.Call (.Attribute (.Name x p1) "append" p2) [.Tuple es kk tpos] [] p3) none pos.line X.env = pure false := by rfl) : JS X pin (.Expr (.Call (.Attribute (.Name x p1) "append" p2) [.Tuple es kk tpos] [] p3) pos) ρ Φ := ⟨fun E σ H D hpn ⟨Hf, A, s⟩ k => by
  refine .of (ps_expr (pe_bm PySem.F.plainAttrs_list PySem.F.slot_list_append PySem.F.type_list_append mt_append (pe_var hN hv hd hcd) (pa_cons (pe_tup pa_w) pa_nil hst) rfl hfew hline hst) hs) ?_
  obtain ⟨v, hσ, ow, ne⟩ := s.sl i _ hi
  generalize hA : A i = Ai at ow ne
  cases ow with
  | fz _ => exact absurd rfl ne
  | @lst l vs _ B hl1 ha nB =>
    refine ⟨_, hσ, .inl ⟨rfl, _, SqL.of hl1⟩, ?_⟩
    refine h H σ H (.refl _) s.visH _ fun ys W' H' st r => ⟨by rw [← r.length]; exact htl, fun q hq => ?_⟩
    have s0 := s.grow st.hh
    have s' := s0.step (.new s0.fh hq (o := .tup ys))
    have hl2 : upd H' q (.tup ys) l = some (.lst vs) := by rw [upd_ne fun z => by rw [← z, st.hh _ _ hl1] at hq; cases hq]; exact st.hh _ _ hl1
    have rq : Rep X.K (upd Hf q (.tup ys)) (.tup ts) (.ref q) := .tup (SqT.of upd_same) (r.any hfl)
    refine ⟨l, vs, .ref q, rfl, rfl, hl2, by rw [← ha.length]; exact hl, ?_⟩
    have hm : l ∈ A i := by rw [hA]; exact List.mem_cons_self
    have k1 : ∀ a ∈ B, upd (upd H' q (.tup ys)) l (.lst (vs ++ [.ref q])) a = H a := fun a haB => by
      rw [upd_ne (fun z => by subst z; exact nB haB)]
      have := (s.ap i a (by rw [hA]; exact List.mem_cons_of_mem _ haB)).2.1
      cases qq : H a with
      | none => exact absurd qq this
      | some o => rw [upd_ne fun z => by rw [z] at qq; rw [st.hh _ _ qq] at hq; cases hq]; exact st.hh _ _ qq
    exact k _ hk _ _ ⟨_, _, s'.change (B := l :: B) hi hσ hm (by simp) (fun b hb => by rw [hA]; exact hb) (.lst upd_same ((ha.move (.new (Evl.fresh_back s0.fh hq)) k1).snoc rq rfl) nB)⟩⟩
end
section
variable {X : Cx} {pin : List Nat} {ρ : RhoS} {Φ : Out → Prop} {pos p' : Pos} {i j : Nat} {x : Str}
end
end Pf

namespace Pf
open PySem L2 PySem.Spec PyProof.Rows
open Evl (Ex)
section
variable {prog : Program} {w : World} {A : Around} {E : Value → Shared → Prop} {s : Shared}
end
section
variable {X : Cx} {pos tpos p2 : Pos}
end
end Pf

namespace Pf
open PySem L2
open Evl (Ex)
theorem OwnAll.drop {K : PySem.W.Frag} {Hf H : Hp} : ∀ {ds : List D} {vs : List V} {B : List Addr} (n : Nat), OwnAll K Hf H ds vs B → ∃ B', (∀ b ∈ B', b ∈ B) ∧ OwnAll K Hf H (ds.drop n) (vs.drop n) B'
  | _, _, B, 0, h => ⟨B, fun _ q => q, h⟩
  | _, _, _, _ + 1, .nil => ⟨[], fun _ q => q, .nil⟩
  | _, _, _, n + 1, .cons q t _ _ => by
    obtain ⟨B', h1, h2⟩ := OwnAll.drop n t
    exact ⟨B', fun b hb => List.mem_append_right _ (h1 b hb), h2⟩
theorem OwnAll.dropLast {K : PySem.W.Frag} {Hf H : Hp} : ∀ {ds : List D} {vs : List V} {B : List Addr}, OwnAll K Hf H ds vs B → ∃ B', (∀ b ∈ B', b ∈ B) ∧ OwnAll K Hf H ds.dropLast vs.dropLast B'
  | _, _, _, .nil => ⟨[], fun _ q => q, .nil⟩
  | _, _, _, .cons q .nil _ _ => ⟨[], fun _ h => absurd h (by simp), .nil⟩
  | _, _, _, .cons (A := A1) q (.cons (A := A2) (B := B2) q2 t2 n2 w2) nd w => by
    obtain ⟨B', h1, h2⟩ := OwnAll.dropLast (.cons q2 t2 n2 w2)
    exact ⟨A1 ++ B', fun b hb => by
      rcases List.mem_append.mp hb with z | z
      · exact List.mem_append_left _ z
      · exact List.mem_append_right _ (h1 b z), .cons q h2 (fun a ha hb => nd a ha (h1 a hb)) w⟩
section
variable {K : PySem.W.Frag} {E : Ent} {ρ : RhoS} {σ : L2.St} {H Hf : Hp} {A : Nat → List Addr} {i : Nat} {C : Addr} {fds : List (Str × D)} {f : Str} {ds : List D}
end
section
variable {X : Cx} {pin : List Nat} {ρ : RhoS} {Φ : Out → Prop} {e : Expr} {d : D} {pos tpos p' p1 p2 p3 : Pos} {i j : Nat} {x y f : Str} {C : Addr} {fds : List (Str × D)} {ds : List D}
end
end Pf

namespace Pf
open PySem L2
open Evl (Ex)
def Fx (i : Nat) (f : Str) (l : Addr) (vs : List V) (σ : L2.St) (H : Hp) : Prop := ∃ ad C dx fs, σ[i]? = some (some (.ref ad)) ∧ H ad = some (.ins C dx fs) ∧ fs.lookup f = some (.ref l) ∧ l ≠ ad ∧ H l = some (.lst vs)
theorem Fx.grow {i : Nat} {f : Str} {l : Addr} {vs : List V} {σ : L2.St} {H H' : Hp} (h : Fx i f l vs σ H) (e : Ex H H') : Fx i f l vs σ H' := by
  obtain ⟨ad, C, dx, fs, h1, h2, h3, h4, h5⟩ := h
  exact ⟨ad, C, dx, fs, h1, e _ _ h2, h3, h4, e _ _ h5⟩
theorem Fx.slot {i j : Nat} {f : Str} {l : Addr} {vs : List V} {σ σ' : L2.St} {H : Hp} (h : Fx i f l vs σ H) (e : σ'[i]? = σ[i]?) : Fx i f l vs σ' H := by
  obtain ⟨ad, C, dx, fs, h1, h2, h3, h4, h5⟩ := h
  exact ⟨ad, C, dx, fs, e.trans h1, h2, h3, h4, h5⟩
section
variable {X : Cx} {pin : List Nat} {st : Stmt} {rest a b body : List Stmt} {ρ : RhoS} {Φ : Out → Prop} {e c tg : Expr} {d : D} {pos p' p1 p2 : Pos} {i j : Nat} {x f g : Str} {t : Bool} {C : Addr} {fds : List (Str × D)}
end
end Pf

namespace Pf
open PySem L2 PySem.Spec PyProof.Rows
open Evl (Ex)
section
variable {K : PySem.W.Frag}
theorem r1_neg {i : Int} : R1D K (rU fun i => .int (-i)) (.int i) (.int (-i)) := fun W H v ex r Q q => by
  cases r; exact ⟨i, rfl, q.now ex (.int _)⟩
end
section
variable {X : Cx} {ρ : Rho} {e a b c : Expr} {pos p p2 pos2 : Pos}
theorem jb_any {bs : List Bool} (T : Bt X.mg) (ha : JA X [e] ρ [.lst (bs.map D.bl)]) (hc : X.calm = true := by rfl) (hg : Gl X "any" := by rfl) (he : starEach [e] X.env = (false, eval e X.env) :: starEach [] X.env := by rfl) (hpl : (backTo pos (starEach [] X.env)).any (·.1) = false := by rfl) :
    J X (.Call (.Name "any" p) [e] [] pos) ρ (.bl (bs.any id)) := j_cb (cr_any hc) T.any (by decide +kernel) ha rc_any hg (by decide) (by decide) he hpl
theorem j_neg {i : Int} (ha : J X a ρ (.int i)) : J X (.UnaryOp .USub a pos) ρ (.int (-i)) := j_un un_neg ha r1_neg
end
section
variable {E : Ent} {σ : L2.St} {H Hf : Hp} {A : Nat → List Addr}
theorem js_retRP {P : D → Prop} (h : JP X e (retR pin ρ) P) (hk : ∀ d, P d → Φ (.rt d ρ)) : JS X pin (.Return (some e) pos) ρ Φ := ⟨fun E σ H D hp ⟨Hf, A, s⟩ k =>
  .of (ps_ret pe_w) (h (retW E Hf H A) σ H s.retH (s.visR hp) _ fun d hd v W' H' st r => k _ (hk d hd) v H' ⟨σ, Hf, A, W', s.grow st.hh, s.retHf.trans st.ww, st.wh, fun b h1 h2 => by
      by_cases q : retW E Hf H A b = none
      · exact s.kp b (st.fr b h1 q)
      · by_cases hn : ∃ i, b ∈ A i ∧ E.pa i ≠ none
        · exact absurd (retW_arg hn) q
        · by_cases z : E.H0 b = none
          · exact z
          · rw [retW_old hn z] at q; exact s.fr b q h2, fun i a ha hpa => by
      cases q : W' a with
      | none => rfl
      | some o => exact absurd (st.fr a (by rw [q]; simp) (retW_arg ⟨i, ha, hpa⟩)) (s.ap i a ha).2.1, r⟩)⟩
theorem js_retP {P : D → Prop} (h : JP X e (allR ρ) P) (hk : ∀ d, P d → Φ (.rt d ρ)) : JS X [] (.Return (some e) pos) ρ Φ := js_retRP (by rw [retR_nil]; exact h) hk
end
section
variable {X : Cx} {pin : List Nat} {st : Stmt} {rest a b body : List Stmt} {ρ : RhoS} {Φ : Out → Prop} {e c tg iter : Expr} {es : List Expr} {d : D} {ds : List D} {pos p p' p1 p2 p3 : Pos} {i : Nat} {x : Str} {t : Bool}
end
end Pf

namespace Pf
open PySem L2 PySem.Spec PyProof.Rows
open Evl (Ex)
section
variable {X : Cx} {ρ : Rho} {a : Expr} {pos p p2 kp tpos : Pos} {elts : List Expr} {kk kt : Nat}
end
end Pf

namespace Pf
open PySem L2 PySem.Spec PyProof.Rows PySem.W
open Evl (Ex)
end Pf

namespace Pf
open PySem L2 PySem.Spec PyProof.Rows
open Evl (Ex)
section
variable {X : Cx} {ρ : Rho} {e o a b c : Expr} {es : List Expr} {pos p p1 p2 p3 apos cpos : Pos} {kk : Nat}
theorem j_fmtI {i : Int} (ha : J X e ρ (.int i)) (h : i.natAbs.log2 < 1920) : J X (.FormattedValue e (-1) none pos) ρ (.str (toString i)) := ⟨fun W σ H ex hV Q g => .of (pe_fmt pe_w) (ha W σ H ex hV _ fun v W1 H1 s1 r1 => by
  cases r1; exact .inr ⟨i, rfl, h, g _ _ _ s1 (.str _)⟩)⟩
inductive JF (X : Cx) (ρ : Rho) : List Expr → List PySem.Str → Prop
  | nil : JF X ρ [] []
  | cons {e : Expr} {y : PySem.Str} {es : List Expr} {ys : List PySem.Str} (h : J X e ρ (.str y)) (r : JF X ρ es ys) : JF X ρ (e :: es) (y :: ys)
def joinS (acc : PySem.Str) : List PySem.Str → PySem.Str
  | [] => acc
  | y :: ys => joinS (acc ++ y) ys
theorem app_len (x y : PySem.Str) : (x ++ y).length = x.length + y.length := by
  show (x.cps ++ y.cps).size = _
  rw [Array.size_append]; rfl
theorem joinS_le : ∀ (ys : List PySem.Str) (acc : PySem.Str), acc.length ≤ (joinS acc ys).length
  | [], _ => Nat.le_refl _
  | y :: ys, acc => Nat.le_trans (by rw [app_len]; omega) (joinS_le ys (acc ++ y))
theorem pj_w : ∀ es : List Expr, PJ X es (es.map (wE X))
  | [] => .nil
  | _ :: es => .cons pe_w (pj_w es)
theorem jf_run {ys : List PySem.Str} (h : JF X ρ es ys) : ∀ (acc : PySem.Str) (W : Hp) (σ : L2.St) (H : Hp) (Q : PySem.Str → Hp → Prop), Ex W H → Vis X.K ρ W σ → (joinS acc ys).length ≤ sizeLine → (∀ W' H', Step W H W' H' → Q (joinS acc ys) H') → tJs (es.map (wE X)) acc σ H Q := by
  induction h with
  | nil => intro acc W σ H Q ex hV hl g; exact g W H (.refl ex)
  | @cons e y es ys h r ih =>
    intro acc W σ H Q ex hV hl g
    refine h W σ H ex hV _ fun v W1 H1 s1 r1 => ?_
    cases r1
    exact ⟨y, rfl, Nat.le_trans (joinS_le ys (acc ++ y)) hl, ih (acc ++ y) W1 σ H1 Q s1.wh (hV.mono s1.ww) hl fun W' H' s2 => g W' H' (s1.trans s2)⟩
theorem j_fs {v1 v2 : Expr} {rest : List Expr} {ys : List PySem.Str} {z : PySem.Str} (h : JF X ρ (v1 :: v2 :: rest) ys) (hz : joinS Str.empty ys = z) (hl : z.length ≤ sizeLine) : J X (.JoinedStr (v1 :: v2 :: rest) pos) ρ (.str z) := ⟨fun W σ H ex hV Q g => by
  subst hz
  exact .of (pe_joined (pj_w _)) (jf_run h Str.empty W σ H _ ex hV hl fun W' H' st => g _ _ _ st (.str _))⟩
def signsD (z : PySem.Str) : List D := z.cps.toList.map fun c => .str ⟨#[c]⟩
theorem signsD_get {z : PySem.Str} {i : Nat} {d : D} (h : (signsD z)[i]? = some d) : ∃ c, z.cps[i]? = some c ∧ d = .str ⟨#[c]⟩ := by
  unfold signsD at h
  rw [List.getElem?_map, Array.getElem?_toList] at h
  cases hc : z.cps[i]? with
  | none => rw [hc] at h; cases h
  | some c => rw [hc] at h; cases h; exact ⟨c, rfl, rfl⟩
theorem signsD_length {z : PySem.Str} : (signsD z).length = z.cps.size := by unfold signsD; rw [List.length_map, Array.length_toList]
theorem walks_signs {K : PySem.W.Frag} {W : Hp} {z : PySem.Str} : Walks K (Its z) W (signsD z) where
  go := fun i H _ h => by rw [signsD_length] at h; exact h
  yld := fun i H x H' d _ hd ⟨hH, c, hc, hx⟩ W2 _ e2 => by
    obtain ⟨c', hc', rfl⟩ := signsD_get hd
    rw [hc] at hc'
    cases hc'
    subst hx hH
    exact ⟨W2, .refl e2, .str _⟩
  stop := fun H _ => Nat.le_of_eq signsD_length.symm
theorem ji_str {tg : Expr} {z : PySem.Str} (ha : J X a ρ (.str z)) : JI X tg a ρ (signsD z) := ⟨fun W σ H ex hV R g => .of (pi_str pe_w) (ha W σ H ex hV _ fun v W1 H1 s1 r1 => by
  cases r1; exact ⟨z, rfl, g _ _ _ s1 walks_signs⟩)⟩
end
end Pf

namespace Pf
open PySem L2 PySem.Spec PyProof.Rows
open Evl (Ex)

section
open PySem.W PySem.Calls
variable {prog : Program} {w : World} {A : Around} {E : Value → Shared → Prop} {h : Heap} {g : Array GenState} {d : Drawn} {t : Nat} {os : OsState}
/-- the bound __init__ of ValueError is called -/
theorem call_mw {nm q : Str} {C N : Addr} {bs bm : List Value} {hdct : Bool} {sn : List Str} {sub : List Value} {ab : Bool} {col : Option Bool} {dd : Option Addr} {k0 k1 k2 k3 k5 : Option Value} {u e t0 : Addr} {rest : List Value} {Q : Value → Shared → Prop}
    (hC : h.get? C = some (excClassObj nm q C N bs bm hdct sn sub ab col dd k0 k1 k2 k3 k5 "ValueError.__new__")) (he : h.get? e = some (HandSPX.excO C t0)) (hu : h.get? u = some (kxs_mw "ValueError.__init__" e)) (hl : rest.length ≤ sizeLine)
    (k : ∀ h' t1, (∀ b o, b ≠ e → h.get? b = some o → h'.get? b = some o) → h'.get? e = some (HandSPX.excO C t1) → Q .none ⟨h', g, d, t, os⟩) : wpAny (model prog w) A (call (.ref u) rest) Q E ⟨h, g, d, t, os⟩ := by
  refine wpAny_call (codeAny_of_tree (show wpAny _ A.in1 (callAny (.ref u) ⟨rest, []⟩) _ _ _ from ?_))
  simp only [callAny]
  refine wpAny_bind (wpAny_load hu ?_)
  simp only [kxs_mw, show (Value.type "method-wrapper" == Value.type "method" || Value.type "method-wrapper" == Value.type "builtin_function_or_method" || Value.type "method-wrapper" == Value.type "method-wrapper") = true from by decide, if_true]
  refine KFB.if_so (by decide) (wpAny_bind (ESX.check_bound F.excBase_ValueError hC he rfl (wpAny_bind (wpAny_pure (wpAny_pure ?_)))))
  refine ⟨plainId_quiet F.excBase_ValueError.init.plain _, codeAny_builtin F.excBase_ValueError.initEntry ?_⟩
  exact exc_init_tree (cls := .ref C) (t0 := t0) (dv := none) (c2 := .none) (c3 := .none) (b4 := .bool false) he hl fun h' kp hx _ => k h' _ kp hx
end

section
variable {X : Cx} {pins : List (Addr × Obj)} {σ : L2.St} {H : Hp} {s : Shared} {A : Around} {E : Value → Shared → Prop} {a C u : Addr}
theorem sinit_ok {us : List Value} {Q : Value → Shared → Prop} (T : OexC X.K C) (I : Inv X pins σ H s) (e : H a = some (exo a C none)) (hu : s.heap.get? u = some (PySem.W.kxs_mw "ValueError.__init__" a)) (hl : us.length ≤ sizeLine) (k : ∀ s', Inv X pins σ H s' → Q .none s') :
    wpAny (model X.prog X.w) A (call (.ref u) us) Q E s := by
  obtain ⟨t1, hobj⟩ := exo_at I.hok e
  obtain ⟨_, _, _, _, _, _, _, _, _, _, _, _, _, _, _, hC, _⟩ := T.cls
  obtain ⟨hp, g, d, t, os⟩ := s
  refine call_mw (I.kIn _ _ hC) hobj hu hl fun h' t2 kp hx => ?_
  have J := I.write (t' := t) (x := a) (e := a) (o := exo a C none) (by rw [e]; exact True.intro) (.inl rfl) kp ⟨_, hx⟩ (exo_ok hx)
  have same : upd H a (exo a C none) = H := funext fun b => by
    by_cases hb : b = a
    · subst hb; rw [upd_same, e]
    · rw [upd_ne hb]
  rw [same] at J
  exact k _ J
end

/-- what K tells of the class, its __init__'s code and its cell -/
structure SupK (P : Program) (K : PySem.W.Frag) (mg : Str → Option Value) (C cc c : Addr) : Prop where
  T : OexC K C
  sup : mg "super" = none
  cell : ∃ cl cld csl, K.lookup cc = some ⟨cl, cld, .cell (some (.ref C)), csl⟩
  code : ∃ ccl cdd vs ccs file tf, K.lookup c = some ⟨ccl, cdd, .fields vs, ccs⟩ ∧ vs[2]? = some (.str file tf) ∧ ((P.main.file : Str) == file) = true
  top : (P.main.scope.names.lookup ("super" : Str)).isSome = false
  cd : ∃ cdC, PySem.W.clsIn K C = some cdC
  opq : PySem.W.nsIn K cStatics "thirdparty.any" = some none
  self : PySem.W.mroIn K C (.ref C) = some true
  ini : PySem.W.ks_superIn K C C "__init__" = some (some (.builtin "ValueError.__init__"))
  sb : PySem.W.subIn K (.ref C) (.type "ValueError") = some true

/-- the body of such an __init__ -/
theorem sup_body {X : Cx} {σ : L2.St} {H : Hp} {s : Shared} {a f C cc c : Addr} {v : V} {m fld pa : Str} {msg : Expr} {p0 p1 p2 p3 p4 q0 q1 q2 q3 : Pos} {fd : FuncData} {oc : Value} {od : Option Addr} {osl : Array (Option Value)} {ar : Arg} {D : Ends} {mm : Str → Option Value} {body : List Stmt}
    (SK : SupK X.prog X.K X.mg C cc c) (I : Inv X [] σ H s) (hσ0 : σ[0]? = some (some (.ref a))) (hσ1 : σ[1]? = some (some v)) (hns : s.heap.Ns X.env.locals mm) (hself : mm ("self" : Str) = some (.ref a)) (lk : X.K.lookup f = some ⟨oc, od, .func fd, osl⟩)
    (har : (fd.params.posonlyargs ++ fd.params.args).head? = some ar) (hars : ar.arg = ("self" : Str)) (ha : H a = some (exo a C none)) (hkind : X.env.scope.kind = .function) (hfu : X.env.func = some f) (hco : X.env.code = .ref c) (hce : X.env.cells.lookup ("__class__" : Str) = some cc)
    (hks : X.env.kindOf "super" = some .globalImplicit) (hkc : X.env.kindOf "__class__" = some .free) (hkself : X.env.kindOf "self" = some .local)
    (hN0 : X.N[0]? = some ("self" : Str)) (hN1 : X.N[1]? = some pa) (hv0 : L2.Vis X.env.scope "self") (hv1 : L2.Vis X.env.scope pa) (hpa : (pa == ("__debug__" : Str)) = false ∧ (pa == ("__classdict__" : Str)) = false)
    (hms : ∀ Q : List V → Hp → Prop, (∀ H1, Ex H H1 → Q [.str m] H1) → wA X [msg] σ H Q) (hno : PySem.W.findIn X.K (.ref C) fld = some none)
    (hev : ∃ pl : Sem Bool, eval (.Call (.Attribute (.Call (.Name "super" p0) [] [] p1) "__init__" p2) [msg] [] p3) X.env = (do
      let ov ← attributeBase (.Call (.Name "super" p0) [] [] p1) "__init__" X.env (eval (.Call (.Name "super" p0) [] [] p1) X.env)
      standAt p2.atName
      let (fx, first) ← holding [ov] (getMethod ov "__init__" pl)
      callWith p3 fx first (backTo p3 (starEach [msg] X.env)) []))
    (hst : starEach [msg] X.env = [(false, eval msg X.env)]) (hsw : swapsWith (.Name pa q2) (some (.Attribute (.Name "self" q0) fld q1)) q3.line X.env = pure false)
    (hq : ∀ H1 dx, Ex H H1 → H1 dx = none → dx ≠ a → D.nx σ (upd (upd H1 dx (exd dx [(fld, v)])) a (exo a C (some dx)))) :
    PySem.wpAt (model X.prog X.w) X.A (.func body X.env) (execs [.Expr (.Call (.Attribute (.Call (.Name "super" p0) [] [] p1) "__init__" p2) [msg] [] p3) p4, .Assign [.Attribute (.Name "self" q0) fld q1] (.Name pa q2) q3] X.env) (SP X [] D) X.xe s := by
  obtain ⟨cl, cld, csl, hcell⟩ := SK.cell
  obtain ⟨ccl, cdd, cvs, ccs, file, tf, hcode, hvs, hfile⟩ := SK.code
  obtain ⟨cdC, hcdC⟩ := SK.cd
  have KX : X.K.In s.heap := I.kIn
  obtain ⟨t1, ho⟩ := exo_at I.hok ha
  obtain ⟨oD, hD1, hD2⟩ : ∃ oD, s.heap.get? C = some oD ∧ oD.data = .cls cdC := by
    have z := hcdC
    unfold PySem.W.clsIn at z
    split at z
    · rename_i c0 d0 cd0 sl0 hC0
      cases z
      exact ⟨_, KX _ _ hC0, rfl⟩
    · cases z
  have rest : ∀ H1, Ex H H1 → ∀ s', Inv X [] σ H1 s' → wpAny (model X.prog X.w) X.A (execs [.Assign [.Attribute (.Name "self" q0) fld q1] (.Name pa q2) q3] X.env) (SP X [] D) X.xe s' := fun H1 e1 s' J => by
    refine (pss_cons (ps_ost (pe_var hN0 hv0) (pe_var hN1 hv1 hpa.1 hpa.2) hsw) pss_nil).run [] s' σ H1 D J ?_
    refine ⟨v, hσ1, .ref a, hσ0, a, C, rfl, SK.T, hno, .inl ⟨e1 _ _ ha, fun dx n1 n2 => hq H1 dx e1 n1 n2⟩⟩
  refine PySem.ks_wpAt_execs_cons ?_
  refine PySem.ks_wpAt_Expr_any ?_ I.quiet rfl
  obtain ⟨pl, hev⟩ := hev
  refine PySem.ks_wpAt_MethodCall (pl := pl) ?_ hev
  refine PySem.ks_wpAt_super_base (fd := fd) hks hkc (by decide) hfu (KX _ _ lk) rfl har hco (KX _ _ hcode) rfl hvs hfile SK.top ?_
  obtain ⟨mb, hb1, hb2⟩ := I.mod.blt
  obtain ⟨hp, g, d, t, os⟩ := s
  refine PySem.W.ks_loadName_global hkind hks (Calls.loadGlobal_builtin (by rw [I.ok.glob]; exact I.mod.glob.keeps I.bk) SK.sup (by rw [I.ok.blt]; exact hb1.keeps I.bk) ((hb2 _ (by decide)).trans (show bootBuiltins "super" = some (.type "super") from by kernel_rfl)) ⟨rfl, ?_⟩)
  refine wpAny_loadName_free hkind hkc hce ⟨_, KX _ _ hcell, rfl⟩ ?_
  rw [hars]
  refine wpAny_loadName_local hkind hkself hns hself ?_
  refine PySem.ks_wpAny_isType_cls hD1 hD2 ⟨rfl, ?_⟩
  refine PySem.ks_wpAny_call_super hD1 hD2 ho rfl (fun c e => by cases e) (PySem.W.looks_mroIn KX SK.self) (fun h' e kp => ?_)
  have J1 : Inv X [] σ H ⟨h', g, d, t, os⟩ := I.kept (t' := t) kp
  have ho' := kp _ _ ho
  have IA : PySem.W.InstAt h' a { cls := Value.ref C, data := Data.fields #[Value.ref t1, Value.none, Value.none, Value.none, Value.bool false, Value.none] } C none := ⟨ho', rfl, rfl, trivial⟩
  have ini := SK.ini
  unfold PySem.W.ks_superIn at ini
  rw [hcdC] at ini
  refine PySem.W.kxs_getMethod PySem.W.kxs_ValueError e (PySem.W.looks_opaque J1.kIn SK.opq) (l₀ := cdC.mro) (fun A Q E s k q => wpAny_bind ((PySem.W.looks_clsIn J1.kIn hcdC) A _ E s k (wpAny_pure q))) rfl J1.kIn ini (IA.type.andThen (PySem.W.looks_subIn J1.kIn SK.sb)) (PySem.W.ks_ne J1.kIn IA hcdC) (by decide) ?_
  have J2 : Inv X [] σ H ⟨h'.push (PySem.W.kxs_mw "ValueError.__init__" a), g, d, t + 1, os⟩ := J1.kept (t' := t + 1) fun b o z => Heap.get?_push_of_some _ z
  have hu : (h'.push (PySem.W.kxs_mw "ValueError.__init__" a)).get? h'.objs.size = some (PySem.W.kxs_mw "ValueError.__init__" a) := Heap.get?_push_at rfl rfl
  have fp := J1.fpOk (H' := H) (b := h'.objs.size) (Nat.le_refl _) (J1.hok.fresh (Nat.le_refl _))
  have J3 : Inv X [(h'.objs.size, PySem.W.kxs_mw "ValueError.__init__" a)] σ H ⟨h'.push (PySem.W.kxs_mw "ValueError.__init__" a), g, d, t + 1, os⟩ := J2.pins_of fun p hp => by
    rw [List.mem_singleton] at hp
    subst hp
    exact ⟨hu, fp.1, fp.2.1, fp.2.2.1, fun v z => by cases z⟩
  rw [hst]
  refine PySem.W.kxs_callWith (i := "ValueError.__init__") (x := a) rfl (PySem.Calls.evalArgs_plain ?_)
  have hrun := hms (fun vs H1 => vs = [.str m] ∧ Ex H H1) (fun H1 e1 => ⟨rfl, e1⟩) p3 _ _ J3
  rw [hst] at hrun
  refine thn hrun fun us s1 ⟨vs, H1, I1, r1, q1, e1⟩ => ?_
  subst q1
  have hu1 : s1.heap.get? h'.objs.size = some (PySem.W.kxs_mw "ValueError.__init__" a) := (I1.pin (h'.objs.size, PySem.W.kxs_mw "ValueError.__init__" a) (List.mem_append_right _ (List.mem_singleton.mpr rfl))).1
  have hlen : us.length ≤ sizeLine := by
    rw [← Paired.length r1]; show 1 ≤ sizeLine; decide
  exact ⟨hu1, sinit_ok SK.T I1 (e1 _ _ ha) hu1 hlen fun s' J => wpAt_of_wpAny (rest H1 e1 s' (J.pins_of fun p hp => absurd hp (by simp)))⟩

/-- the context of such an __init__ -/
abbrev supNF (qual : Str) (params : Arguments) (body : List Stmt) (scope : Scope) (cc c : Addr) : NdefX.NF := ⟨"__init__", qual, params, body, scope, [("__class__", cc)], c⟩
def spSup (K : PySem.W.Frag) (C : Addr) (fld : Str) (G : D → Prop) : Sp := fun vs H Q _ => ∃ (a : Addr) (v : V) (d : D), vs = [.ref a, v] ∧ G d ∧ Rep K (fun _ => none) d v ∧ H a = some (exo a C none) ∧
  ∀ H1 dx, Ex H H1 → H1 dx = none → dx ≠ a → Q .non (upd (upd H1 dx (exd dx [(fld, v)])) a (exo a C (some dx)))

section
variable {P : Program} {w : World} {K : PySem.W.Frag} {mg : Str → Option Value} {base : Heap} {k : Nat} {f C cc c : Addr} {qual pa fld : Str} {params : Arguments} {scope : Scope} {dV kV doc pm ct oc : Value} {an od : Option Addr} {osl : Array (Option Value)} {fd : FuncData} {msg : Expr} {p0 p1 p2 p3 p4 q0 q1 q2 q3 : Pos} {G : D → Prop} {body : List Stmt}
theorem fn_sup (SK : SupK P K mg C cc c) (lk : K.lookup f = some ⟨oc, od, .func fd, osl⟩) (hfd : fd = PySem.W.fnX "__init__" qual params body scope [("__class__", cc)] dV kV doc pm an (.ref c) ct)
    (hcd : PySem.W.codeIn K (.ref c) qual = true) (hbody : body = [.Expr (.Call (.Attribute (.Call (.Name "super" p0) [] [] p1) "__init__" p2) [msg] [] p3) p4, .Assign [.Attribute (.Name "self" q0) fld q1] (.Name pa q2) q3])
    (S : NdefX.NScope ["self", pa, "__class__"] ["self", pa] ["__class__"] scope)
    (hks : scope.names.lookup ("super" : Str) = some .globalImplicit) (hkc : scope.names.lookup ("__class__" : Str) = some .free) (hhd : ∃ ar : Arg, (params.posonlyargs ++ params.args).head? = some ar ∧ ar.arg = ("self" : Str))
    (hno : PySem.W.findIn K (.ref C) fld = some none) (hpa : (pa == ("__debug__" : Str)) = false ∧ (pa == ("__classdict__" : Str)) = false)
    (hmsg : ∀ A outer s H E d, G d → ∃ m, J (NdefX.ncx CX0 P w K mg base ["self", pa, "__class__"] (supNF qual params body scope cc c) f A outer s H E) msg [none, some d, none] (.str m))
    (hev : ∀ env : Env, ∃ pl : Sem Bool, eval (.Call (.Attribute (.Call (.Name "super" p0) [] [] p1) "__init__" p2) [msg] [] p3) env = (do
      let ov ← attributeBase (.Call (.Name "super" p0) [] [] p1) "__init__" env (eval (.Call (.Name "super" p0) [] [] p1) env)
      standAt p2.atName
      let (fx, first) ← holding [ov] (getMethod ov "__init__" pl)
      callWith p3 fx first (backTo p3 (starEach [msg] env)) []))
    (hsw : ∀ env : Env, swapsWith (.Name pa q2) (some (.Attribute (.Name "self" q0) fld q1)) q3.line env = pure false)
    (hstar : ∀ (env : Env), starEach [msg] env = [(false, eval msg env)]) :
    FnOk P w K mg base CX0 (k + 1) f fd ["self", pa] (spSup K C fld G) := by
  refine ⟨fun vs H Q E h => by obtain ⟨a, v, d, rfl, _⟩ := h; rfl, fun A outer s H args us vs Q E hr e0 hbd r hsp => ?_⟩
  obtain ⟨a, v, d, rfl, hG, hrep, ha, hq⟩ := hsp
  have kept0 : ∀ b o, base.get? b = some o → s.heap.get? b = some o := fun b o z => (e0.bs b o z).1
  have KX : K.In s.heap := e0.mod.kin.keeps kept0
  have lim : s.heap.NoLimit := e0.mod.nolimit.keeps kept0
  subst hfd
  have hfun := KX _ _ lk
  obtain ⟨cl, cld, csl, hcell⟩ := SK.cell
  obtain ⟨ccl, cdd, cvs, ccs, file, tf, hcode, hvs, hfile⟩ := SK.code
  obtain ⟨cdC, hcdC⟩ := SK.cd
  obtain ⟨ar, har, haself⟩ := hhd
  have hCC : NdefX.CellsAt [("__class__", cc)] ["__class__"] [none] s.heap H := by
    refine ⟨rfl, fun y c e => ?_, fun x y c e1 e2 => ?_, fun i y e => ?_⟩
    · have hy : c = cc ∧ y = "__class__" := by
        unfold List.lookup at e
        split at e
        · rename_i hb; cases e; exact ⟨rfl, by simpa using hb⟩
        · cases e
      obtain ⟨rfl, rfl⟩ := hy
      have q := (e0.bs _ _ (e0.mod.kin _ _ hcell))
      exact ⟨q.2, _, ⟨_, q.1, rfl⟩⟩
    · have q : ∀ {z : Str}, List.lookup z [(("__class__" : Str), cc)] = some c → z = "__class__" := fun {z} e => by
        unfold List.lookup at e
        split at e
        · rename_i hb; simpa using hb
        · cases e
      rw [q e1, q e2]
    · cases i with
      | zero => simp at e; subst e; exact ⟨cc, by simp, fun v q => by simp at q⟩
      | succ i => simp at e
  refine codeAny_call_function hr.depth hfun rfl S.co S.gen rfl (PySem.W.codeRec_of KX hcd) (hbd _ _ _ _ ?_)
  refine wpAny_newFunctionEnv S.nocell (fun ⟨n, _⟩ hy => S.par n (List.of_mem_zip hy).1) (fun h₁ hns hsb => ⟨lim.fresh _ hsb, ?_⟩) S.kind
  show codeAny _ _ (.func body (NdefX.envF (supNF qual params body scope cc c) f s.heap.objs.size)) _ _
  refine PySem.ks_codeAny_funcAt ?_
  have kp1 : ∀ b o, s.heap.get? b = some o → h₁.get? b = some o := fun b o z => by
    refine hsb.extBut b o ?_ (Heap.get?_push_of_some _ z)
    exact Nat.ne_of_lt (Heap.lt_size z)
  have I : Inv (NdefX.ncx CX0 P w K mg base ["self", pa, "__class__"] (supNF qual params body scope cc c) f A outer s H E) [] (NdefX.startF ["self", pa, "__class__"] [.ref a, v] [none]) H
      { s with heap := h₁, toks := s.toks + ((["self", pa] : List Str).zip us).length } := NdefX.inv_startN S hr.hd e0 rfl r hCC hns kp1
  cases r with
  | @cons _ u0 _ ur ra rw' =>
    have hu0 : u0 = Value.ref a := ra
    subst hu0
    cases rw' with
    | @cons _ u1 _ ur rv rn =>
      cases rn
      have ndP : (["self", pa] : List Str).Nodup := by
        have q := S.nd.sublist (List.take_sublist 2 _)
        exact q
      have hself : (((["self", pa] : List Str).zip [Value.ref a, u1]).reverse.lookup ("self" : Str)) = some (.ref a) := NdefX.zip_look (i := 0) ndP rfl rfl
      obtain ⟨m, hJ⟩ := hmsg A outer s H E d hG
      have fin : ∀ {σ' : L2.St} {H' : Hp} {v : V} {u : Value} {s' : Shared}, Inv (NdefX.ncx CX0 P w K mg base ["self", pa, "__class__"] (supNF qual params body scope cc c) f A outer s H E) [] σ' H' s' → RelV v u → Q v H' → CE outer P w H s Q u s' :=
        fun {σ' H' v u s'} J rv q => ⟨v, H', J.os, J.bare, J.base, J.hok, rv, q⟩
      subst hbody
      refine PySem.ks_wpAt_mono (sup_body (D := { nx := fun _ H' => Q .non H', rt := Q }) (m := m) SK I rfl rfl hns hself lk har haself ha S.kind rfl rfl (by simp [NdefX.ncx, PySem.W.envX]) hks hkc (S.par _ (by simp)) rfl rfl (Or.inl (S.par _ (by simp))) (Or.inl (S.par _ (by simp))) hpa
        (fun Q' k => (ja_cons hJ ja_nil (hstar _)).run (fun _ => none) _ H (fun b o z => by cases z) ⟨rfl, fun i dd z => ?_⟩ Q' fun vs W' H' st rr => ?_) hno (hev _) (hstar _) (hsw _) hq) (fun fl s' hs => ?_) (fun e s' hs => hs)
      · match i, z with
        | 1, z => cases z; exact ⟨v, rfl, hrep⟩
        | 0, z => cases z
        | 2, z => cases z
      · cases rr with
        | cons r1 r2 => cases r1; cases r2; exact k H' st.hh
      · cases fl with
        | ret u =>
          obtain ⟨v9, σ9, H9, J9, rv9, q9⟩ := hs
          exact fin J9 rv9 q9
        | next =>
          obtain ⟨σ9, H9, J9, q9⟩ := hs
          exact fin (u := Value.none) (v := V.non) J9 rfl q9
        | brk =>
          obtain ⟨_, _, _, q⟩ := hs
          exact False.elim q
        | cont =>
          obtain ⟨_, _, _, q⟩ := hs
          exact False.elim q
end
end Pf

namespace Pf
open PySem L2 PySem.Spec PyProof.Rows
open Evl (Ex)

abbrev HdT := Value × Option Nat × (Addr → Value → Option Addr → TS)
/-- behind a suite whose name is gone -/
def unI (D : Ends) (i : Nat) : Ends := { nx := fun σ' H' => D.nx (σ'.set i none) H', rt := D.rt, bk := fun σ' H' => D.bk (σ'.set i none) H', ct := fun σ' H' => D.ct (σ'.set i none) H' }
def wMx (K : PySem.W.Frag) (Wo : L2.WX) (D : Ends) : List HdT → L2.WX
  | [] => Wo
  | (c, none, ts) :: r => fun cls d σ H => ∃ b, PySem.W.exmOne K cls c = some b ∧ (b = true → ∀ a, H a = none → ts a cls d D σ H) ∧ (b = false → wMx K Wo D r cls d σ H)
  | (c, some i, ts) :: r => fun cls d σ H => ∃ b, PySem.W.exmOne K cls c = some b ∧ (b = true → ∀ a, H a = none → ts a cls d (unI D i) (σ.set i (some (.ref a))) H) ∧ (b = false → wMx K Wo D r cls d σ H)
def SuiteOk (X : Cx) (st : List Stmt) (ts : Addr → Value → Option Addr → TS) : Prop := ∀ (a : Addr) (oe : Obj) (cls : Value) (d : Option Addr) (pn : List (Addr × Obj)), Zc cls d oe → (∃ vs, oe.data = .fields vs) → PSs (X.suite a ((a, oe) :: pn)) st (ts a cls d)
inductive HdM (X : Cx) : List ExceptHandler → List HdT → Prop
  | nil : HdM X [] []
  | plain {x : Str} {c : Value} {ts : Addr → Value → Option Addr → TS} {b₀ : Stmt} {suite : List Stmt} {np pos' : Pos} {hds : List ExceptHandler} {l : List HdT} : Names X x c → SuiteOk X (b₀ :: suite) ts → HdM X hds l → HdM X (.ExceptHandler (some (.Name x np)) none (b₀ :: suite) pos' :: hds) ((c, none, ts) :: l)
  | named {x n : Str} {i : Nat} {c : Value} {ts : Addr → Value → Option Addr → TS} {b₀ : Stmt} {suite : List Stmt} {np pos' : Pos} {hds : List ExceptHandler} {l : List HdT} : Names X x c → X.N[i]? = some n → X.env.kindOf n = some .local → SuiteOk X (b₀ :: suite) ts → HdM X hds l →
      HdM X (.ExceptHandler (some (.Name x np)) (some n) (b₀ :: suite) pos' :: hds) ((c, some i, ts) :: l)

section
variable {X : Cx} {body : List Stmt} {h₀ : ExceptHandler} {hds : List ExceptHandler} {l : List HdT} {pos : Pos} {tb : L2.WX → TS} {Wo : L2.WX}
theorem ps_try_mx (hst : X.stack = X.env :: X.outer) (hfr0 : X.env.frame = some X.env.locals) (hN : X.N.Nodup) (tk : L2.Takes X Wo)
    (hb : ∀ (W : L2.WX) (pn : List (Addr × Obj)) (xe : Value → Shared → Prop), L2.Takes (X.tr pn xe) W → PassesOwn (model X.prog X.w) X.A X.env xe → PSs (X.tr pn xe) body (tb W)) (hh : HdM X (h₀ :: hds) l) :
    PS X (.Try body (h₀ :: hds) [] [] pos) (fun D σ H => tb (wMx X.K Wo D l) D σ H) := by
  refine ⟨fun pins s σ H D I hyp => wpAny_Try_except ?_⟩
  have okX := I.ok
  have fra : X.A.frames = some (X.env :: X.outer) := by rw [okX.frames, hst]
  refine wpAny_mono ((hb (wMx X.K Wo D l) (X.pn ++ pins) (fun er t1 => wpAny (model X.prog X.w) X.A (noteFrame er X.env) (fun _ t2 => wpAny (model X.prog X.w) X.A (setFlight er none) (fun _ t3 =>
    wpAny (model X.prog X.w) X.A (handleBy er X.env (h₀ :: hds)) (SP X pins D) X.xe t3) X.xe t2) X.xe t1) (fun u s' air => ?_) PassesOwn.looking).run [] s σ H D (I.toTry _) hyp) (fun fl t1 hsp => ?_) (fun er t1 z => z)
  · obtain ⟨a, B, sI, pn', σ', H', cls, d, rfl, J0, nb, up, sky, na, osq, bare, wsh⟩ := air
    have Jv : Inv X pins σ' H' sI := J0.ofTry okX
    have skyX : Sky B (X.env :: X.outer) a (Zc cls d) X.env.locals s'.heap := hst ▸ sky
    change wpAny (model X.prog X.w) X.A (noteFrame (.ref a) X.env) _ _ _
    refine Sky.land Zc.steady fra hfr0 skyX fun hp3 fly3 up3 => ?_
    have Jv3 : Inv X pins σ' H' { s' with heap := hp3 } := Jv.landed nb fly3.1 (up.trans up3) osq bare
    obtain ⟨ob3, fv3, at3, zc3, da3⟩ := fly3.there
    have nofr : a ∉ frs (X.env :: X.outer) := fun hm => by
      obtain ⟨_, o', e', hnf⟩ := fly3.2.2.1.mem hm
      rw [at3] at e'; cases e'
      exact hnf _ da3
    have nLoc : a ≠ X.env.locals := fun z => nofr (List.mem_filterMap.mpr ⟨X.env, List.mem_cons_self, z ▸ hfr0⟩)
    have nFs : a ∉ X.fs := fun hm => by
      obtain ⟨ev, hev, q⟩ := List.mem_filterMap.mp hm
      exact nofr (List.mem_filterMap.mpr ⟨ev, List.mem_cons_of_mem _ hev, q⟩)
    have Su3 := Jv3.suite at3 da3 na nLoc nFs
    have isA : PySem.W.Looks (model X.prog X.w) hp3 (typeOf (.ref a)) cls := fun A' Q' E' t' kk qq => wpAny_typeOf_ref (kk _ _ at3) (zc3.1.symm ▸ qq)
    have named : ∀ {x : Str} {np : Pos} {c : Value} {Q' : Value → Shared → Prop} {E' : Value → Shared → Prop}, Names X x c → Q' c { s' with heap := hp3 } → wpAny (model X.prog X.w) (X.A.mark (some (.ref a))) (eval (.Name x np) X.env) Q' E' { s' with heap := hp3 } := fun hc qq => by
      obtain ⟨c1, c2, c3 | ⟨c3, c4, c5⟩⟩ := hc
      · exact ld_glob (X := X.suite a ((a, ob3) :: (X.pn ++ pins))) Su3 c1 c3 qq c2
      · exact ld_blt (X := X.suite a ((a, ob3) :: (X.pn ++ pins))) Su3 c1 c3 c4 qq c5 c2
    have all : ∀ {hs' : List ExceptHandler} {l' : List HdT}, HdM X hs' l' → wMx X.K Wo D l' cls d σ' H' → wpAny (model X.prog X.w) X.A (handleBy (.ref a) X.env hs') (SP X pins D) X.xe { s' with heap := hp3 } := by
      intro hs' l' hk
      induction hk with
      | nil =>
        intro wo
        refine wpAny_handleBy_nil ?_
        obtain ⟨_, _, _, oe, vs, T, oT, ts', g1, g2, g3, g4, g5⟩ := id fly3
        unfold PySem.passOn
        refine wpAny_bind (wpAny_field g1 g3 g4 ?_)
        rw [if_neg (show ¬ ((Value.ref T == Value.none) = true) from fun z => by simp at z)]
        have again : wpAny (model X.prog X.w) X.A (setFlight (.ref a) X.env.frame) (fun _ t4 => wpAny (model X.prog X.w) X.A (throw (.ref a) : Sem Flow) (SP X pins D) X.xe t4) X.xe { s' with heap := hp3 } := by
          rw [hfr0]
          refine HandSPX.setFlight_upZ fly3 fun hp4 held up4 => wpAny_throw (tk _ _ ⟨a, B, sI, pins, σ', H', cls, d, rfl, Jv, nb, (up.trans up3).trans up4, .inr (.inr (by rw [hst]; exact held)), na, osq, bare, wo⟩)
        first | exact wpAny_bind (wpAny_pure (wpAny_bind again)) | exact wpAny_bind again
      | @plain x c ts b₀ suite np pos' hds2 l2 hc hsu r ih =>
        intro wo
        obtain ⟨b, hb1, hyes, hnot⟩ := wo
        refine wpAny_handleBy_cons (codeAny_handlers_test (named hc ((PySem.W.exm_one (M := model X.prog X.w) Jv3.kIn isA hb1).here ?_))) (by intro q; cases q)
        cases b with
        | false => exact ih (hnot rfl)
        | true =>
          refine codeAny_handlers_suite (HandSPX.lands_againZ fly3 fun hp4 fly4 up4 => ?_)
          have Jv4 : Inv X pins σ' H' { s' with heap := hp4 } := Jv.landed nb fly4.1 ((up.trans up3).trans up4) osq bare
          obtain ⟨ob4, fv4, at4, zc4, da4⟩ := fly4.there
          have Su4 := Jv4.suite at4 da4 na nLoc nFs
          refine wpAny_mono ((hsu a ob4 cls d (X.pn ++ pins) zc4 ⟨_, da4⟩).run [] _ _ H' _ Su4 (hyes rfl a na)) (fun fl t6 hsp => ?_) (fun _ _ z => False.elim z)
          cases fl with
          | next => obtain ⟨σ6, H6, Su6, q6⟩ := hsp; exact ⟨_, _, Su6.unsuite okX, q6⟩
          | brk => obtain ⟨σ6, H6, Su6, q6⟩ := hsp; exact ⟨_, _, Su6.unsuite okX, q6⟩
          | cont => obtain ⟨σ6, H6, Su6, q6⟩ := hsp; exact ⟨_, _, Su6.unsuite okX, q6⟩
          | ret u => obtain ⟨v6, σ6, H6, Su6, r6, q6⟩ := hsp; exact ⟨_, _, _, Su6.unsuite okX, r6, q6⟩
      | @named x n i c ts b₀ suite np pos' hds2 l2 hc hi hln hsu r ih =>
        intro wo
        obtain ⟨b, hb1, hyes, hnot⟩ := wo
        refine wpAny_handleBy_cons (codeAny_handlers_test (named hc ((PySem.W.exm_one (M := model X.prog X.w) Jv3.kIn isA hb1).here ?_))) (by intro q; cases q)
        cases b with
        | false => exact ih (hnot rfl)
        | true =>
          refine codeAny_handlers_suite_as (HandSPX.lands_againZ fly3 fun hp4 fly4 up4 => ?_)
          have Jv4 : Inv X pins σ' H' { s' with heap := hp4 } := Jv.landed nb fly4.1 ((up.trans up3).trans up4) osq bare
          obtain ⟨ob4, fv4, at4, zc4, da4⟩ := fly4.there
          have Su4 := Jv4.suite at4 da4 na nLoc nFs
          refine store_ok (X := X.suite a ((a, ob4) :: (X.pn ++ pins))) (v := .ref a) Su4 hN hi (.inl hln) rfl (fun t5 Su5 => ?_) (.inr hln)
          refine wpAny_mono ((hsu a ob4 cls d (X.pn ++ pins) zc4 ⟨_, da4⟩).run [] t5 _ H' _ Su5 (hyes rfl a na)) (fun fl t6 hsp => ?_) (fun _ _ z => False.elim z)
          have fini : ∀ {σ6 : L2.St} {H6 : Hp} {Q' : Shared → Prop}, Inv (X.suite a ((a, ob4) :: (X.pn ++ pins))) [] σ6 H6 t6 → (∀ t7, Inv X pins (σ6.set i none) H6 t7 → Q' t7) →
              wpAny (model X.prog X.w) X.A (do bindName X.env n .none; unbindBehindTheSuite X.env n pos') (fun _ t7 => Q' t7) X.xe t6 := fun Su6 hq => gone_ok (Su6.unsuite okX) hN hi hln hq
          cases fl with
          | next => obtain ⟨σ6, H6, Su6, q6⟩ := hsp; exact fini Su6 fun t7 J7 => ⟨_, _, J7, q6⟩
          | brk => obtain ⟨σ6, H6, Su6, q6⟩ := hsp; exact fini Su6 fun t7 J7 => ⟨_, _, J7, q6⟩
          | cont => obtain ⟨σ6, H6, Su6, q6⟩ := hsp; exact fini Su6 fun t7 J7 => ⟨_, _, J7, q6⟩
          | ret u => obtain ⟨v6, σ6, H6, Su6, r6, q6⟩ := hsp; exact fini Su6 fun t7 J7 => ⟨_, _, _, J7, r6, q6⟩
    exact all hh wsh
  · cases fl with
    | next => obtain ⟨σ', H', Jx, q⟩ := hsp; exact wpAny_execs_nil ⟨σ', H', Jx.ofTry okX, q⟩
    | brk => obtain ⟨σ', H', Jx, q⟩ := hsp; exact ⟨σ', H', Jx.ofTry okX, q⟩
    | cont => obtain ⟨σ', H', Jx, q⟩ := hsp; exact ⟨σ', H', Jx.ofTry okX, q⟩
    | ret u => obtain ⟨v, σ', H', Jx, r, q⟩ := hsp; exact ⟨v, σ', H', Jx.ofTry okX, r, q⟩
end
end Pf

namespace Pf
open PySem L2 PySem.Spec PyProof.Rows
open Evl (Ex)

/-- every wish that X takes, at once -/
def Wall (X : Cx) : L2.WX := fun cls d σ H => ∃ Wx : L2.WX, L2.Takes X Wx ∧ Wx cls d σ H
theorem takes_all {X : Cx} : L2.Takes X (Wall X) := fun u s' ⟨a, B, sI, pins, σ, H, cls, d, e, I, nb, up, sky, na, os, ag, Wx, tk, w⟩ => tk u s' ⟨a, B, sI, pins, σ, H, cls, d, e, I, nb, up, sky, na, os, ag, w⟩
/-- what is done where an error er leaves, made behind H -/
def GoodX (K : PySem.W.Frag) (H : Hp) (er : Er) (E : XK) : Prop := ∀ d H', Ex H H' → ErAt K H' er d → (∀ dd, d = some dd → H dd = none) → E er.cls d H'
theorem GoodX.step {K : PySem.W.Frag} {H H1 : Hp} {er : Er} {E : XK} (g : GoodX K H er E) (e : Ex H H1) : GoodX K H1 er E := fun d H' e1 at' fr => g d H' (e.trans e1) at' fun dd q => by
  cases z : H dd with
  | none => rfl
  | some o => have := e _ _ z; rw [fr dd q] at this; cases this
/-- a def that may raise: what it hands back, what leaves it -/
def spE (K : PySem.W.Frag) (n : Nat) (G : List D → (D → Prop) → (Er → Prop) → Prop) : Sp := fun vs H Q E => vs.length = n ∧ ∃ W ds P R, Ex W H ∧ RepAll K W ds vs ∧ G ds P R ∧ (∀ d, P d → GoodE K W H d Q) ∧ ∀ er, R er → GoodX K H er E
structure EFn (P : Program) (w : World) (K : PySem.W.Frag) (mg : Str → Option Value) (base : Heap) (k : Nat) (x : Str) (n : Nat) (G : List D → (D → Prop) → (Er → Prop) → Prop) : Prop where
  ex : ∃ f fd ps, FnOk P w K mg base (L2.CX P w) k f fd ps (spE K n G) ∧ mg x = some (.ref f) ∧ PySem.W.keepIn K (.ref f) = true ∧ Binds K fd ps []
def finE (Pd : D → Prop) (R : Er → Prop) : Out → Prop
  | .rt d _ => Pd d
  | .nx _ => Pd .non
  | .ex er _ => R er
  | _ => False
section
variable {P : Program} {w : World} {K : PySem.W.Frag} {mg : Str → Option Value} {base : Heap} {x qual : Str} {st : Stmt} {f : Addr} {fd : FuncData} {N ps : List Str} {k : Nat} {G : List D → (D → Prop) → (Er → Prop) → Prop}
theorem fn_err (F : Fun K x qual st f fd) (S : FnScope N ps (defScope st)) (hG : ∀ ds Pd R, G ds Pd R → ds.length = ps.length)
    (body : ∀ (cdv : Value) (A : Around) (outer : List Env) (s : Shared) (H : Hp) (E : XK) (ds : List D) (Pd : D → Prop) (R : Er → Prop), Room k (A.deeper (envOfC qual (defScope st) s.heap.objs.size f cdv)) → G ds Pd R →
      PassesOwn (model P w) (cxOf (L2.CX P w) P w K mg base N qual (defScope st) f cdv A outer s H E).A (cxOf (L2.CX P w) P w K mg base N qual (defScope st) f cdv A outer s H E).env (cxOf (L2.CX P w) P w K mg base N qual (defScope st) f cdv A outer s H E).xe →
      JSs (cxOf (L2.CX P w) P w K mg base N qual (defScope st) f cdv A outer s H E) [] (defBody st) (startR N ds) (finE Pd R)) : FnOk P w K mg base (L2.CX P w) (k + 1) f fd ps (spE K ps.length G) := by
  refine F.okX S (fun vs H Q E h => h.1) fun cdv A outer s H vs Q E hr h => ?_
  obtain ⟨_, W, ds, Pd, R, ex, r, hg, q, qe⟩ := h
  refine ⟨_, pss_w, ?_⟩
  refine body cdv A outer s H E ds Pd R hr hg (passes_of rfl) ⟨W, H, fun _ => False, fun _ => none⟩ (L2.start N vs) H _ (fun i => ⟨fun z => absurd rfl z, fun z => absurd z (by simp)⟩) ⟨W, _, start_ok ex r⟩ fun o ho => ?_
  cases o with
  | nx ρ => exact fun σ' H' ⟨Hf, A', s'⟩ => q _ ho .non Hf H' ⟨s'.w0, s'.fh, fun b o h => s'.hh b o h (fun z => z), s'.fr⟩ .non
  | rt d ρ => exact fun v H' ⟨σ', Hf, A', W', s', h1, h2, h3, _, h5⟩ => q _ ho v W' H' ⟨s'.w0.trans h1, h2, fun b o h => s'.hh b o h (fun z => z), h3⟩ h5
  | bk ρ => exact ho.elim
  | ct ρ => exact ho.elim
  | ex er ρ => exact ⟨fun cls d _ H => E cls d H, takes_of rfl rfl rfl rfl, fun d σ H1 H' ⟨Hf, A', s'⟩ e1 at' fr => qe er ho d H' ((fun b o h => e1 _ _ (s'.hh b o h (fun z => z)) : Ex H H')) at' fun dd z => s'.kp dd (fr dd z)⟩
end

structure JX (X : Cx) (e : Expr) (ρ : Rho) (P : D → Prop) (R : Er → Prop) : Prop where
  run : ∀ W σ H, Ex W H → Vis X.K ρ W σ → ∀ Q : VK, (∀ d, P d → GoodE X.K W H d Q) → (∀ er, R er → GoodX X.K H er fun cls d H' => Wall X cls d σ H') → wE X e σ H Q
section
variable {X : Cx} {pin : List Nat} {ρ : RhoS} {Φ : Out → Prop} {e : Expr} {es : List Expr} {ds : List D} {pos p p' : Pos} {i k j n : Nat} {x : Str} {P : D → Prop} {R : Er → Prop} {G : List D → (D → Prop) → (Er → Prop) → Prop}
theorem jx_call {ρ : Rho} (c : EFn X.prog X.w X.K X.mg X.base k x n G) (hr : Room j X.A) (ha : JA X (e :: es) ρ ds) (hG : G ds P R) (hk : k ≤ j := by decide) (hn : ds.length = n := by rfl) (hg : Gl X x := by rfl) (hdb : (x == ("__debug__" : Str)) = false := by decide)
    (he : starEach (e :: es) X.env = (false, eval e X.env) :: starEach es X.env := by rfl) (hpl : (backTo pos (starEach es X.env)).any (·.1) = false := by rfl) : JX X (.Call (.Name x p) (e :: es) [] pos) ρ P R := ⟨fun W σ H ex hV Q g gx => by
  obtain ⟨f, fd, ps, F, hm, hkp, hb⟩ := c.ex
  refine .of (pe_callS (E := fun σ => WE (Wall X) σ) (F.mono hk) (hr) hg hm hkp hb (fun σ => passAt takes_all σ) pa_w hdb he hpl) (ha W σ H ex hV _ fun vs W1 H1 s1 r1 => ?_)
  exact ⟨by rw [← r1.length]; exact hn, W1, ds, P, R, s1.wh, r1, hG, fun d' hd => (g d' hd).step s1, fun er hR => (gx er hR).step s1.hh⟩⟩
theorem jx_of {ρ : Rho} (h : JP X e ρ P) : JX X e ρ P R := ⟨fun W σ H ex hV Q g _ => h.run W σ H ex hV Q g⟩
theorem ExOk.good {E : Ent} {ρ : RhoS} {er : Er} (h : ExOk X E er ρ) {σ : L2.St} {H : Hp} (s : StOk X.K E ρ σ H) : GoodX X.K H er fun cls d H' => Wall X cls d σ H' := fun d H' ex at' fr => by
  obtain ⟨Wx, tk, q⟩ := h
  exact ⟨Wx, tk, q d σ H H' s ex at' fr⟩
theorem js_retXR (h : JX X e (retR pin ρ) P R) (hk : ∀ d, P d → Φ (.rt d ρ)) (he : ∀ er, R er → Φ (.ex er ρ)) : JS X pin (.Return (some e) pos) ρ Φ := ⟨fun E σ H D hp ⟨Hf, A, s⟩ k =>
  .of (ps_ret pe_w) (h.run (retW E Hf H A) σ H s.retH (s.visR hp) _ (fun d hd v W' H' st r => k _ (hk d hd) v H' ⟨σ, Hf, A, W', s.grow st.hh, s.retHf.trans st.ww, st.wh, fun b h1 h2 => by
      by_cases q : retW E Hf H A b = none
      · exact s.kp b (st.fr b h1 q)
      · by_cases hn : ∃ i, b ∈ A i ∧ E.pa i ≠ none
        · exact absurd (retW_arg hn) q
        · by_cases z : E.H0 b = none
          · exact z
          · rw [retW_old hn z] at q; exact s.fr b q h2, fun i a ha hpa => by
      cases q : W' a with
      | none => rfl
      | some o => exact absurd (st.fr a (by rw [q]; simp) (retW_arg ⟨i, ha, hpa⟩)) (s.ap i a ha).2.1, r⟩) fun er hR => (show ExOk X E er ρ from k _ (he er hR)).good ⟨Hf, A, s⟩)⟩
theorem js_retX (h : JX X e (allR ρ) P R) (hk : ∀ d, P d → Φ (.rt d ρ)) (he : ∀ er, R er → Φ (.ex er ρ)) : JS X [] (.Return (some e) pos) ρ Φ := js_retXR (by rw [retR_nil]; exact h) hk he
end

def wMk (X : Cx) (e : Expr) : L2.St → Hp → XK → Prop := fun σ H Q => ∀ pins s, Inv X pins σ H s → wpAny (model X.prog X.w) X.A (eval e X.env) (MkP X pins σ Q) X.xe s
theorem pmk_w {X : Cx} {e : Expr} : PMk X e (wMk X e) := fun pins s σ H Q I h => h pins s I
structure JMk (X : Cx) (e : Expr) (ρ : Rho) (er : Er) : Prop where
  run : ∀ W σ H, Ex W H → Vis X.K ρ W σ → ∀ Q : XK, GoodX X.K H er Q → wMk X e σ H Q
section
variable {X : Cx} {pin : List Nat} {ρ : RhoS} {Φ : Out → Prop} {e : Expr} {es : List Expr} {ds : List D} {pos p p' : Pos} {i k j n : Nat} {x : Str} {er : Er}
theorem js_raise (h : JMk X e (allR ρ) er) (hk : Φ (.ex er ρ)) (hc : X.calm = true := by rfl) : JS X pin (.Raise (some e) none pos) ρ Φ := ⟨fun E σ H D hpn ⟨Hf, A, s⟩ k =>
  .of (ps_raise hc takes_all pmk_w) (h.run H σ H (.refl _) s.visH _ ((show ExOk X E er ρ from k _ hk).good ⟨Hf, A, s⟩))⟩
/-- a class without own __init__ -/
structure OwnErr (K : PySem.W.Frag) (mg : Str → Option Value) (x : Str) (C : Addr) : Prop where
  g : mg x = some (.ref C)
  q : ∃ bmB, ExcBaseFacts "ValueError" "ValueError.__new__" "ValueError.__init__" bmB ∧ PySem.W.excIn K C bmB "ValueError.__new__" = true
  kp : PySem.W.keepIn K (.ref C) = true
  sub : PySem.W.subIn K (.ref C) (.type "BaseException") = some true
  ty : PySem.W.typeIn K (.ref C) = some (.type "type")
theorem jmk_own {ρ : Rho} {C : Addr} (O : OwnErr X.K X.mg x C) (ha : JA X (e :: es) ρ ds) (hl : ds.length ≤ sizeLine := by (simp only [List.length_cons, List.length_nil]; decide)) (hg : Gl X x := by rfl) (hdb : (x == ("__debug__" : Str)) = false := by decide)
    (he : starEach (e :: es) X.env = (false, eval e X.env) :: starEach es X.env := by rfl) (hpl : (backTo pos (starEach es X.env)).any (·.1) = false := by rfl) : JMk X (.Call (.Name x p) (e :: es) [] pos) ρ ⟨.ref C, none⟩ := ⟨fun W σ H ex hV Q g pins s I => by
  obtain ⟨bmB, F, q⟩ := O.q
  refine pmk_ownA F q O.g O.kp (raises_own O.sub O.ty) hg pa_w hdb he hpl pins s σ H Q I (ha W σ H ex hV _ fun vs W1 H1 s1 r1 => ⟨by rw [← r1.length]; exact hl, g none H1 s1.hh rfl fun dd z => by cases z⟩)⟩
/-- a class with its own __init__ that says super().__init__(..) -/
structure SupErr (P : Program) (w : World) (K : PySem.W.Frag) (mg : Str → Option Value) (base : Heap) (k : Nat) (x : Str) (C : Addr) (fld : Str) (G : D → Prop) : Prop where
  g : mg x = some (.ref C)
  T : OexC K C
  ex : ∃ fI fd pa, PySem.W.findIn K (.ref C) "__init__" = some (some (.ref fI)) ∧ PySem.W.typeIn K (.ref fI) = some (.type "function") ∧ FnOk P w K mg base CX0 k fI fd ["self", pa] (spSup K C fld G) ∧ Binds K fd ["self", pa] []
theorem jmk_sup {ρ : Rho} {C : Addr} {fld : Str} {G : D → Prop} {d : D} (c : SupErr X.prog X.w X.K X.mg X.base k x C fld G) (hr : Room j X.A) (ha : JA X [e] ρ [d]) (hG : G d) (hd : flatD d = true) (hk : k + 1 ≤ j := by decide) (hg : Gl X x := by rfl) (hdb : (x == ("__debug__" : Str)) = false := by decide)
    (he : starEach [e] X.env = (false, eval e X.env) :: starEach [] X.env := by rfl) (hpl : (backTo pos (starEach [] X.env)).any (·.1) = false := by rfl) : JMk X (.Call (.Name x p) [e] [] pos) ρ ⟨.ref C, some [(fld, d)]⟩ := ⟨fun W σ H ex hV Q g pins s I => by
  obtain ⟨fI, fd, pa, h1, h2, F, hb⟩ := c.ex
  refine pmk_oex (ds := []) (dvs := []) c.T h1 h2 F (hr.mono hk) hb .nil pass0 hg c.g pa_w hdb he hpl pins s σ H Q I (ha W σ H ex hV _ fun vs W1 H1 s1 r1 => ?_)
  cases r1 with
  | @cons _ v _ _ r t =>
    cases t
    refine ⟨by show 1 ≤ 1000; decide, fun a na => ⟨a, v, d, rfl, hG, r.any hd, upd_same, fun H2 dx e2 n1 n2 => ⟨rfl, dx, [(fld, v)], upd_same, ?_, ?_, ?_⟩⟩⟩
    · rw [upd_ne n2]; exact upd_same
    · cases z : H1 dx with
      | none => rfl
      | some o =>
        by_cases q : dx = a
        · exact absurd q n2
        · have := e2 dx o (by rw [upd_ne q]; exact z)
          rw [n1] at this; cases this
    · have eH : Ex H1 (upd (del (upd (upd H2 dx (exd dx [(fld, v)])) a (exo a C (some dx))) a) dx (.xd [(fld, v)])) := fun b o z => by
        have hba : b ≠ a := fun q => by rw [q, na] at z; cases z
        have h2 : H2 b = some o := e2 b o (by rw [upd_ne hba]; exact z)
        have hbd : b ≠ dx := fun q => by rw [q, n1] at h2; cases h2
        rw [upd_ne hbd]
        show (if b = a then none else _) = _
        rw [if_neg hba, upd_ne hba, upd_ne hbd]
        exact h2
      refine g (some dx) _ (s1.hh.trans eH) ⟨dx, _, rfl, upd_same, rfl, .cons (r.any hd) .nil⟩ fun dd z => ?_
      cases z
      cases q : H dx with
      | none => rfl
      | some o =>
        have w1 := s1.hh _ _ q
        have hba : dx ≠ a := n2
        have := e2 dx o (by rw [upd_ne hba]; exact w1)
        rw [n1] at this; cases this⟩
end

/-- an except clause: its class, the slot of its name, its suite -/
structure Hd where
  c : Value
  i : Option Nat
  st : List Stmt
inductive HdJ (X : Cx) : List ExceptHandler → List Hd → Prop
  | nil : HdJ X [] []
  | plain {x : Str} {c : Value} {b₀ : Stmt} {suite : List Stmt} {np pos' : Pos} {hds : List ExceptHandler} {l : List Hd} : Names X x c → HdJ X hds l → HdJ X (.ExceptHandler (some (.Name x np)) none (b₀ :: suite) pos' :: hds) (⟨c, none, b₀ :: suite⟩ :: l)
  | named {x n : Str} {i : Nat} {c : Value} {b₀ : Stmt} {suite : List Stmt} {np pos' : Pos} {hds : List ExceptHandler} {l : List Hd} : Names X x c → X.N[i]? = some n → X.env.kindOf n = some .local → HdJ X hds l →
      HdJ X (.ExceptHandler (some (.Name x np)) (some n) (b₀ :: suite) pos' :: hds) (⟨c, some i, b₀ :: suite⟩ :: l)
/-- nothing leaves a suite; its name is gone behind it -/
def noEx (Φ : Out → Prop) : Out → Prop
  | .ex _ _ => False
  | .nx ρ => Φ (.nx ρ)
  | .rt d ρ => Φ (.rt d ρ)
  | .bk ρ => Φ (.bk ρ)
  | .ct ρ => Φ (.ct ρ)
def goneI (i : Nat) (Φ : Out → Prop) : Out → Prop
  | .ex _ _ => False
  | .nx ρ => Φ (.nx (ρ.set i none))
  | .rt d ρ => Φ (.rt d ρ)
  | .bk ρ => Φ (.bk (ρ.set i none))
  | .ct ρ => Φ (.ct (ρ.set i none))
/-- the dict of a caught error: there where it has fields, none else -/
structure DOk (er : Er) (d : Option Addr) : Prop where
  has : er.fs.isSome = true → ∃ dd, d = some dd
  no : er.fs = none → d = none
instance {er : Er} {d : Option Addr} : CoeFun (DOk er d) (fun _ => er.fs.isSome = true → ∃ dd, d = some dd) := ⟨DOk.has⟩
/-- the clause that takes er, where the names are worth ρ -/
def catchJ (X : Cx) (pin : List Nat) (Φ : Out → Prop) : List Hd → Er → RhoS → Prop
  | [], er, ρ => Φ (.ex er ρ)
  | ⟨c, none, st⟩ :: r, er, ρ => ∃ b, PySem.W.exmOne X.K er.cls c = some b ∧ (b = true → ∀ (a : Addr) (oe : Obj) (d : Option Addr) (pn : List (Addr × Obj)), Zc er.cls d oe → (∃ vs, oe.data = .fields vs) → JSs (X.suite a ((a, oe) :: pn)) pin st ρ (noEx Φ)) ∧ (b = false → catchJ X pin Φ r er ρ)
  | ⟨c, some i, st⟩ :: r, er, ρ => ∃ b, PySem.W.exmOne X.K er.cls c = some b ∧ (b = true → i ∉ pin ∧ ∀ (a : Addr) (oe : Obj) (d : Option Addr) (pn : List (Addr × Obj)), Zc er.cls d oe → (∃ vs, oe.data = .fields vs) → DOk er d →
      JSs (X.suite a ((a, oe) :: pn)) pin st (ρ.set i (some (.fz (.exc a d (er.fs.getD []))))) (goneI i Φ)) ∧ (b = false → catchJ X pin Φ r er ρ)
def tryO (X : Cx) (pin : List Nat) (hs : List Hd) (Φ : Out → Prop) : Out → Prop
  | .ex er ρ => catchJ X pin Φ hs er ρ
  | .nx ρ => Φ (.nx ρ)
  | .rt d ρ => Φ (.rt d ρ)
  | .bk ρ => Φ (.bk ρ)
  | .ct ρ => Φ (.ct ρ)
def tsOf (X : Cx) (st : List Stmt) : Addr → Value → Option Addr → TS := fun a cls d D σ H => ∀ (oe : Obj) (pn : List (Addr × Obj)), Zc cls d oe → (∃ vs, oe.data = .fields vs) → wSs (X.suite a ((a, oe) :: pn)) st D σ H
theorem tsOf_ok {X : Cx} {st : List Stmt} : SuiteOk X st (tsOf X st) := fun a oe cls d pn hz hf => ⟨fun pins s σ H D I h => h oe pn hz hf pins s I⟩
def hdT (X : Cx) (h : Hd) : HdT := (h.c, h.i, tsOf X h.st)
theorem HdJ.m {X : Cx} : ∀ {hds : List ExceptHandler} {l : List Hd}, HdJ X hds l → HdM X hds (l.map (hdT X))
  | _, _, .nil => .nil
  | _, _, .plain hc r => .plain hc tsOf_ok r.m
  | _, _, .named hc hi hl r => .named hc hi hl tsOf_ok r.m
section
variable {K : PySem.W.Frag} {E : Ent} {ρ : RhoS} {σ : L2.St} {H Hf : Hp} {A : Nat → List Addr}
theorem StAt.unset (s : StAt K E ρ σ H Hf A) {i : Nat} (hp : E.pa i = none) : StAt K E (ρ.set i none) (σ.set i none) H Hf A where
  len := by rw [List.length_set, List.length_set]; exact s.len
  w0 := s.w0
  fh := s.fh
  fr := s.fr
  hh := s.hh
  kp := s.kp
  sl := fun j sv h => by
    by_cases hj : i = j
    · subst hj
      rw [List.getElem?_set] at h
      split at h
      · split at h <;> cases h
      · exact absurd rfl (by assumption)
    · rw [List.getElem?_set_ne hj] at h
      rw [List.getElem?_set_ne hj]
      exact s.sl j sv h
  ap := s.ap
  dj := s.dj
  pn := fun j a h => by
    by_cases hj : i = j
    · subst hj; rw [hp] at h; cases h
    · rw [List.getElem?_set_ne hj]; exact s.pn j a h
end
section
variable {X : Cx} {pin : List Nat} {ρ : RhoS} {Φ : Out → Prop} {body : List Stmt} {h₀ : ExceptHandler} {hds : List ExceptHandler} {l : List Hd} {pos : Pos}
theorem catch_ok {E : Ent} {D : Ends} (hp : E.Pins pin) (k : ∀ o, Φ o → OutOk X E D o) : ∀ {l : List Hd} {er : Er} {ρ : RhoS}, catchJ X pin Φ l er ρ → ∀ d σ H H', StOk X.K E ρ σ H → Ex H H' → ErAt X.K H' er d → (∀ dd, d = some dd → H dd = none) → wMx X.K (Wall X) D (l.map (hdT X)) er.cls d σ H'
  | [], er, ρ, h, d, σ, H, H', s, ex, at', fr => (show ExOk X E er ρ from k _ h).good s d H' ex at' fr
  | ⟨c, none, st⟩ :: r, er, ρ, h, d, σ, H, H', ⟨Hf, A, s⟩, ex, at', fr => by
    obtain ⟨b, h1, h2, h3⟩ := h
    refine ⟨b, h1, fun hb a na oe pn hz hf => ?_, fun hb => catch_ok hp k (h3 hb) d σ H H' ⟨Hf, A, s⟩ ex at' fr⟩
    refine (h2 hb a oe d pn hz hf).run E σ H' D hp ⟨Hf, A, s.grow ex⟩ fun o ho => ?_
    cases o with
    | ex er ρ => exact ho.elim
    | nx ρ => exact k _ ho
    | rt v ρ => exact k _ ho
    | bk ρ => exact k _ ho
    | ct ρ => exact k _ ho
  | ⟨c, some i, st⟩ :: r, er, ρ, h, d, σ, H, H', ⟨Hf, A, s⟩, ex, at', fr => by
    obtain ⟨b, h1, h2, h3⟩ := h
    refine ⟨b, h1, fun hb a na oe pn hz hf => ?_, fun hb => catch_ok hp k (h3 hb) d σ H H' ⟨Hf, A, s⟩ ex at' fr⟩
    obtain ⟨hi, h2⟩ := h2 hb
    have hpa := hp.none hi
    obtain ⟨W1, s1, hrep⟩ : ∃ W1, StAt X.K E ρ σ H' W1 A ∧ Rep X.K W1 (.exc a d (er.fs.getD [])) (.ref a) := by
      unfold ErAt at at'
      cases hfs : er.fs with
      | none =>
        rw [hfs] at at'
        exact ⟨Hf, s.grow ex, .exc (fs := []) (fun dd z => by rw [show d = none from at'] at z; cases z) rfl .nil⟩
      | some fds =>
        rw [hfs] at at'
        obtain ⟨dd, vs, rfl, hd, hk, hr⟩ := at'
        have hn := fr dd rfl
        refine ⟨fun b => if b = dd then some (.xd vs) else Hf b, s.step ⟨fun b o z => ?_, fun b o z => ?_, ex, fun b z1 z2 => ?_⟩, .exc (fs := vs) (fun d2 z => ?_) hk (hr.mono fun b o z => by cases z)⟩
        · by_cases hb : b = dd
          · rw [hb] at z; have := s.fh _ _ z; rw [hn] at this; cases this
          · show (if b = dd then _ else _) = _; rw [if_neg hb]; exact z
        · by_cases hb : b = dd
          · rw [hb] at z; rw [if_pos rfl] at z; cases z; rw [hb]; exact hd
          · rw [if_neg hb] at z; exact ex _ _ (s.fh _ _ z)
        · by_cases hb : b = dd
          · rw [hb]; exact hn
          · rw [if_neg hb] at z1; exact absurd z2 z1
        · cases z; show (if dd = dd then _ else _) = _; rw [if_pos rfl]
    refine (h2 a oe d pn hz hf ⟨fun z => ?_, fun z => ?_⟩).run E (σ.set i (some (.ref a))) H' (unI D i) hp ⟨W1, _, s1.setFz hrep hpa⟩ fun o ho => ?_
    · unfold ErAt at at'
      cases hfs : er.fs with
      | none => rw [hfs] at z; cases z
      | some fds => rw [hfs] at at'; obtain ⟨dd, _, q, _⟩ := at'; exact ⟨dd, q⟩
    · unfold ErAt at at'
      rw [z] at at'
      exact at'
    · cases o with
      | ex er ρ => exact ho.elim
      | nx ρ => exact fun σ' H2 ⟨Hf', A', s'⟩ => (show OutOk X E D (.nx (ρ.set i none)) from k _ ho) _ H2 ⟨Hf', A', s'.unset hpa⟩
      | rt v ρ => exact k _ ho
      | bk ρ => exact fun σ' H2 ⟨Hf', A', s'⟩ => (show OutOk X E D (.bk (ρ.set i none)) from k _ ho) _ H2 ⟨Hf', A', s'.unset hpa⟩
      | ct ρ => exact fun σ' H2 ⟨Hf', A', s'⟩ => (show OutOk X E D (.ct (ρ.set i none)) from k _ ho) _ H2 ⟨Hf', A', s'.unset hpa⟩
theorem js_try (hh : HdJ X (h₀ :: hds) l) (hb : ∀ (pn : List (Addr × Obj)) (xe : Value → Shared → Prop), PassesOwn (model X.prog X.w) X.A X.env xe → JSs (X.tr pn xe) pin body ρ (tryO X pin l Φ)) (hN : X.N.Nodup) (hst : X.stack = X.env :: X.outer := by rfl) (hfr : X.env.frame = some X.env.locals := by rfl) :
    JS X pin (.Try body (h₀ :: hds) [] [] pos) ρ Φ := ⟨fun E σ H D hp s k =>
  .of (ps_try_mx (tb := fun Wx D σ H => ∀ (pn : List (Addr × Obj)) (xe : Value → Shared → Prop), L2.Takes (X.tr pn xe) Wx → PassesOwn (model X.prog X.w) X.A X.env xe → wSs (X.tr pn xe) body D σ H) hst hfr hN takes_all
    (fun Wx pn xe tk ps => ⟨fun pins s σ H D I h => h pn xe tk ps pins s I⟩) hh.m) fun pn xe tk ps => (hb pn xe ps).run E σ H D hp s fun o ho => by
      cases o with
      | ex er ρ' => exact ⟨_, tk, fun d σ' H1 H' s' ex at' fr => catch_ok hp k (show catchJ X pin Φ l er ρ' from ho) d σ' H1 H' s' ex at' fr⟩
      | nx ρ' => exact k _ ho
      | rt v ρ' => exact k _ ho
      | bk ρ' => exact k _ ho
      | ct ρ' => exact k _ ho⟩
end
end Pf

namespace Pf
open PySem L2 PySem.Spec PyProof.Rows
open Evl (Ex)
section
variable {X : Cx} {K : PySem.W.Frag} {ρ : Rho} {a b e o : Expr} {es : List Expr} {ds es' : List D} {pos p tpos apos cpos : Pos} {elts : List Expr} {kk : Nat} {d : D}
theorem enumL_get {xs : List D} {i : Nat} {d : D} (h : (xs.zipIdx.map fun p => D.tup [.int (p.2 : Nat), p.1])[i]? = some d) : ∃ x, xs[i]? = some x ∧ d = .tup [.int (i : Nat), x] := by
  rw [List.getElem?_map, List.getElem?_zipIdx] at h
  cases q : xs[i]? with
  | none => rw [q] at h; cases h
  | some x => rw [q] at h; simp at h; exact ⟨x, rfl, h.symm⟩
theorem walks_enumL {W : Hp} {l : Addr} {vs : List V} (h : W l = some (.lst vs)) (k : RepAll K W ds vs) : Walks K (Ite K l) W (ds.zipIdx.map fun p => D.tup [.int (p.2 : Nat), p.1]) where
  go := fun i H ex hi => by
    rw [List.length_map, List.length_zipIdx] at hi
    have hv : i < vs.length := by rw [← k.length]; exact hi
    exact ⟨vs, vs[i], SqL.of (ex _ _ h), by simp [hv]⟩
  yld := fun i H x H' d ex hd hy W2 e1 e2 => by
    obtain ⟨T, y, rfl, hT, rfl, hy⟩ := hy
    obtain ⟨dx, h1, rfl⟩ := enumL_get hd
    obtain ⟨v, h2, h3⟩ := k.get h1
    have q := hy vs (SqL.of (ex _ _ h))
    rw [h2] at q; cases q
    exact ⟨_, .new e2 hT, .tup (SqT.of upd_same) (.cons (.int _) (.cons ((h3.mono e1).mono (Evl.Ex.new (Evl.fresh_back e2 hT))) .nil))⟩
  stop := fun H ex => ⟨vs, SqL.of (ex _ _ h), by rw [List.length_map, List.length_zipIdx]; exact Nat.le_of_eq k.length.symm⟩
theorem ji_enumL (hm : X.mg "enumerate" = none) (h : J X a ρ (.lst ds)) (hg : Gl X "enumerate" := by rfl) (hs : starEach [a] X.env = [(false, eval a X.env)] := by rfl) : JI X (.Tuple elts kk tpos) (.Call (.Name "enumerate" p) [a] [] pos) ρ (ds.zipIdx.map fun p => D.tup [.int (p.2 : Nat), p.1]) := ⟨fun W σ H ex hV R g =>
  .of (pi_enum hg hm pa_w hs) (ja_cons h ja_nil hs W σ H ex hV _ fun vs W1 H1 s1 r1 => by
    cases r1 with
    | cons r t =>
      cases t
      cases r with
      | lst h1 k => exact ⟨_, _, rfl, SqL.of (s1.wh _ _ h1), g _ W1 H1 s1 (walks_enumL h1 k)⟩)⟩
end
def tx (cs : List Nat) : Str := ⟨cs.toArray⟩
theorem len_of (z : Str) : z.cps.toList.length = z.length := by rw [Array.length_toList]; rfl
theorem le_size {n : Nat} (h : n ≤ 10000) : n ≤ sizeLine := Nat.le_trans h (by decide)
theorem lt_size {n : Nat} (h : n ≤ 10000) : n < sizeLine := Nat.lt_of_le_of_lt h (by decide)
theorem lenS {z : Str} (h : z.length ≤ sizeLine) : lenD (.str z) = some z.length := if_pos h
theorem j_gI {X : Cx} {ρ : Rho} {pos : Pos} {n : Str} {i : Int} (h : ∃ t, X.mg n = some (.int i t)) (hg : Gl X n := by rfl) (hdb : (n == ("__debug__" : Str)) = false := by decide) : J X (.Name n pos) ρ (.int i) := by
  obtain ⟨t, h⟩ := h
  exact j_glob (v := .int i) h ⟨t, rfl⟩ (fun H => .int _) hg hdb
theorem j_gS {X : Cx} {ρ : Rho} {pos : Pos} {n : Str} {i : Str} (h : ∃ t, X.mg n = some (.str i t)) (hg : Gl X n := by rfl) (hdb : (n == ("__debug__" : Str)) = false := by decide) : J X (.Name n pos) ρ (.str i) := by
  obtain ⟨t, h⟩ := h
  exact j_glob (v := .str i) h ⟨t, rfl⟩ (fun H => .str _) hg hdb
def nmSign (c : Nat) : Bool := (decide (97 ≤ c) && decide (c ≤ 122)) || (decide (48 ≤ c) && decide (c ≤ 57))
theorem nm_mem (c : Nat) : decide (c ∈ ("abcdefghijklmnopqrstuvwxyz0123456789" : Str).cps.toList) = nmSign c := by
  rw [show ("abcdefghijklmnopqrstuvwxyz0123456789" : Str).cps.toList = [97, 98, 99, 100, 101, 102, 103, 104, 105, 106, 107, 108, 109, 110, 111, 112, 113, 114, 115, 116, 117, 118, 119, 120, 121, 122, 48, 49, 50, 51, 52, 53, 54, 55, 56, 57] from by decide +kernel]
  unfold nmSign
  rw [Bool.eq_iff_iff, Bool.or_eq_true, Bool.and_eq_true, Bool.and_eq_true, decide_eq_true_iff, decide_eq_true_iff, decide_eq_true_iff, decide_eq_true_iff, decide_eq_true_iff]
  simp only [List.mem_cons, List.not_mem_nil, or_false]
  omega
def isNm (z : Str) : Bool := (decide (1 ≤ z.length) && decide (z.length ≤ 12)) && z.cps.toList.all nmSign
end Pf

namespace Pf
open PySem L2 PySem.Spec PyProof.Rows
open Evl (Ex)
section
variable {X : Cx} {ρ : Rho} {a b e : Expr} {es : List Expr} {x y z d : D} {ds es' : List D} {pos p : Pos} {op : CmpOp} {bo : Operator} {P P' : D → Prop} {R : Er → Prop} {t : Bool}
theorem j_of (h : JX X e ρ P R) (hR : ∀ er, ¬ R er) (hP : ∀ d', P d' → d' = d) : J X e ρ d := ⟨fun W σ H ex hV Q g => h.run W σ H ex hV Q (fun d' hd => by rw [hP d' hd]; exact g) fun er h => absurd h (hR er)⟩
end
def kySign (c : Nat) : Bool := nmSign c || decide (c = 45)
theorem ky_mem (c : Nat) : decide (c ∈ ("abcdefghijklmnopqrstuvwxyz0123456789-" : Str).cps.toList) = kySign c := by
  rw [show ("abcdefghijklmnopqrstuvwxyz0123456789-" : Str).cps.toList = ("abcdefghijklmnopqrstuvwxyz0123456789" : Str).cps.toList ++ [45] from by decide +kernel]
  unfold kySign
  rw [← nm_mem, Bool.eq_iff_iff, Bool.or_eq_true, decide_eq_true_iff, decide_eq_true_iff, decide_eq_true_iff, List.mem_append, List.mem_singleton]
def isKy (z : Str) : Bool := (decide (1 ≤ z.length) && decide (z.length ≤ 20)) && z.cps.toList.all kySign
def nmD : D → Bool
  | .str z => isNm z
  | _ => false
def kyD : D → Bool
  | .str z => isKy z
  | _ => false
def inD (lo hi : Int) : D → Bool
  | .int i => decide (lo ≤ i) && decide (i ≤ hi)
  | _ => false
/-- a text that is not long, or an int -/
def part : D → Bool
  | .str z => decide (z.length ≤ 2000)
  | .int _ => true
  | _ => false
/-- an entry by its parts -/
def entD : List D → Bool
  | [.str w, a, b, c, d] => decide (w = "ask") && ((kyD a && (nmD b && inD 1 1000 c)) && inD 0 1000000000 d)
  | [.str w, a, b] => decide (w = "release") && (kyD a && inD 0 1000000000 b)
  | _ => false
def OkE (es : List D) : Prop := es.all part = true ∧ es.length ≤ 100 ∧ ∃ w r, es = .str w :: r
def kyOf : List D → Str
  | _ :: .str z :: _ => z
  | _ => ""
def lastOf (es : List D) : Int := match es.getLast? with
  | some (.int i) => i
  | _ => 0
def isRel : List D → Bool
  | .str w :: _ => decide (w = "release")
  | _ => false
def goesL (es : List D) (m : Int) (A : List Str) : Bool := entD es && (!decide (lastOf es < m) && (decide (kyOf es ∈ A) == isRel es))
/-- the number of the first entry that is none or does not go on -/
def chkAt : Int → List Str → List (List D) → Nat → Option Nat
  | _, _, [], _ => none
  | m, A, e :: r, k => if goesL e m A = true then chkAt (lastOf e) (A ++ [kyOf e]) r (k + 1) else some k
end Pf

namespace Pf
open PySem L2 PySem.Spec PyProof.Rows
open Evl (Ex)
theorem sup_k {P : Program} {K : PySem.W.Frag} {mg : Str → Option Value} {h : Heap} {C cc c N : Addr} {nm q : Str} {bs bm : List Value} {sn : List Str} {sub : List Value} {ab : Bool} {col : Option Bool} {dd cld cdd : Option Addr} {k0 k1 k2 k3 k5 : Option Value} {cl ccl : Value} {csl ccs : Array (Option Value)} {vs : Array Value} {file : Str} {tf : Tok} {cdC : ClassData}
    (X : K.In h) (G : h.Ns mainGlobals mg) (h1 : K.lookup C = some (excClassObj nm q C N bs bm true sn sub ab col dd k0 k1 k2 k3 k5 "ValueError.__new__")) (h2 : PySem.HandSPX.refsVE bm = true) (h3 : PySem.W.findIn K (.ref C) "__setattr__" = some (some (.builtin "object.__setattr__"))) (h4 : PySem.W.subIn K (.ref C) (.type "BaseException") = some true)
    (h5 : PySem.W.typeIn K (.ref C) = some (.type "type")) (h6 : PySem.W.keepIn K (.ref C) = true) (h7 : PySem.W.nsIn K mainGlobals "super" = some none) (h8 : K.lookup cc = some ⟨cl, cld, .cell (some (.ref C)), csl⟩) (h9 : K.lookup c = some ⟨ccl, cdd, .fields vs, ccs⟩) (h10 : vs[2]? = some (.str file tf)) (h11 : ((P.main.file : Str) == file) = true)
    (h12 : (P.main.scope.names.lookup ("super" : Str)).isSome = false) (h13 : PySem.W.clsIn K C = some cdC) (h14 : PySem.W.nsIn K cStatics "thirdparty.any" = some none) (h15 : PySem.W.mroIn K C (.ref C) = some true) (h16 : PySem.W.ks_superIn K C C "__init__" = some (some (.builtin "ValueError.__init__"))) (h17 : PySem.W.subIn K (.ref C) (.type "ValueError") = some true) : SupK P K mg C cc c where
  T := ⟨⟨nm, q, N, bs, bm, sn, sub, ab, col, dd, k0, k1, k2, k3, k5, h1, h2⟩, h3, h4, h5, h6⟩
  sup := PySem.W.mg_none_of X G h7
  cell := ⟨cl, cld, csl, h8⟩
  code := ⟨ccl, cdd, vs, ccs, file, tf, h9, h10, h11⟩
  top := h12
  cd := ⟨cdC, h13⟩
  opq := h14
  self := h15
  ini := h16
  sb := h17
theorem sup_e {P : Program} {w : World} {K : PySem.W.Frag} {mg : Str → Option Value} {base : Heap} {k : Nat} {x fld pa : Str} {C cc c fI : Addr} {fd : FuncData} {G : D → Prop} (SK : SupK P K mg C cc c) (hg : mg x = some (.ref C)) (h1 : PySem.W.findIn K (.ref C) "__init__" = some (some (.ref fI))) (h2 : PySem.W.typeIn K (.ref fI) = some (.type "function"))
    (F : FnOk P w K mg base CX0 k fI fd ["self", pa] (spSup K C fld G)) (hb : Binds K fd ["self", pa] []) : SupErr P w K mg base k x C fld G := ⟨hg, SK.T, fI, fd, pa, h1, h2, F, hb⟩
theorem own_e {K : PySem.W.Frag} {mg : Str → Option Value} {h : Heap} {x : Str} {C : Addr} (hg : mg x = some (.ref C)) (h1 : PySem.W.excIn K C [.type "ValueError", .type "Exception", .type "BaseException", .type "object"] "ValueError.__new__" = true) (h2 : PySem.W.keepIn K (.ref C) = true)
    (h3 : PySem.W.subIn K (.ref C) (.type "BaseException") = some true) (h4 : PySem.W.typeIn K (.ref C) = some (.type "type")) : OwnErr K mg x C := ⟨hg, ⟨_, F.excBase_ValueError, h1⟩, h2, h3, h4⟩
end Pf

namespace Pf
open PySem L2 PySem.Spec PyProof.Rows
open Evl (Ex)
section
variable {X : Cx} {K : PySem.W.Frag} {ρ : Rho} {a b e o : Expr} {es : List Expr} {ds : List D} {pos p apos cpos : Pos} {d : D}
end
end Pf
namespace Pf
open PySem L2 PySem.Spec PyProof.Rows
open Evl (Ex)
section
variable {X : Cx} {K : PySem.W.Frag} {ρ : Rho} {a b e o : Expr} {es : List Expr} {ds : List D} {pos p apos cpos : Pos} {d : D}
/-- isinstance(a tuple, T) -/
theorem jb_isiT {e2 : Expr} {Ty : String} {b : Bool} (T : Bt X.mg) (ha : JA X [e, e2] ρ [.tup ds, .ty Ty]) (hk : PySem.W.kitOne X.K (.type "tuple") (.type Ty) = some b) (hg : Gl X "isinstance" := by rfl) (he : starEach [e, e2] X.env = (false, eval e X.env) :: starEach [e2] X.env := by rfl) (hpl : (backTo pos (starEach [e2] X.env)).any (·.1) = false := by rfl) :
    J X (.Call (.Name "isinstance" p) [e, e2] [] pos) ρ (.bl b) := j_cb call_isi T.isinstance (by decide +kernel) ha (fun W H vs ex r Q q => by
  cases r with
  | cons r t =>
    cases t with
    | cons r' t' =>
      cases t'
      cases r'
      cases r with
      | @tup l vs _ h1 k =>
        have ht : TyX X.K H (.ref l) (.type "tuple") := by
          rcases Evl.ex_t ex h1 with (h | ⟨o, h⟩) | ⟨o, its, n, h, hc, _⟩
          · exact .base (.tup h)
          · exact .fTuple h
          · exact .kTuple h hc
        exact ⟨_, _, _, _, b, rfl, .ty Ty, ht, hk, q.now ex (.bl _)⟩) hg (by decide) (by decide) he hpl
end
end Pf

namespace Pf
open PySem L2 PySem.Spec PyProof.Rows
open Evl (Ex)
open PySem.NumText (AllDigits digitsVal)
section
variable {X : Cx} {K : PySem.W.Frag} {ρ : Rho} {a b e o : Expr} {es : List Expr} {ds : List D} {pos p apos cpos : Pos} {d : D}
end
theorem sum_le {xs : List Str} {m : Nat} (h : ∀ x ∈ xs, x.length ≤ m) : (xs.map (·.length)).sum ≤ xs.length * m := by
  induction xs with
  | nil => simp
  | cons x xs ih =>
    have h1 := h x (by simp)
    have h2 := ih fun y hy => h y (by simp [hy])
    simp only [List.map_cons, List.sum_cons, List.length_cons, Nat.add_mul]
    omega
def numS (n : Int) : List Nat := ((toString n : String) : Str).cps.toList
theorem signs_of (n : Nat) : numS (n : Int) = (Nat.toDigits 10 n).map Char.toNat := PySem.W.KIN.signs_num n
theorem dig_range {c : Char} (h : c.isDigit = true) : 48 ≤ c.toNat ∧ c.toNat ≤ 57 := by
  unfold Char.isDigit at h
  rw [Bool.and_eq_true, decide_eq_true_iff, decide_eq_true_iff] at h
  exact ⟨h.1, h.2⟩
theorem numS_dig (n : Nat) : AllDigits (numS (n : Int)) := by
  intro c hc
  rw [signs_of] at hc
  obtain ⟨ch, hch, rfl⟩ := List.mem_map.mp hc
  exact dig_range (Nat.isDigit_of_mem_toDigits (by decide) (by decide) hch)
theorem numS_val (n : Nat) : digitsVal (numS (n : Int)) = n := by rw [signs_of]; exact PySem.W.KIN.val_back n
theorem numS_le {n k : Nat} (hk : 1 ≤ k) (h : n < 10 ^ k) : (numS (n : Int)).length ≤ k := by rw [signs_of, List.length_map]; exact digits10_le hk h
theorem split_ne {x y : Str} (hy : Txt.split "" y ≠ []) : Txt.split x y ≠ [] := fun h => by
  have e := PySem.StrLaws.join_split x y
  rw [h] at e
  have e2 : x = "" := e.symm
  rw [e2] at h
  exact hy h
end Pf

namespace Pf
open PySem L2 PySem.Spec PyProof.Rows
open Evl (Ex)

/-- the texts that a set's entries bear -/
def txtOf (e : Int × Value) : Str := strOf e.2
def TxE (P : Program) (w : World) (e : Int × Value) : Prop := ∃ z tk, e = ((PySem.strKind P w).hash z, Value.str z tk)
/-- a set of texts at a: its members, each once, and a table that can be walked -/
structure TSet (P : Program) (w : World) (h : Heap) (a : Addr) (xs : List Str) (o : Obj) (es : Array (Int × Value)) (ep : Nat) (t : SetTable) : Prop where
  at' : h.get? a = some o
  ex : o.ExactSet
  da : o.data = .set es ep t
  tx : ∀ e ∈ es.toList, TxE P w e
  pm : (es.toList.map txtOf).Perm xs
  nd : xs.Nodup
  few : xs.length < scanBound
  fits : t.fits es.size = true
  ris : Ris t.place.toList
  led : w.params.followText "set-order" = true ∨ t.led = true
section
variable {P : Program} {w : World} {h h' : Heap} {a : Addr} {xs : List Str} {o : Obj} {es : Array (Int × Value)} {ep : Nat} {t : SetTable}
theorem TSet.size (R : TSet P w h a xs o es ep t) : es.size = xs.length := by rw [← Array.length_toList, ← R.pm.length_eq, List.length_map]
theorem TSet.small (R : TSet P w h a xs o es ep t) : es.size < scanBound := by rw [R.size]; exact R.few
end
section
variable {P : Program} {w : World} {A : Around} {E : Value → Shared → Prop} {s : Shared} {a : Addr} {xs : List Str}
end
section
variable {prog : Program} {w : World} {A : Around} {R : Result → Shared → Prop} {I : Addr} {fp wr : List Addr} {G : Array GenState → Array GenState → Prop} {n : Nat} {Pv : Nat → Value → Prop} {St : Nat → Shared → Prop}
end
section
variable {P : Program} {w : World} {A : Around} {E : Value → Shared → Prop} {s : Shared}
end
section
variable {P : Program} {w : World} {A : Around} {E : Value → Shared → Prop} {s : Shared}
end
end Pf

namespace Pf
open PySem L2 PySem.Spec PyProof.Rows
open Evl (Ex)
section
variable {P : Program} {w : World} {A : Around} {E : Value → Shared → Prop} {s : Shared} {a : Addr} {xs : List Str}
end
section
variable {X : Cx} {a : Expr} {ta : TE} {p p2 q pos : Pos} {ρ : Rho} {zs : List Str}
end
section
variable {X : Cx} {a : Expr} {p p2 q pos : Pos} {ρ : Rho} {xs : List Str}
end
end Pf

namespace Pf
open PySem L2 PySem.Spec PyProof.Rows
open Evl (Ex)
section
variable {X : Cx} {ρ : Rho} {a b c d e : Expr} {x y z u : D} {pos p : Pos} {op op' op'' : CmpOp} {t t' t'' : Bool}
end
abbrev adD (a : Addr) : D := .exc a none []
theorem rep_ad {K : PySem.W.Frag} {H : Hp} {a : Addr} : Rep K H (adD a) (.ref a) := .exc (fs := []) (fun dd z => by cases z) rfl .nil
section
variable {X : Cx} {ρ : Rho} {a b e : Expr} {pos p : Pos} {n z : Str} {T : List (Str × Option (List Int))} {ns : List Int}
end
section
variable {X : Cx} {K : PySem.W.Frag} {ρ : Rho} {a b : Expr} {ds es' : List D} {pos p tpos : Pos} {elts : List Expr} {kk : Nat}
end
section
variable {X : Cx} {ρ : Rho} {e e2 : Expr} {pos p : Pos} {fds : List (Str × D)} {a C : Addr} {oe : Obj} {pn : List (Addr × Obj)} {b : Bool}
theorem j_isE {c : V} {cv : Value} {d2 : D} (T : Bt X.mg) (EC : ExcC X.K C) (hz : Zc (.ref C) none oe) (hf : ∃ vs, oe.data = .fields vs) (he1 : J (X.suite a ((a, oe) :: pn)) e ρ (.exc a none fds)) (he2 : J (X.suite a ((a, oe) :: pn)) e2 ρ d2) (hr : ∀ W v, Rep X.K W d2 v → v = c) (hc : ∀ u, RelV c u → u = cv) (hk : PySem.W.kitOne X.K (.ref C) cv = some b) (hg : Gl X "isinstance" := by rfl)
    (hs : starEach [e, e2] X.env = (false, eval e X.env) :: starEach [e2] X.env := by rfl) (hs2 : starEach [e2] X.env = (false, eval e2 X.env) :: starEach [] X.env := by rfl) (hpl : (backTo pos (starEach [e2] X.env)).any (·.1) = false := by rfl) :
    J (X.suite a ((a, oe) :: pn)) (.Call (.Name "isinstance" p) [e, e2] [] pos) ρ (.bl b) :=
  j_cb (X := X.suite a ((a, oe) :: pn)) (call_isE EC hz hf) T.isinstance (by decide +kernel) (ja_cons he1 (ja_cons he2 ja_nil hs2) hs) (fun W H vs ex r Q q => by
    cases r with
    | cons r t =>
      cases t with
      | cons r' t =>
        cases t
        cases r
        have := hr _ _ r'
        subst this
        exact ⟨_, cv, b, rfl, hc, hk, q.now ex (.bl _)⟩) hg (by decide) (by decide) hs hpl
end
section
variable {X : Cx} {ρ : Rho} {pos : Pos}
inductive JPs (X : Cx) (ρ : Rho) : List (Option Expr) → List Expr → List (Str × D) → Prop
  | nil : JPs X ρ [] [] []
  | cons {k v : Expr} {ks : List (Option Expr)} {vs : List Expr} {z : Str} {d : D} {r : List (Str × D)} : J X k ρ (.str z) → J X v ρ d → JPs X ρ ks vs r → JPs X ρ (some k :: ks) (v :: vs) ((z, d) :: r)
def trsOf (X : Cx) : List (Option Expr) → List Expr → List (TE × TE)
  | some k :: ks, v :: vs => (wE X k, wE X v) :: trsOf X ks vs
  | _, _ => []
theorem JPs.len : ∀ {ks : List (Option Expr)} {vs : List Expr} {r : List (Str × D)}, JPs X ρ ks vs r → ks.length = vs.length ∧ ks.length = r.length ∧ ks.all (·.isSome) = true
  | _, _, _, .nil => ⟨rfl, rfl, rfl⟩
  | _, _, _, .cons _ _ h => by
    obtain ⟨a, b, c⟩ := h.len
    exact ⟨by simp [a], by simp [b], by simp [c]⟩
theorem JPs.run : ∀ {ks : List (Option Expr)} {vs : List Expr} {r : List (Str × D)}, JPs X ρ ks vs r → ∀ W σ H, Ex W H → Vis X.K ρ W σ → ∀ Q : List (V × V) → Hp → Prop, (∀ (us : List V) W' H', Step W H W' H' → RepAll X.K W' (r.map (·.2)) us → Q ((r.map fun q => V.str q.1).zip us) H') → tPairs (trsOf X ks vs) σ H Q
  | _, _, _, .nil => fun W σ H ex hV Q g => g [] W H (.refl ex) .nil
  | _, _, _, .cons hk hv h => fun W σ H ex hV Q g => hk W σ H ex hV _ fun x W1 H1 s1 r1 => hv W1 σ H1 s1.wh (hV.mono s1.ww) _ fun y W2 H2 s2 r2 => h.run W2 σ H2 s2.wh (hV.mono (s1.trans s2).ww) _ fun us W3 H3 s3 r3 => by
    cases r1
    exact g (y :: us) W3 H3 ((s1.trans s2).trans s3) (.cons (r2.mono s3.ww) r3)
end
end Pf

namespace Pf
open PySem L2 PySem.Spec PyProof.Rows
open Evl (Ex)
section
variable {K : PySem.W.Frag} {E : Ent} {ρ : RhoS} {σ : L2.St} {H Hf : Hp} {A : Nat → List Addr} {i : Nat} {d : D}
end
section
variable {X : Cx} {pin : List Nat} {st : List Stmt} {ρ : RhoS} {Φ : Out → Prop} {d : D}
end
section
variable {X : Cx} {ρ : Rho} {a b : Expr} {ds : List D} {pos : Pos} {P2 : D → Prop}
end
end Pf

namespace Pf
open PySem L2 PySem.Spec PyProof.Rows
open Evl (Ex)
open SrtO (Swo Srtd Stb SortableO Cmp)
/-- the text at the beginning of a tuple -/
def nmAt (h : Heap) (v : Value) : Str := match v with
  | .ref a => match h.get? a with
    | some o => match o.data with
      | .seq its _ => match its.toList with
        | Value.str z _ :: _ => z
        | _ => Str.empty
      | _ => Str.empty
    | none => Str.empty
  | _ => Str.empty
def HasTxt (h : Heap) (v : Value) : Prop := ∃ a o z t r n, v = .ref a ∧ h.get? a = some o ∧ o.cls = .type "tuple" ∧ o.data = .seq (Value.str z t :: r).toArray n
theorem HasTxt.nm {h : Heap} {v : Value} (x : HasTxt h v) : ∃ a o t r n, v = .ref a ∧ h.get? a = some o ∧ o.cls = .type "tuple" ∧ o.data = .seq (Value.str (nmAt h v) t :: r).toArray n := by
  obtain ⟨a, o, z, t, r, n, rfl, h1, h2, h3⟩ := x
  refine ⟨a, o, t, r, n, rfl, h1, h2, ?_⟩
  have : nmAt h (.ref a) = z := by
    unfold nmAt
    simp only [h1, h3]
  rw [this]; exact h3
section
variable {prog : Program} {w : World} {A : Around} {s : Shared}
end
section
variable {X : Cx} {β : Type} {nm : β → Str}
end
section
variable {X : Cx} {a : Expr} {p pos : Pos} {ρ : Rho}
end
end Pf

namespace Pf
open PySem L2 PySem.Spec PyProof.Rows
open Evl (Ex)
structure JNP (X : Cx) (e : Expr) (ρ : Rho) (P : List D → Prop) : Prop where
  run : ∀ W σ H, Ex W H → Vis X.K ρ W σ → ∀ Q : VK, (∀ ds, P ds → ∀ (a : Addr) (W' H' : Hp) (vs : List V), Step W H W' H' → H a = none → W' a = none → H' a = some (.lst vs) → RepAll X.K W' ds vs → Q (.ref a) H') → wE X e σ H Q
section
variable {X : Cx} {ρr : Rho} {e a o : Expr} {es : List Expr} {ds : List D} {d : D} {P : List D → Prop} {pos p apos : Pos}
theorem JNP.imp {P2 : List D → Prop} (h : JNP X e ρr P) (k : ∀ l, P l → P2 l) : JNP X e ρr P2 := ⟨fun W σ H ex hV Q g => h.run W σ H ex hV Q fun l hl => g l (k l hl)⟩
end
section
variable {X : Cx} {pin : List Nat} {ρ : RhoS} {Φ : Out → Prop} {e : Expr} {ds : List D} {P : List D → Prop} {pos p' p1 : Pos} {i : Nat} {x f : Str} {C : Addr} {fds : List (Str × D)}
end
section
variable {P : Program} {w : World} {K : PySem.W.Frag} {mg : Str → Option Value} {base : Heap} {x qual : Str} {st : Stmt} {f : Addr} {fd : FuncData} {N ps : List Str} {k : Nat} {G : List D → (List D → Prop) → Prop} {e : Expr} {pos : Pos}
end
section
variable {X : Cx} {ρ : Rho} {o e : Expr} {es : List Expr} {ds : List D} {C : Addr} {fds : List (Str × D)} {pos apos : Pos} {m f : Str} {k j n : Nat} {G : List D → (List D → Prop) → Prop} {P : List D → Prop}
end
section
variable {X : Cx} {a : Expr} {p pos : Pos} {ρ : Rho}
end
section
variable {X : Cx} {d : D} {ds : List D} {t u : Bool}
end
end Pf

namespace Pf
open PySem L2 PySem.Spec PyProof.Rows
open Evl (Ex)
inductive All2 {α β : Type} (R : α → β → Prop) : List α → List β → Prop
  | nil : All2 R [] []
  | cons {a : α} {b : β} {as : List α} {bs : List β} : R a b → All2 R as bs → All2 R (a :: as) (b :: bs)
section
variable {α β γ : Type} {R : α → β → Prop}
theorem All2.len : ∀ {as : List α} {bs : List β}, All2 R as bs → as.length = bs.length
  | _, _, .nil => rfl
  | _, _, .cons _ h => congrArg (· + 1) h.len
theorem All2.append {as : List α} {bs : List β} {as' : List α} {bs' : List β} (h : All2 R as bs) (h' : All2 R as' bs') : All2 R (as ++ as') (bs ++ bs') := by
  induction h with
  | nil => exact h'
  | cons a _ ih => exact .cons a ih
theorem All2.imp {S : α → β → Prop} {as : List α} {bs : List β} (h : All2 R as bs) (k : ∀ a ∈ as, ∀ b, R a b → S a b) : All2 S as bs := by
  induction h with
  | nil => exact .nil
  | cons a _ ih => exact .cons (k _ List.mem_cons_self _ a) (ih fun x hx => k x (List.mem_cons_of_mem _ hx))
end
section
variable {X : Cx} {elt tg iter : Expr} {scope : Scope} {own : List (Str × Nat)} {pos : Pos} {ρ : Rho}
end
end Pf

namespace Pf
open PySem L2 PySem.Spec PyProof.Rows
open Evl (Ex)
section
variable {X : Cx} {ρ : Rho} {a : Expr} {ds : List D} {pos p p2 kp tpos : Pos} {elts : List Expr} {kk kt : Nat}
end
section
variable {X : Cx} {pin : List Nat} {ρ : RhoS} {Φ : Out → Prop} {e : Expr} {ds es : List D} {pos p1 p2 p3 : Pos} {i : Nat} {x : Str}
end
theorem js_thru {X : Cx} {pin : List Nat} {ρ : RhoS} {Φ : Out → Prop} {body : List Stmt} {h₀ : ExceptHandler} {hs : List ExceptHandler} {pos : Pos} (h : JSs X.nox pin body ρ (noEx Φ)) : JS X pin (.Try body (h₀ :: hs) [] [] pos) ρ Φ := ⟨fun E σ H D hpn s k =>
  .of (ps_try_thru0 pss_w) (h.run E σ H D hpn s fun o ho => by
    cases o with
    | ex er ρ => exact absurd ho (by simp [noEx])
    | nx ρ => exact k _ ho
    | rt d ρ => exact k _ ho
    | bk ρ => exact k _ ho
    | ct ρ => exact k _ ho)⟩
end Pf

namespace Pf
open PySem L2 PySem.Spec PyProof.Rows
open Evl (Ex)

section
variable {X : Cx} {A' : Around} {W' : L2.WX} {E E2 : Value → Shared → Prop} {i : Nat} {n : Str} {pos : Pos} {u : Value} {s : Shared}
end
end Pf

namespace Pf
open PySem L2 PySem.Spec PyProof.Rows
open Evl (Ex)

section
variable {X : Cx} {body suite : List Stmt} {b₀ : Stmt} {x n : Str} {c : Value} {i : Nat} {np pos pos' : Pos} {tb : L2.WX → TS} {ts : Addr → Value → Option Addr → TS} {Wo : L2.WX}
end

def ExN (X : Cx) (E : Ent) (er : Er) (ρ : RhoS) : Prop := ∃ W : L2.WX, L2N.Takes X W ∧ ∀ d σ H H', StOk X.K E ρ σ H → Ex H H' → ErAt X.K H' er d → (∀ dd, d = some dd → H dd = none) → W er.cls d σ H'
section
variable {X : Cx} {pin : List Nat} {st : Stmt} {rest a b body : List Stmt} {ρ : RhoS} {Φ : Out → Prop} {e c tg iter : Expr} {es : List Expr} {d : D} {ds : List D} {pos p p' : Pos} {i k j n : Nat} {x : Str} {t : Bool} {er : Er} {P : D → Prop} {R : Er → Prop} {G : List D → (D → Prop) → (Er → Prop) → Prop}
/-- every wish that takes errors without a context -/
def WallN (X : Cx) : L2.WX := fun cls d σ H => ∃ Wx : L2.WX, L2N.Takes X Wx ∧ Wx cls d σ H
theorem ExN.good {E : Ent} {σ : L2.St} {H : Hp} (h : ExN X E er ρ) (s : StOk X.K E ρ σ H) : GoodX X.K H er fun cls d H' => WallN X cls d σ H' := fun d H' ex at' fr => by
  obtain ⟨Wx, tk, q⟩ := h
  exact ⟨Wx, tk, q d σ H H' s ex at' fr⟩
end
section
variable {P : Program} {w : World} {K : PySem.W.Frag} {mg : Str → Option Value} {base : Heap} {x qual : Str} {st : Stmt} {f : Addr} {fd : FuncData} {N ps : List Str} {k : Nat} {G : List D → (D → Prop) → (Er → Prop) → Prop}
end

section
variable {X : Cx} {pin : List Nat} {ρ : RhoS} {Φ : Out → Prop} {body suite : List Stmt} {b₀ : Stmt} {x n : Str} {c : Value} {i : Nat} {np pos pos' : Pos}
end
end Pf

namespace Pf
open PySem L2 PySem.Spec PyProof.Rows
open Evl (Ex)
section
variable {X : Cx} {ρ : Rho} {pos : Pos}
/-- {k: v, ..}, the keys numbers -/
inductive JPi (X : Cx) (ρ : Rho) : List (Option Expr) → List Expr → List (Int × D) → Prop
  | nil : JPi X ρ [] [] []
  | cons {k v : Expr} {ks : List (Option Expr)} {vs : List Expr} {z : Int} {d : D} {r : List (Int × D)} : J X k ρ (.int z) → J X v ρ d → JPi X ρ ks vs r → JPi X ρ (some k :: ks) (v :: vs) ((z, d) :: r)
theorem JPi.len : ∀ {ks : List (Option Expr)} {vs : List Expr} {r : List (Int × D)}, JPi X ρ ks vs r → ks.length = vs.length ∧ ks.length = r.length ∧ ks.all (·.isSome) = true
  | _, _, _, .nil => ⟨rfl, rfl, rfl⟩
  | _, _, _, .cons _ _ h => by
    obtain ⟨a, b, c⟩ := h.len
    exact ⟨by simp [a], by simp [b], by simp [c]⟩
theorem JPi.run : ∀ {ks : List (Option Expr)} {vs : List Expr} {r : List (Int × D)}, JPi X ρ ks vs r → ∀ W σ H, Ex W H → Vis X.K ρ W σ → ∀ Q : List (V × V) → Hp → Prop, (∀ (us : List V) W' H', Step W H W' H' → RepAll X.K W' (r.map (·.2)) us → Q ((r.map fun q => V.int q.1).zip us) H') → tPairs (trsOf X ks vs) σ H Q
  | _, _, _, .nil => fun W σ H ex hV Q g => g [] W H (.refl ex) .nil
  | _, _, _, .cons hk hv h => fun W σ H ex hV Q g => hk W σ H ex hV _ fun x W1 H1 s1 r1 => hv W1 σ H1 s1.wh (hV.mono s1.ww) _ fun y W2 H2 s2 r2 => h.run W2 σ H2 s2.wh (hV.mono (s1.trans s2).ww) _ fun us W3 H3 s3 r3 => by
    cases r1
    exact g (y :: us) W3 H3 ((s1.trans s2).trans s3) (.cons (r2.mono s3.ww) r3)
end
end Pf

namespace Pf
open PySem L2
open Evl (Ex)
section
variable {X : Cx} {pin : List Nat} {ρ : RhoS} {Φ : Out → Prop} {e ke fe o : Expr} {es : List Expr} {d : D} {ds : List D} {pos p p' p1 p2 p3 : Pos} {i j : Nat} {x y : Str} {kds : List (Key × D)} {z : Str}
end
end Pf

namespace Pf
open PySem L2 PySem.Spec PyProof.Rows
open Evl (Ex)
section
variable {X : Cx} {elt tg iter tg1 iter1 : Expr} {scope : Scope} {own : List (Str × Nat)} {pos : Pos} {ρ : Rho}
end
section
variable {X : Cx} {st : Stmt} {rest a b : List Stmt} {ρ : RhoS} {P : List D → Prop} {e c : Expr} {ds : List D} {pos p : Pos} {i : Nat} {x : Str}
end
section
variable {P : Program} {w : World} {K : PySem.W.Frag} {mg : Str → Option Value} {base : Heap} {x qual : Str} {st : Stmt} {f : Addr} {fd : FuncData} {N ps : List Str} {k : Nat} {G : List D → (List D → Prop) → Prop}
end
section
variable {X : Cx} {ρ : Rho} {e : Expr} {es : List Expr} {ds : List D} {pos p : Pos} {x : Str} {k j n : Nat} {G : List D → (List D → Prop) → Prop} {P : List D → Prop}
end
end Pf

namespace Pf
open PySem L2
open Evl (Ex)
theorem OwnAll.len {K : PySem.W.Frag} {Hf H : Hp} : ∀ {ds : List D} {vs : List V} {A : List Addr}, OwnAll K Hf H ds vs A → ds.length = vs.length
  | _, _, _, .nil => rfl
  | _, _, _, .cons _ r _ _ => by rw [List.length_cons, List.length_cons, r.len]
section
variable {X : Cx} {ρ : RhoS} {ke : Expr} {ds es : List D} {pos p1 : Pos} {i : Nat} {x : Str} {k : Nat}
end
end Pf

namespace Pf
open PySem L2 PySem.Spec PyProof.Rows
open Evl (Ex)
theorem OwnAll.put {K : PySem.W.Frag} {Hf H : Hp} {d : D} {y : V} (r : Rep K Hf d y) (hM : insM d = false) : ∀ {ds : List D} {vs : List V} {B : List Addr} (k : Nat), OwnAll K Hf H ds vs B → ∃ B', OwnAll K Hf H (ds.set k d) (vs.set k y) B' ∧ ∀ a ∈ B', a ∈ B
  | _, _, _, _, .nil => ⟨[], .nil, by simp⟩
  | _, _, _, 0, .cons (B := B0) q t nd w => ⟨[] ++ B0, .cons (.fz r) t (by simp) (by rw [hM]; intro z; cases z), fun a ha => List.mem_append_right _ ha⟩
  | _, _, _, k + 1, .cons (A := A0) (B := B0) q t nd w => by
    obtain ⟨B', h1, h2⟩ := OwnAll.put r hM k t
    refine ⟨A0 ++ B', .cons q h1 (fun a ha hb => nd a ha (h2 a hb)) w, fun a ha => ?_⟩
    rcases List.mem_append.mp ha with z | z
    · exact List.mem_append_left _ z
    · exact List.mem_append_right _ (h2 a z)
section
variable {X : Cx} {pin : List Nat} {ρ : RhoS} {Φ : Out → Prop} {e ke : Expr} {d : D} {ds : List D} {pos p' p1 : Pos} {i k : Nat} {x : Str}
end
section
variable {X : Cx} {st : Stmt} {rest : List Stmt} {ρ : RhoS} {P : List D → Prop} {d : D}
end
end Pf

namespace Pf
open PySem L2 PySem.Spec PyProof.Rows
open Evl (Ex)
section
variable {X : Cx} {ρ : Rho} {e : Expr} {pos p : Pos}
end
section
variable {P : Program} {w : World} {K : PySem.W.Frag} {mg : Str → Option Value} {base : Heap} {x qual : Str} {st : Stmt} {f : Addr} {fd : FuncData} {N ps : List Str} {k : Nat} {G : List D → (D → Prop) → Prop}
end
end Pf

namespace Pf
open PySem L2 PySem.Spec PyProof.Rows
mutual
/-- a bound of how long the data are shown, if they are small -/
def shD : Nat → D → Option Nat
  | _, .non => some 4
  | _, .bl _ => some 5
  | _, .int i => if 0 ≤ i ∧ i < 1000000000000000 then some 20 else none
  | _, .str x => if PySem.PyData.strOk x = true then some (10 * x.length + 2) else none
  | n + 1, .lst xs => (shAllD n xs).map (· + 3)
  | n + 1, .tup xs => (shAllD n xs).map (· + 3)
  | _, _ => none
def shAllD : Nat → List D → Option Nat
  | _, [] => some 0
  | n, x :: xs => match shD n x, shAllD n xs with
    | some a, some b => some (a + (b + 2))
    | _, _ => none
end
section
variable {X : Cx} {ρ : Rho} {e : Expr} {p pos : Pos} {d : D} {b : Nat}
end
end Pf

namespace Pf
open PySem L2 PySem.Spec PyProof.Rows
open Evl (Ex)
section
variable {X : Cx} {ρ : Rho} {e : Expr} {pos : Pos}
/-- {x} in an f-string, x is None -/
theorem j_fmtN (ha : J X e ρ .non) : J X (.FormattedValue e (-1) none pos) ρ (.str "None") := ⟨fun W σ H ex hV Q g => fun pins s I => by
  refine wpAny_FormattedValue_plain (thn (pe_w.run pins s σ H _ I (ha W σ H ex hV (fun v H' => ∃ W', Step W H W' H' ∧ v = .non) fun v W' H' st r => ⟨W', st, by cases r; rfl⟩)) fun u s1 ⟨vv, H1, I1, r1, W', st, ev⟩ => ?_)
  subst ev
  obtain rfl : u = .none := r1
  exact wpAny_formatField_none ⟨.str "None", H1, I1.tok _, ⟨_, rfl⟩, g _ _ _ st (.str _)⟩⟩
end
section
variable {X : Cx} {pin : List Nat} {ρ : RhoS} {Φ : Out → Prop} {es : List Expr} {ke : Expr} {ds ts : List D} {pos p' p1 tpos : Pos} {i k kk : Nat} {kx : Int} {x : Str}
/-- x[e] = (e1, ..), x an own list, the parts flat, read in the whole heap; e may be negative -/
theorem js_lsetT (hi : ρ[i]? = some (some (.ow (.lst ds)))) (h : JA X es (allR ρ) ts) (hfl : ts.all flatD = true) (htl : ts.length ≤ sizeLine) (hke : J X ke (allR ρ) (.int kx)) (hk' : ixN ds.length kx = some k) (hk : Φ (.nx (ρ.set i (some (.ow (.lst (ds.set k (.tup ts)))))))) (hN : X.N[i]? = some x := by rfl) (hv : L2.Vis X.env.scope x := by first | exact Or.inl rfl | exact Or.inr (Or.inl rfl))
    (hd : (x == ("__debug__" : Str)) = false := by decide) (hcd : (x == ("__classdict__" : Str)) = false := by decide)
    (ha : ∀ v, assign (.Subscript (.Name x p1) ke p') X.env v = (do
      let ov ← holding [v] (eval (.Name x p1) X.env)
      let iv ← holding [v, ov] (eval ke X.env)
      standAt p'
      holding [v, ov, iv] (setItem ov iv v)
      release [v, ov, iv] []) := by intro _; rfl)
    (hs : swapsWithSole [.Subscript (.Name x p1) ke p'] (.Tuple es kk tpos) pos.line X.env = pure false := by rfl) (hw : swappedStores [.Subscript (.Name x p1) ke p'] (.Tuple es kk tpos) X.env = pure none := by rfl)
    (h1 : (assignEach [.Subscript (.Name x p1) ke p'] X.env).map (·.2) = [assign (.Subscript (.Name x p1) ke p') X.env] := by rfl) : JS X pin (.Assign [.Subscript (.Name x p1) ke p'] (.Tuple es kk tpos) pos) ρ Φ := ⟨fun E σ H D hpn ⟨Hf, A, s⟩ kont => by
  refine .of (ps_asg (pe_tup pa_w) (pg_sub (pe_var hN hv hd hcd) pe_w set_list ha) hs hw h1) ?_
  refine h H σ H (.refl _) s.visH _ fun ys W' H' st r => ⟨by rw [← r.length]; exact htl, fun q hq => ?_⟩
  have s0 := s.grow st.hh
  have s' := s0.step (.new s0.fh hq (o := .tup ys))
  have rq : Rep X.K (upd Hf q (.tup ys)) (.tup ts) (.ref q) := .tup (SqT.of upd_same) (r.any hfl)
  obtain ⟨v, hσ, ow, ne⟩ := s'.sl i _ hi
  refine ⟨v, hσ, ?_⟩
  refine hke _ σ _ (.refl _) s'.visH _ fun y2 W2 H2 st2 r2 => ?_
  cases r2
  have s2 := s'.grow st2.hh
  obtain ⟨v2, hσ2, ow2, ne2⟩ := s2.sl i _ hi
  have ev : v2 = v := by rw [hσ] at hσ2; exact (Option.some.inj (Option.some.inj hσ2)).symm
  subst ev
  generalize hA : A i = Ai at ow2 ne2
  cases ow2 with
  | fz _ => exact absurd rfl ne2
  | @lst l vs _ B hl1 hal nB =>
    have hm : l ∈ A i := by rw [hA]; exact List.mem_cons_self
    have hlen : ds.length = vs.length := hal.length
    obtain ⟨B', q1, q2⟩ := OwnAll.put (d := .tup ts) rq rfl k hal
    have nB' : l ∉ B' := fun z => nB (q2 l z)
    refine ⟨l, vs, kx, k, rfl, rfl, hl1, by rw [← hlen]; exact hk', ?_⟩
    exact kont _ hk _ _ ⟨_, _, s2.change (B := l :: B') hi hσ2 hm (by simp) (fun b hb => by
      rw [hA]
      rcases List.mem_cons.mp hb with z | z
      · rw [z]; exact List.mem_cons_self
      · exact List.mem_cons_of_mem _ (q2 b z)) (.lst upd_same (q1.move (.refl _) fun b hb => upd_ne fun z => nB' (by rw [← z]; exact hb)) nB')⟩⟩
end
section
variable {X : Cx} {ρ : Rho} {a b e : Expr} {es : List Expr} {ds : List D} {i j : Int} {pos p : Pos}
theorem rc_divmod {K : PySem.W.Frag} (h : CDiv i j) : RCD K (fun xs H Q => ∃ i j, xs = [.int i, .int j] ∧ CDiv i j ∧ ∀ p, H p = none → Q (.ref p) (upd H p (.tup [.int (i / j), .int (i % j)]))) [.int i, .int j] (.tup [.int (i / j), .int (i % j)]) := fun W H vs ex r Q q => by
  cases r with
  | cons r t =>
    cases r
    cases t with
    | cons r t =>
      cases r; cases t
      exact ⟨i, j, rfl, h, fun p hp => q _ _ _ (.new ex hp) (.tup (SqT.of upd_same) (.cons (.int _) (.cons (.int _) .nil)))⟩
/-- divmod(a, b) of ints -/
theorem jb_divmod (hm : X.mg "divmod" = none) (ha : JA X [a, b] ρ [.int i, .int j]) (h : CDiv i j) (hg : Gl X "divmod" := by rfl) (he : starEach [a, b] X.env = (false, eval a X.env) :: starEach [b] X.env := by rfl) (hpl : (backTo pos (starEach [b] X.env)).any (·.1) = false := by rfl) :
    J X (.Call (.Name "divmod" p) [a, b] [] pos) ρ (.tup [.int (i / j), .int (i % j)]) := j_cb call_divmod hm (by decide +kernel) ha (rc_divmod h) hg (by decide) (by decide) he hpl
/-- [x] * n -/
theorem od_mulL1 {d : D} {n : Nat} (hn : n ≤ sizeLine) : OpD X .Mult (.lst [d]) (.int (n : Int)) (.lst (List.replicate n d)) := ⟨_, op_rep, fun W H v u ex r1 r2 Q q => by
  cases r2
  cases r1 with
  | lst h1 k1 =>
    cases k1 with
    | cons k t =>
      cases t
      have hz : (sizeLine : Nat) < 2 ^ 63 := by decide
      refine ⟨_, _, _, rfl, rfl, ex _ _ h1, by omega, by omega, by simpa using hn, fun p hp => q _ _ _ (.new ex hp) (.lst upd_same ?_)⟩
      have e : ∀ (m : Nat) (y : V), (List.replicate m [y]).flatten = List.replicate m y := fun m y => by
        induction m with
        | zero => rfl
        | succ m ih => rw [List.replicate_succ, List.flatten_cons, ih]; rfl
      rw [Int.toNat_natCast, e]
      have g : ∀ m : Nat, RepAll X.K W (List.replicate m d) (List.replicate m _) := fun m => by
        induction m with
        | zero => exact .nil
        | succ m ih => exact .cons k ih
      exact (g n).mono (Evl.Ex.new (Evl.fresh_back ex hp))⟩
end
end Pf

namespace Toy
open PySem PyProof.Rows L2 Pf
section
variable {P : Program} {w : World} {K : PySem.W.Frag} {mg : Str → Option Value} {base : Heap}
abbrev sRow : Stmt := top 29
theorem scRow : FnScope ["cell", "many", "row", "rest", "state", "k"] ["cell", "many"] (defScope sRow) := ⟨rfl, rfl, rfl, by decide +kernel, rfl, by decide +kernel, by decide +kernel⟩
def gRow : List D → (D → Prop) → Prop := fun ds P => ∃ (c : Int) (m : Nat), ds = [.int c, .int m] ∧ m ≤ 10000 ∧ P = fun d => ∃ ns : List Int, d = .lst (ns.map D.int) ∧ ns.length = m ∧ ∀ n ∈ ns, 0 ≤ n ∧ n < 1009
theorem mod1009 (a : Int) : 0 ≤ a % 1009 ∧ a % 1009 < 1009 := by omega
theorem ok_row {f : Addr} {fd : FuncData} (F : Fun K "_law_row" "_law_row" sRow f fd) (T : Bt mg) : FnOk P w K mg base CX0 1 f fd ["cell", "many"] (spP K 2 gRow) := by
  refine fn_pure F scRow (by rintro ds Pd ⟨c, m, rfl, _⟩; rfl) fun cdv A outer s H E ds Pd hr hG => ?_
  obtain ⟨c, m, rfl, hm, rfl⟩ := hG
  have nd := scRow.nd
  -- row = []; rest = 0
  refine jss_cons (js_setN (i := 2) (jn_lst ja_nil) ?_ nd)
  refine jss_cons (js_set (i := 3) j_int ?_ nd)
  -- if abs(cell) >= 10 ** 18: rest = abs(cell)
  refine jss_mid (fun ρ => ∃ r : Int, ρ = [some (.fz (.int c)), some (.fz (.int m)), some (.ow (.lst [])), some (.fz (.int r)), none, none]) (js_if (jt_cm (jb_abs T (ja_cons (jv 0 rfl) ja_nil)) (j_bin j_int j_int (od_powI ⟨by decide, by decide, by decide⟩)) cd_geI) (fun _ => ?_) (fun _ => ?_)) ?_
  · exact jss_cons (js_set (i := 3) (jb_abs T (ja_cons (jv 0 rfl) ja_nil)) (jss_nil ⟨_, rfl, _, rfl⟩) nd)
  · exact jss_nil ⟨_, rfl, _, rfl⟩
  rintro _ ⟨r, rfl⟩
  -- state = int(abs(cell)) % 2147483647
  refine jss_cons (js_set (i := 4) (j_bin (jb_int T (ja_cons (jb_abs T (ja_cons (jv 0 rfl) ja_nil)) ja_nil)) j_int (od_modI (by decide))) ?_ nd)
  -- for k in range(many)
  refine jss_mid (fun ρ => ∃ (r s : Int) (ns : List Int) (o : Option SV), ρ = [some (.fz (.int c)), some (.fz (.int m)), some (.ow (.lst (ns.map D.int))), some (.fz (.int r)), some (.fz (.int s)), o] ∧ ns.length = m ∧ ∀ n ∈ ns, 0 ≤ n ∧ n < 1009)
    (js_range m (i := 5) (fun k ρ => ∃ (r s : Int) (ns : List Int) (o : Option SV), ρ = [some (.fz (.int c)), some (.fz (.int m)), some (.ow (.lst (ns.map D.int))), some (.fz (.int r)), some (.fz (.int s)), o] ∧ ns.length = k ∧ ∀ n ∈ ns, 0 ≤ n ∧ n < 1009) T (jv 1 rfl) (by omega) nd ⟨_, _, [], _, rfl, rfl, by simp⟩ ?_ ?_) ?_
  · rintro k _ hk ⟨r, s, ns, o, rfl, hl, hb⟩
    refine jss_cons (js_set (i := 4) (j_bin (jb_int T (ja_cons (j_bin (j_bin (j_bin (jv 4 rfl) j_int od_addI) j_int (od_mulI cmulR)) (j_bin j_int (jv 5 rfl) (od_mulI cmulL)) od_addI) ja_nil)) j_int (od_modI (by decide))) ?_ nd)
    refine jss_cons (js_if (jt_cm (jv 3 rfl) j_int cd_gtI) (fun _ => ?_) (fun _ => ?_))
    · refine jss_cons (js_append (i := 2) (ds := ns.map D.int) rfl (j_bin (jb_int T (ja_cons (jv 3 rfl) ja_nil)) j_int (od_modI (by decide))) (by rw [List.length_map, hl]; exact Nat.lt_of_lt_of_le (Nat.lt_of_lt_of_le hk hm) (by decide)) ?_)
      refine jss_cons (js_set (i := 3) (j_bin (jv 3 rfl) j_int (od_fdivI ⟨by decide, by decide⟩)) ?_ nd)
      refine jss_nil (jss_nil ⟨_, _, ns ++ [r % 1009], _, by rw [List.map_append]; rfl, by simp [hl], ?_⟩)
      intro n hn
      rcases List.mem_append.mp hn with h | h
      · exact hb n h
      · simp at h; subst h; exact mod1009 _
    · refine jss_cons (js_append (i := 2) (ds := ns.map D.int) rfl (j_bin (jb_int T (ja_cons (j_bin (jv 4 rfl) j_int (od_fdivI ⟨by decide, by decide⟩)) ja_nil)) j_int (od_modI (by decide))) (by rw [List.length_map, hl]; exact Nat.lt_of_lt_of_le (Nat.lt_of_lt_of_le hk hm) (by decide)) ?_)
      refine jss_nil (jss_nil ⟨_, _, ns ++ [_], _, by rw [List.map_append]; rfl, by simp [hl], ?_⟩)
      intro n hn
      rcases List.mem_append.mp hn with h | h
      · exact hb n h
      · simp at h; subst h; exact mod1009 _
  · rintro _ ⟨r, s, ns, o, rfl, hl, hb⟩
    exact ⟨_, rfl, r, s, ns, o, rfl, hl, hb⟩
  rintro _ ⟨r, s, ns, o, rfl, hl, hb⟩
  -- return row
  exact jss_cons (js_ret (jv 2 rfl) ⟨ns, rfl, hl, hb⟩)
end
end Toy

namespace Toy
open PySem PyProof.Rows L2 Pf
section
variable {P : Program} {w : World} {K : PySem.W.Frag} {mg : Str → Option Value} {base : Heap}
abbrev sNumbers : Stmt := top 30
theorem scNumbers : FnScope ["script", "many", "cells", "each", "numbers", "cell", "number"] ["script", "many"] (defScope sNumbers) := ⟨rfl, rfl, rfl, by decide +kernel, rfl, by decide +kernel, by decide +kernel⟩
/-- so many numbers below 1009 -/
def isNums (m : Nat) (d : D) : Prop := ∃ ns : List Int, d = .lst (ns.map D.int) ∧ ns.length = m ∧ ∀ n ∈ ns, 0 ≤ n ∧ n < 1009
def gNumbers : List D → (D → Prop) → Prop := fun ds P => ∃ (ns : List Int) (m : Nat), ds = [.scr ns, .int m] ∧ ns.length ≤ 63 ∧ m ≤ 1000 ∧ P = isNums m
def lenAt (i m : Nat) (ρ : RhoS) : Nat := match ρ[i]? with
  | some (some (.ow (.lst ds))) => m - ds.length
  | _ => 0
theorem cut_len_le {α : Type} (xs : List α) (a b : Option Int) : (cut xs a b).length ≤ xs.length := by
  unfold cut
  rw [List.length_take, List.length_drop]
  omega
theorem cut_to {α : Type} (xs : List α) (m : Nat) (h : m ≤ xs.length) : (cut xs none (some (m : Int))).length = m ∧ ∀ x ∈ cut xs none (some (m : Int)), x ∈ xs := by
  unfold cut
  rw [HT.sIx_none, HT.sIx_nat]
  constructor
  · rw [List.length_take, List.length_drop]; omega
  · intro x hx
    exact List.mem_of_mem_drop (List.mem_of_mem_take hx)
theorem map_cut (ns : List Int) (a b : Option Int) : cut (ns.map D.int) a b = (cut ns a b).map D.int := by
  unfold cut
  rw [List.length_map, ← List.map_drop, ← List.map_take]
theorem ok_numbers {f : Addr} {fd : FuncData} (F : Fun K "_law_numbers" "_law_numbers" sNumbers f fd) (T : Bt mg) (cR : PFn P w K mg base 1 "_law_row" 2 gRow) : FnOk P w K mg base CX0 2 f fd ["script", "many"] (spP K 2 gNumbers) := by
  refine fn_pure F scNumbers (by rintro ds Pd ⟨c, m, rfl, _⟩; rfl) fun cdv A outer s H E ds Pd hr hG => ?_
  obtain ⟨sc, m, rfl, hsc, hm, rfl⟩ := hG
  have nd := scNumbers.nd
  -- cells = script[:63]
  refine jss_cons (js_set (i := 2) (j_sl (jv 0 rfl) jo_none (jo_some j_int) sld_X) ?_ nd)
  have hcl : (cut sc none (some 63)).length ≤ 63 := Nat.le_trans (cut_len_le _ _ _) hsc
  generalize cut sc none (some 63) = cells at hcl
  -- each = 1 + many // max(1, len(cells))
  refine jss_cons (js_set (i := 3) (j_bin j_int (j_bin (jv 1 rfl) (jb_max2 T (ja_cons j_int (ja_cons (jb_len T (ja_cons (jv 2 rfl) ja_nil) rfl) ja_nil))) (od_fdivI ⟨?_, ?_⟩)) od_addI) ?_ nd)
  · split <;> omega
  · rw [List.length_map]; split <;> omega
  obtain ⟨e, he, he2⟩ : ∃ e : Nat, (1 + (m : Int) / (if ((cells.map D.int).length : Int) > 1 then ((cells.map D.int).length : Int) else 1)) = (e : Int) ∧ e ≤ 1 + m := by
    have h1 : (0 : Int) ≤ (m : Int) / (if ((cells.map D.int).length : Int) > 1 then ((cells.map D.int).length : Int) else 1) := Int.ediv_nonneg (by omega) (by split <;> omega)
    have h2 : (m : Int) / (if ((cells.map D.int).length : Int) > 1 then ((cells.map D.int).length : Int) else 1) ≤ m := Int.ediv_le_self _ (by omega)
    exact ⟨(1 + (m : Int) / (if ((cells.map D.int).length : Int) > 1 then ((cells.map D.int).length : Int) else 1)).toNat, by omega, by omega⟩
  rw [he]
  -- numbers = []
  refine jss_cons (js_setN (i := 4) (jn_lst ja_nil) ?_ nd)
  -- for cell in cells
  refine jss_mid (fun ρ => ∃ (xs : List Int) (o1 o2 : Option SV), ρ = [some (.fz (.scr sc)), some (.fz (.int m)), some (.fz (.lst (cells.map D.int))), some (.fz (.int e)), some (.ow (.lst (xs.map D.int))), o1, o2] ∧ xs.length ≤ 63 * 1001 ∧ ∀ n ∈ xs, 0 ≤ n ∧ n < 1009)
    (js_each (i := 5) cells D.int (fun k ρ => ∃ (xs : List Int) (o1 o2 : Option SV), ρ = [some (.fz (.scr sc)), some (.fz (.int m)), some (.fz (.lst (cells.map D.int))), some (.fz (.int e)), some (.ow (.lst (xs.map D.int))), o1, o2] ∧ xs.length ≤ k * 1001 ∧ ∀ n ∈ xs, 0 ≤ n ∧ n < 1009) (ji_list (jv 2 rfl)) nd ⟨[], _, _, rfl, by simp, by simp⟩ ?_ ?_) ?_
  · rintro k c _ hk ⟨xs, o1, o2, rfl, hl, hb⟩
    have hk' : k < cells.length := (List.getElem?_eq_some_iff.mp hk).1
    refine jss_cons (js_forP (pat := .nm 6) (Pd := fun ds => ∃ ys : List Int, ds = ys.map D.int ∧ ys.length = e ∧ ∀ n ∈ ys, 0 ≤ n ∧ n < 1009)
      (fun ds j ρ => ∃ (zs : List Int) (o2 : Option SV), ρ = [some (.fz (.scr sc)), some (.fz (.int m)), some (.fz (.lst (cells.map D.int))), some (.fz (.int e)), some (.ow (.lst (zs.map D.int))), some (.fz (.int c)), o2] ∧ zs.length = xs.length + j ∧ ∀ n ∈ zs, 0 ≤ n ∧ n < 1009)
      (jip_call (jp_call cR hr (ja_cons (jv 5 rfl) (ja_cons (jv 3 rfl) ja_nil)) ⟨c, e, rfl, by omega, rfl⟩) (by rintro d ⟨ns, rfl, h1, h2⟩; exact ⟨_, rfl, ns, rfl, h1, h2⟩)) (pg_name nd rfl (Or.inl rfl)) ?_ ?_ ?_ PassesOwn.never)
    · rintro ds ⟨ys, rfl, hy, hy2⟩
      exact ⟨xs, _, rfl, by simp, hb⟩
    · rintro ds ⟨ys, rfl, hy, hy2⟩ j d ρ hd ⟨zs, o2', rfl, hz, hz2⟩
      obtain ⟨y, hy3, rfl⟩ := map_get hd
      have hj : j < ys.length := (List.getElem?_eq_some_iff.mp hy3).1
      refine ⟨_, rfl, ?_⟩
      refine jss_cons (js_append (i := 4) (ds := zs.map D.int) rfl (jv 6 rfl) (by rw [List.length_map, hz]; exact Nat.lt_of_lt_of_le (by omega : _ < 100000) (by decide)) ?_)
      refine jss_nil ⟨zs ++ [y], _, by rw [List.map_append]; rfl, by simp [hz]; omega, ?_⟩
      intro n hn
      rcases List.mem_append.mp hn with h | h
      · exact hz2 n h
      · simp at h; subst h; exact hy2 _ (List.mem_of_getElem? hy3)
    · rintro ds ⟨ys, rfl, hy, hy2⟩ ρ ⟨zs, o2', rfl, hz, hz2⟩
      rw [List.length_map] at hz
      exact jss_nil ⟨zs, _, _, rfl, by omega, hz2⟩
  · rintro _ ⟨xs, o1, o2, rfl, hl, hb⟩
    exact ⟨_, rfl, xs, o1, o2, rfl, by omega, hb⟩
  rintro _ ⟨xs, o1, o2, rfl, hl, hb⟩
  -- while len(numbers) < many
  refine jss_mid (fun ρ => ∃ (xs : List Int), ρ = [some (.fz (.scr sc)), some (.fz (.int m)), some (.fz (.lst (cells.map D.int))), some (.fz (.int e)), some (.ow (.lst (xs.map D.int))), o1, o2] ∧ m ≤ xs.length ∧ ∀ n ∈ xs, 0 ≤ n ∧ n < 1009)
    (js_while (fun ρ => ∃ (xs : List Int), ρ = [some (.fz (.scr sc)), some (.fz (.int m)), some (.fz (.lst (cells.map D.int))), some (.fz (.int e)), some (.ow (.lst (xs.map D.int))), o1, o2] ∧ xs.length ≤ 63 * 1001 + m ∧ ∀ n ∈ xs, 0 ≤ n ∧ n < 1009) (lenAt 4 m) ⟨xs, rfl, by omega, hb⟩ ?_ PassesOwn.never) ?_
  · rintro _ ⟨xs, rfl, hl, hb⟩
    refine ⟨_, jt_cm (jb_len T (ja_cons (jv 4 rfl) ja_nil) rfl) (jv 1 rfl) cd_ltI, fun ht => ?_, fun ht => ?_⟩
    · have ht' : xs.length < m := by simpa using ht
      refine jss_cons (js_append (i := 4) (ds := xs.map D.int) rfl j_int (by rw [List.length_map]; exact Nat.lt_of_lt_of_le (by omega : _ < 100000) (by decide)) ?_)
      refine jss_nil ⟨⟨xs ++ [0], by rw [List.map_append]; rfl, by simp; omega, ?_⟩, ?_⟩
      · intro n hn
        rcases List.mem_append.mp hn with h | h
        · exact hb n h
        · simp at h; subst h; omega
      · show lenAt 4 m [_, _, _, _, some (.ow (.lst (xs.map D.int ++ [D.int 0]))), _, _] < lenAt 4 m [_, _, _, _, some (.ow (.lst (xs.map D.int))), _, _]
        simp [lenAt]; omega
    · have ht' : m ≤ xs.length := by simpa using ht
      exact ⟨_, rfl, xs, rfl, ht', hb⟩
  rintro _ ⟨xs, rfl, hl, hb⟩
  -- return numbers[:many]
  refine jss_cons (js_ret (j_sl (jv 4 rfl) jo_none (jo_some (jv 1 rfl)) sld_L) ⟨cut xs none (some (m : Int)), ?_, (cut_to xs m hl).1, fun n hn => hb n ((cut_to xs m hl).2 n hn)⟩)
  rw [map_cut]
end
end Toy

namespace Toy
open PySem PyProof.Rows L2 Pf
section
variable {P : Program} {w : World} {K : PySem.W.Frag} {mg : Str → Option Value} {base : Heap}
abbrev strOk (x : Str) : Bool := PySem.PyData.strOk x
structure Sh where
  g : Str
  o : Int
  e : Int
instance : Inhabited Sh := ⟨⟨"", 0, 0⟩⟩
def shD (s : Sh) : D := .tup [.str s.g, .int s.o, .int s.e]
def poolN (nm : Str) (shs : List Sh) (a : Int) : D := .tup [.str nm, .str "pool", .tup [], .tup [.int a, .tup (shs.map shD)]]
structure OkSh (shs : List Sh) : Prop where
  len : shs.length ≤ 8
  ok : ∀ s ∈ shs, strOk s.g = true ∧ 0 ≤ s.o ∧ s.o ≤ s.e
  nd : (shs.map Sh.g).Nodup
def ownS (shs : List Sh) : Int := (shs.map Sh.o).sum
def isPool (d : D) : Prop := ∃ (shs : List Sh) (a : Int), d = poolN "pool1" shs a ∧ OkSh shs ∧ shs ≠ [] ∧ ownS shs ≤ a
abbrev sGroups : Stmt := top 31
theorem scGroups : FnScope ["number", "found", "k"] ["number"] (defScope sGroups) := ⟨rfl, rfl, rfl, by decide +kernel, rfl, by decide +kernel, by decide +kernel⟩
def pw2 (k : Nat) : Int := ([1, 2, 4, 8] : List Int).getD k 1
def abcz : List Str := ["a", "b", "c7", "z"]
def grps (n : Int) : Nat → List Str
  | 0 => []
  | k + 1 => if n / pw2 k % 2 = 1 then grps n k ++ [abcz.getD k ""] else grps n k
theorem grps_len (n : Int) : ∀ k, (grps n k).length ≤ k
  | 0 => by simp [grps]
  | k + 1 => by
    have := grps_len n k
    unfold grps
    split
    · rw [List.length_append]; simp; omega
    · omega
theorem grps_sub (n : Int) : ∀ k, k ≤ 4 → (grps n k).Sublist (abcz.take k)
  | 0, _ => by simp [grps]
  | k + 1, h => by
    have ih := grps_sub n k (by omega)
    have hk : k < abcz.length := by show k < 4; omega
    rw [List.take_succ_eq_append_getElem hk]
    unfold grps
    split
    · refine ih.append ?_
      rw [List.getD_eq_getElem?_getD, List.getElem?_eq_getElem hk]
      exact List.Sublist.refl _
    · exact ih.trans (List.sublist_append_left _ _)
def gGroups : List D → (D → Prop) → Prop := fun ds P => ∃ (n : Int), ds = [.int n] ∧ P = fun d => d = .tup ((grps n 4).map D.str)
theorem pick1248 {k : Nat} (h : k < 4) : atI [D.int 1, D.int 2, D.int 4, D.int 8] (k : Int) = some (.int (pw2 k)) ∧ 0 < pw2 k ∧ pw2 k < 1073741824 := match k, h with
  | 0, _ => ⟨rfl, by decide, by decide⟩
  | 1, _ => ⟨rfl, by decide, by decide⟩
  | 2, _ => ⟨rfl, by decide, by decide⟩
  | 3, _ => ⟨rfl, by decide, by decide⟩
theorem pickG {k : Nat} (h : k < 4) : atI [D.str "a", D.str "b", D.str "c7", D.str "z"] (k : Int) = some (.str (abcz.getD k "")) := match k, h with
  | 0, _ => rfl
  | 1, _ => rfl
  | 2, _ => rfl
  | 3, _ => rfl
theorem ok_groups {f : Addr} {fd : FuncData} (F : Fun K "_law_groups" "_law_groups" sGroups f fd) (T : Bt mg) : FnOk P w K mg base CX0 1 f fd ["number"] (spP K 1 gGroups) := by
  refine fn_pure F scGroups (by rintro ds Pd ⟨c, rfl, _⟩; rfl) fun cdv A outer s H E ds Pd hr hG => ?_
  obtain ⟨n, rfl, rfl⟩ := hG
  have nd := scGroups.nd
  refine jss_cons (js_setN (i := 1) (jn_lst ja_nil) ?_ nd)
  refine jss_mid (fun ρ => ∃ (o : Option SV), ρ = [some (.fz (.int n)), some (.ow (.lst ((grps n 4).map D.str))), o])
    (js_range 4 (i := 2) (fun k ρ => ∃ (o : Option SV), ρ = [some (.fz (.int n)), some (.ow (.lst ((grps n k).map D.str))), o]) T j_int (by decide) nd ⟨_, rfl⟩ ?_ ?_) ?_
  · rintro k _ hk ⟨o, rfl⟩
    obtain ⟨hv, v1, v2⟩ := pick1248 hk
    have hg := pickG hk
    have hl := grps_len n k
    refine jss_cons (js_if (jt_cm (j_bin (jb_int T (ja_cons (j_bin (jv 0 rfl) (j_ix (j_lst (ja_cons j_int (ja_cons j_int (ja_cons j_int (ja_cons j_int ja_nil))))) (jv 2 rfl) (ixd_L hv)) (od_fdivI ⟨v1, v2⟩)) ja_nil)) j_int (od_modI (by decide))) j_int cd_eqI) (fun h => ?_) (fun h => ?_))
    · have h' := of_decide_eq_true h
      refine jss_cons (js_append (i := 1) (ds := (grps n k).map D.str) rfl (j_ix (j_lst (ja_cons j_str (ja_cons j_str (ja_cons j_str (ja_cons j_str ja_nil))))) (jv 2 rfl) (ixd_L hg)) (by rw [List.length_map]; exact Nat.lt_of_lt_of_le (by omega : _ < 5) (by decide)) ?_)
      refine jss_nil (jss_nil ⟨some (.fz (.int (k : Nat))), ?_⟩)
      rw [show grps n (k + 1) = grps n k ++ [abcz.getD k ""] from if_pos h', List.map_append]
      rfl
    · have h' := of_decide_eq_false h
      refine jss_nil (jss_nil ⟨some (.fz (.int (k : Nat))), ?_⟩)
      rw [show grps n (k + 1) = grps n k from if_neg h']
      rfl
  · rintro _ ⟨o, rfl⟩
    exact ⟨_, rfl, o, rfl⟩
  rintro _ ⟨o, rfl⟩
  exact jss_cons (js_ret (jb_tupleL T (ja_cons (jv 1 rfl) ja_nil)) rfl)
structure OkNm (ns : List Str) : Prop where
  len : ns.length ≤ 8
  ok : ∀ x ∈ ns, strOk x = true
  nd : ns.Nodup
theorem OkNm.sub {ns ms : List Str} (h : OkNm ms) (s : ns.Sublist ms) : OkNm ns := ⟨Nat.le_trans s.length_le h.len, fun x hx => h.ok x (s.subset hx), h.nd.sublist s⟩
theorem okAbcz : OkNm abcz := ⟨by decide, by decide +kernel, by decide +kernel⟩
def wide8 : List Str := ["a", "b", "c7", "d", "e9", "f", "q", "z"]
theorem okWide : OkNm wide8 := ⟨by decide, by decide +kernel, by decide +kernel⟩
theorem cut_sublist {α : Type} (xs : List α) (a b : Option Int) : (cut xs a b).Sublist xs := (List.take_sublist _ _).trans (List.drop_sublist _ _)
theorem wide_ne (n : Int) : cut wide8 (some (n % 4)) none ≠ [] := by
  have h1 := Int.emod_nonneg n (by omega : (4 : Int) ≠ 0)
  have h2 := Int.emod_lt_of_pos n (by omega : (0 : Int) < 4)
  generalize n % 4 = q at h1 h2
  have : q = 0 ∨ q = 1 ∨ q = 2 ∨ q = 3 := by omega
  rcases this with h | h | h | h <;> subst h <;> decide +kernel
/-- so many shares of the names -/
structure Part (ns : List Str) (k : Nat) (shs : List Sh) : Prop where
  nm : shs.map Sh.g = ns.take k
  ok : ∀ s ∈ shs, 0 ≤ s.o ∧ s.o ≤ s.e
theorem Part.len {ns : List Str} {k : Nat} {shs : List Sh} (p : Part ns k shs) : shs.length ≤ k := by
  have := congrArg List.length p.nm
  rw [List.length_map, List.length_take] at this
  omega
theorem Part.next {ns : List Str} {k : Nat} {shs : List Sh} {x : Str} (p : Part ns k shs) (hx : ns[k]? = some x) {o e : Int} (h1 : 0 ≤ o) (h2 : o ≤ e) : Part ns (k + 1) (shs ++ [⟨x, o, e⟩]) := ⟨by rw [List.map_append, p.nm, List.take_add_one, hx]; rfl, fun s hs => by
  rcases List.mem_append.mp hs with h | h
  · exact p.ok s h
  · simp at h; subst h; exact ⟨h1, h2⟩⟩
theorem Part.done {ns : List Str} {shs : List Sh} (p : Part ns ns.length shs) (h : OkNm ns) : OkSh shs := by
  have e := p.nm
  rw [List.take_length] at e
  refine ⟨by have := congrArg List.length e; rw [List.length_map] at this; have := h.len; omega, fun s hs => ⟨h.ok _ (by rw [← e]; exact List.mem_map.mpr ⟨s, hs, rfl⟩), p.ok s hs⟩, by rw [e]; exact h.nd⟩
abbrev nPool : List Str := ["numbers", "at", "shares", "names", "name", "own", "ceiling", "most", "share"]
abbrev sPool : Stmt := top 32
theorem scPool : FnScope nPool ["numbers", "at"] (defScope sPool) := ⟨rfl, rfl, rfl, by decide +kernel, rfl, by decide +kernel, by decide +kernel⟩
def gPool : List D → (D → Prop) → Prop := fun ds P => ∃ (ns : List Int), ds = [.lst (ns.map D.int), .int 0] ∧ ns.length = 16 ∧ P = isPool
theorem ok_pool {f : Addr} {fd : FuncData} (F : Fun K "_law_pool" "_law_pool" sPool f fd) (T : Bt mg) (cG : PFn P w K mg base 1 "_law_groups" 1 gGroups) : FnOk P w K mg base CX0 2 f fd ["numbers", "at"] (spP K 2 gPool) := by
  refine fn_pure F scPool (by rintro ds Pd ⟨c, rfl, _⟩; rfl) fun cdv A outer s H E ds Pd hr hG => ?_
  obtain ⟨ns, rfl, hl, rfl⟩ := hG
  have nd := scPool.nd
  refine jss_cons (js_setN (i := 2) (jn_lst ja_nil) ?_ nd)
  generalize hgs : grps (ns.getD (0 : Int).toNat 0) 4 = gs
  have hgo : OkNm gs := okAbcz.sub (by rw [← hgs]; exact (grps_sub _ 4 (by decide)).trans (List.take_sublist _ _))
  refine jss_cons (js_set (i := 3) (j_orT (t := !(gs.map D.str).isEmpty) (d1 := .tup (gs.map D.str)) (d2 := .tup ((["b"] : List Str).map D.str)) (J.to (j_call cG hr (ja_cons (j_ix (jv 0 rfl) (jv 1 rfl) (ixd_I (by omega) (by omega))) ja_nil) ⟨_, rfl, rfl⟩ (fun _ h => h)) (by rw [← hgs])) rfl (fun _ => j_one (j_tup (hl := by decide) (ja_cons j_str ja_nil)))) ?_ nd)
  obtain ⟨ms, hms, hmo, hme⟩ : ∃ ms : List Str, (if (!(gs.map D.str).isEmpty) = true then D.tup (gs.map D.str) else .tup ((["b"] : List Str).map D.str)) = .tup (ms.map D.str) ∧ OkNm ms ∧ ms ≠ [] := by
    cases gs with
    | nil => exact ⟨["b"], rfl, ⟨by decide, by decide +kernel, by decide +kernel⟩, by simp⟩
    | cons g gs => exact ⟨g :: gs, rfl, hgo, by simp⟩
  rw [hms]
  refine jss_mid (fun ρ => ∃ ms : List Str, ρ = [some (.fz (.lst (ns.map D.int))), some (.fz (.int 0)), some (.ow (.lst [])), some (.fz (.tup (ms.map D.str))), none, none, none, none, none] ∧ OkNm ms ∧ ms ≠ []) (js_if (jt_cm (j_bin (jb_int T (ja_cons (j_bin (j_ix (jv 0 rfl) (jv 1 rfl) (ixd_I (by omega) (by omega))) j_int (od_fdivI ⟨by decide, by decide⟩)) ja_nil)) j_int (od_modI (by decide))) j_int cd_eqI) (fun _ => ?_) (fun _ => ?_)) ?_
  · refine jss_cons (js_set (i := 3) (j_slStrs wide8 (j_tup (ja_cons j_str (ja_cons j_str (ja_cons j_str (ja_cons j_str (ja_cons j_str (ja_cons j_str (ja_cons j_str (ja_cons j_str ja_nil))))))))) rfl (jo_some (j_bin (jb_int T (ja_cons (j_ix (jv 0 rfl) (jv 1 rfl) (ixd_I (by omega) (by omega))) ja_nil)) j_int (od_modI (by decide)))) jo_none) ?_ nd)
    exact jss_nil ⟨_, rfl, _, rfl, okWide.sub (cut_sublist _ _ _), wide_ne _⟩
  · exact jss_nil ⟨_, rfl, ms, rfl, hmo, hme⟩
  clear hms hmo hme hgs hgo ms gs
  rintro _ ⟨ms, rfl, hmo, hme⟩
  refine jss_mid (fun ρ => ∃ (shs : List Sh) (o4 o5 o6 : Option SV), ρ = [some (.fz (.lst (ns.map D.int))), some (.fz (.int 0)), some (.ow (.lst (shs.map shD))), some (.fz (.tup (ms.map D.str))), o4, o5, o6, none, none] ∧ OkSh shs ∧ shs ≠ [])
    (js_each (i := 4) ms D.str (fun k ρ => ∃ (shs : List Sh) (o4 o5 o6 : Option SV), ρ = [some (.fz (.lst (ns.map D.int))), some (.fz (.int 0)), some (.ow (.lst (shs.map shD))), some (.fz (.tup (ms.map D.str))), o4, o5, o6, none, none] ∧ Part ms k shs) (ji_tup (jv 3 rfl)) nd ⟨[], _, _, _, rfl, rfl, by simp⟩ ?_ ?_) ?_
  · rintro k x _ hk ⟨shs, o4, o5, o6, rfl, pt⟩
    have hsl := pt.len
    have hk' : k < ms.length := (List.getElem?_eq_some_iff.mp hk).1
    have hml := hmo.len
    refine jss_cons (js_setS (i := 5) (j_bin (jb_int T (ja_cons (j_bin (j_ix (jv 0 rfl) (j_bin (jv 1 rfl) j_int od_addI) (ixd_I (by omega) (by omega))) (j_bin j_int (jb_len T (ja_cons (jv 2 rfl) ja_nil) rfl) (od_mulI cmulL)) od_addI) ja_nil)) j_int (od_modI (by decide))) rfl ?_ nd)
    refine jss_cons (js_setS (i := 6) (j_bin (jv 5 rfl) (j_bin (jb_int T (ja_cons (j_bin (j_ix (jv 0 rfl) (j_bin (jv 1 rfl) j_int od_addI) (ixd_I (by omega) (by omega))) (j_bin j_int (jb_len T (ja_cons (jv 2 rfl) ja_nil) rfl) (od_mulI cmulL)) od_addI) ja_nil)) j_int (od_modI (by decide))) od_addI) rfl ?_ nd)
    refine jss_cons (js_append (i := 2) (ds := shs.map shD) rfl (j_tup (ja_cons (jv 4 rfl) (ja_cons (jv 5 rfl) (ja_cons (jv 6 rfl) ja_nil)))) (by rw [List.length_map]; exact Nat.lt_of_lt_of_le (by omega : _ < 100) (by decide)) ?_)
    refine jss_nil ⟨shs ++ [⟨x, _, _⟩], _, _, _, by rw [List.map_append]; rfl, pt.next hk ?_ ?_⟩
    · omega
    · omega
  · rintro _ ⟨shs, o4, o5, o6, rfl, pt⟩
    exact ⟨_, rfl, shs, _, _, _, rfl, pt.done hmo, fun e => hme (by have := congrArg List.length pt.nm; rw [List.take_length, e] at this; exact List.eq_nil_of_length_eq_zero this.symm)⟩
  rintro _ ⟨shs, o4, o5, o6, rfl, hs, hse⟩
  have hsl : shs.length < sizeLine := Nat.lt_of_le_of_lt hs.len (by decide)
  refine jss_cons (js_setS (i := 7) (j_bin (jb_sum T (ns := shs.map Sh.o) (ja_cons (J.to (j_lcM (own := [("share", 8)]) (i := 8) shs shD (fun s => D.int s.o) (ji_list (jv 2 rfl)) (blkOk_by (N := nPool) (sc := defScope sPool) (by decide +kernel)) (fun _ _ _ _ _ => pg_name nd rfl (Or.inl rfl)) hsl (fun r hr' s H C cl fp => j_ix (jv 8 rfl) j_int (ixd_T rfl)) nd) (by rw [List.map_map]; rfl)) ja_nil)) (j_bin (jb_int T (ja_cons (j_ix (jv 0 rfl) (j_bin (jv 1 rfl) j_int od_addI) (ixd_I (by omega) (by omega))) ja_nil)) j_int (od_modI (by decide))) od_addI) rfl ?_ nd)
  refine jss_cons (js_ret (j_tup (ja_cons j_str (ja_cons j_str (ja_cons (j_tup ja_nil) (ja_cons (j_tup (ja_cons (jv 7 rfl) (ja_cons (jb_tupleL T (ja_cons (jv 2 rfl) ja_nil)) ja_nil))) ja_nil))))) ⟨shs, _, rfl, hs, hse, ?_⟩)
  unfold ownS
  have := Int.emod_nonneg (ns.getD ((0 : Int) + 3).toNat 0) (by omega : (6 : Int) ≠ 0)
  omega
end
end Toy

namespace Toy
open PySem PyProof.Rows L2 Pf
section
variable {P : Program} {w : World} {K : PySem.W.Frag} {mg : Str → Option Value} {base : Heap}
def limD (nm wd : Str) (gs : List Str) (nums : List D) : D := .tup [.str nm, .str wd, .tup (gs.map D.str), .tup nums]
def gOk (g : Str) : Bool := strOk g && isNm g
def OkGs (gs : List Str) : Prop := gs.length ≤ 8 ∧ ∀ g ∈ gs, gOk g = true
inductive Wd | win | spn | buc | gap
def Wd.s : Wd → Str | .win => "window" | .spn => "span" | .buc => "bucket" | .gap => "gap"
def Wd.nm : Wd → Str | .gap => "gap1" | _ => "flow1"
def Wd.nums : Wd → Int → Int → List D | .gap, _, b => [.int b] | _, a, b => [.int a, .int b]
def limW (wd : Wd) (gs : List Str) (a b : Int) : D := limD wd.nm wd.s gs (wd.nums a b)
def heldL (gs : List Str) (a : Int) : D := limD "held1" "held" gs [.int a]
def isFlow (wd : Wd) (d : D) : Prop := ∃ (gs : List Str) (a b : Int), d = limW wd gs a b ∧ OkGs gs ∧ 0 ≤ a ∧ a ≤ 8 ∧ 1 ≤ b ∧ b ≤ 9
def isHeld (d : D) : Prop := ∃ (gs : List Str) (a : Int), d = heldL gs a ∧ OkGs gs ∧ 0 ≤ a
theorem okGrps (n : Int) : OkGs (grps n 4) := ⟨Nat.le_trans (grps_len n 4) (by decide), fun g hg => (by decide +kernel : ∀ g ∈ abcz, gOk g = true) g ((List.take_sublist 4 abcz).subset ((grps_sub n 4 (by decide)).subset hg))⟩
abbrev sLimit : Stmt := top 33
theorem scLimit : FnScope ["numbers", "at", "word", "groups"] ["numbers", "at", "word"] (defScope sLimit) := ⟨rfl, rfl, rfl, by decide +kernel, rfl, by decide +kernel, by decide +kernel⟩
def gLimit : List D → (D → Prop) → Prop := fun ds P => ∃ (ns : List Int) (wd : Str), ds = [.lst (ns.map D.int), .int 0, .str wd] ∧ ns.length = 16 ∧ ((∃ x : Wd, wd = x.s ∧ P = isFlow x) ∨ (wd = "held" ∧ P = isHeld) ∨ (wd = "pool" ∧ P = isPool))
theorem ok_limit {f : Addr} {fd : FuncData} (F : Fun K "_law_limit" "_law_limit" sLimit f fd) (T : Bt mg) (cG : PFn P w K mg base 1 "_law_groups" 1 gGroups) (cP : PFn P w K mg base 2 "_law_pool" 2 gPool) : FnOk P w K mg base CX0 3 f fd ["numbers", "at", "word"] (spP K 3 gLimit) := by
  refine fn_pure F scLimit (by rintro ds Pd ⟨c, _, rfl, _⟩; rfl) fun cdv A outer s H E ds Pd hr hG => ?_
  obtain ⟨ns, wd, rfl, hl, h⟩ := hG
  have nd := scLimit.nd
  rcases h with ⟨x, rfl, rfl⟩ | ⟨rfl, rfl⟩ | ⟨rfl, rfl⟩
  · cases x
    ·
      refine jss_cons (js_ifF ((jt_cm (jv 2 rfl) j_str cd_eqS).to (by decide +kernel)) (jss_nil ?_))
      refine jss_cons (js_set (i := 3) (j_tup ja_nil) ?_ nd)
      refine jss_mid (fun ρ => ∃ gs : List Str, ρ = [some (.fz (.lst (ns.map D.int))), some (.fz (.int 0)), some (.fz (.str "window")), some (.fz (.tup (gs.map D.str)))] ∧ OkGs gs) (js_if (jt_cm (j_bin (jb_int T (ja_cons (j_bin (j_ix (jv 0 rfl) (jv 1 rfl) (ixd_I (by omega) (by omega))) j_int (od_fdivI ⟨by decide, by decide⟩)) ja_nil)) j_int (od_modI (by decide))) j_int cd_gtI) (fun _ => ?_) (fun _ => ?_)) ?_
      · refine jss_cons (js_set (i := 3) (j_call cG hr (ja_cons (j_ix (jv 0 rfl) (jv 1 rfl) (ixd_I (by omega) (by omega))) ja_nil) ⟨_, rfl, rfl⟩ (fun _ h => h)) ?_ nd)
        exact jss_nil ⟨_, rfl, _, rfl, okGrps _⟩
      · exact jss_nil ⟨_, rfl, [], rfl, by simp [OkGs]⟩
      rintro _ ⟨gs, rfl, hgs⟩
      refine jss_mid (fun ρ => ∃ gs : List Str, ρ = [some (.fz (.lst (ns.map D.int))), some (.fz (.int 0)), some (.fz (.str "window")), some (.fz (.tup (gs.map D.str)))] ∧ OkGs gs) (js_if (jt_cm (j_bin (jb_int T (ja_cons (j_bin (j_ix (jv 0 rfl) (jv 1 rfl) (ixd_I (by omega) (by omega))) j_int (od_fdivI ⟨by decide, by decide⟩)) ja_nil)) j_int (od_modI (by decide))) j_int cd_eqI) (fun _ => ?_) (fun _ => ?_)) ?_
      · refine jss_cons (js_set (i := 3) (j_slStrs ["0", "1x", "9", "a", "b", "c7", "q", "z"] (j_tup (ja_cons j_str (ja_cons j_str (ja_cons j_str (ja_cons j_str (ja_cons j_str (ja_cons j_str (ja_cons j_str (ja_cons j_str ja_nil))))))))) rfl (jo_some (j_bin (jb_int T (ja_cons (j_ix (jv 0 rfl) (jv 1 rfl) (ixd_I (by omega) (by omega))) ja_nil)) j_int (od_modI (by decide)))) jo_none) ?_ nd)
        refine jss_nil ⟨_, rfl, _, rfl, ?_, ?_⟩
        · exact cut_len _ _ _
        · intro g hg
          have := cut_sub hg
          revert g
          exact fun g _ h => (by decide +kernel : ∀ g ∈ (["0", "1x", "9", "a", "b", "c7", "q", "z"] : List Str), gOk g = true) g h
      · exact jss_nil ⟨_, rfl, gs, rfl, hgs⟩
      rintro _ ⟨gs, rfl, hgs⟩
      refine jss_cons (js_ifF ((jt_cm (jv 2 rfl) j_str cd_eqS).to (by decide +kernel)) (jss_nil ?_))
      refine jss_cons (js_ifF ((jt_cm (jv 2 rfl) j_str cd_eqS).to (by decide +kernel)) (jss_nil ?_))
      refine jss_cons (js_ret (j_tup (ja_cons j_str (ja_cons (jv 2 rfl) (ja_cons (jv 3 rfl) (ja_cons (j_tup (ja_cons (j_bin (jb_int T (ja_cons (j_ix (jv 0 rfl) (j_bin (jv 1 rfl) j_int od_addI) (ixd_I (by omega) (by omega))) ja_nil)) j_int (od_modI (by decide))) (ja_cons (j_bin j_int (j_bin (jb_int T (ja_cons (j_ix (jv 0 rfl) (j_bin (jv 1 rfl) j_int od_addI) (ixd_I (by omega) (by omega))) ja_nil)) j_int (od_modI (by decide))) od_addI) ja_nil))) ja_nil))))) ⟨gs, _, _, rfl, hgs, ?_, ?_, ?_, ?_⟩)
      all_goals omega
    ·
      refine jss_cons (js_ifF ((jt_cm (jv 2 rfl) j_str cd_eqS).to (by decide +kernel)) (jss_nil ?_))
      refine jss_cons (js_set (i := 3) (j_tup ja_nil) ?_ nd)
      refine jss_mid (fun ρ => ∃ gs : List Str, ρ = [some (.fz (.lst (ns.map D.int))), some (.fz (.int 0)), some (.fz (.str "span")), some (.fz (.tup (gs.map D.str)))] ∧ OkGs gs) (js_if (jt_cm (j_bin (jb_int T (ja_cons (j_bin (j_ix (jv 0 rfl) (jv 1 rfl) (ixd_I (by omega) (by omega))) j_int (od_fdivI ⟨by decide, by decide⟩)) ja_nil)) j_int (od_modI (by decide))) j_int cd_gtI) (fun _ => ?_) (fun _ => ?_)) ?_
      · refine jss_cons (js_set (i := 3) (j_call cG hr (ja_cons (j_ix (jv 0 rfl) (jv 1 rfl) (ixd_I (by omega) (by omega))) ja_nil) ⟨_, rfl, rfl⟩ (fun _ h => h)) ?_ nd)
        exact jss_nil ⟨_, rfl, _, rfl, okGrps _⟩
      · exact jss_nil ⟨_, rfl, [], rfl, by simp [OkGs]⟩
      rintro _ ⟨gs, rfl, hgs⟩
      refine jss_mid (fun ρ => ∃ gs : List Str, ρ = [some (.fz (.lst (ns.map D.int))), some (.fz (.int 0)), some (.fz (.str "span")), some (.fz (.tup (gs.map D.str)))] ∧ OkGs gs) (js_if (jt_cm (j_bin (jb_int T (ja_cons (j_bin (j_ix (jv 0 rfl) (jv 1 rfl) (ixd_I (by omega) (by omega))) j_int (od_fdivI ⟨by decide, by decide⟩)) ja_nil)) j_int (od_modI (by decide))) j_int cd_eqI) (fun _ => ?_) (fun _ => ?_)) ?_
      · refine jss_cons (js_set (i := 3) (j_slStrs ["0", "1x", "9", "a", "b", "c7", "q", "z"] (j_tup (ja_cons j_str (ja_cons j_str (ja_cons j_str (ja_cons j_str (ja_cons j_str (ja_cons j_str (ja_cons j_str (ja_cons j_str ja_nil))))))))) rfl (jo_some (j_bin (jb_int T (ja_cons (j_ix (jv 0 rfl) (jv 1 rfl) (ixd_I (by omega) (by omega))) ja_nil)) j_int (od_modI (by decide)))) jo_none) ?_ nd)
        refine jss_nil ⟨_, rfl, _, rfl, ?_, ?_⟩
        · exact cut_len _ _ _
        · intro g hg
          have := cut_sub hg
          revert g
          exact fun g _ h => (by decide +kernel : ∀ g ∈ (["0", "1x", "9", "a", "b", "c7", "q", "z"] : List Str), gOk g = true) g h
      · exact jss_nil ⟨_, rfl, gs, rfl, hgs⟩
      rintro _ ⟨gs, rfl, hgs⟩
      refine jss_cons (js_ifF ((jt_cm (jv 2 rfl) j_str cd_eqS).to (by decide +kernel)) (jss_nil ?_))
      refine jss_cons (js_ifF ((jt_cm (jv 2 rfl) j_str cd_eqS).to (by decide +kernel)) (jss_nil ?_))
      refine jss_cons (js_ret (j_tup (ja_cons j_str (ja_cons (jv 2 rfl) (ja_cons (jv 3 rfl) (ja_cons (j_tup (ja_cons (j_bin (jb_int T (ja_cons (j_ix (jv 0 rfl) (j_bin (jv 1 rfl) j_int od_addI) (ixd_I (by omega) (by omega))) ja_nil)) j_int (od_modI (by decide))) (ja_cons (j_bin j_int (j_bin (jb_int T (ja_cons (j_ix (jv 0 rfl) (j_bin (jv 1 rfl) j_int od_addI) (ixd_I (by omega) (by omega))) ja_nil)) j_int (od_modI (by decide))) od_addI) ja_nil))) ja_nil))))) ⟨gs, _, _, rfl, hgs, ?_, ?_, ?_, ?_⟩)
      all_goals omega
    ·
      refine jss_cons (js_ifF ((jt_cm (jv 2 rfl) j_str cd_eqS).to (by decide +kernel)) (jss_nil ?_))
      refine jss_cons (js_set (i := 3) (j_tup ja_nil) ?_ nd)
      refine jss_mid (fun ρ => ∃ gs : List Str, ρ = [some (.fz (.lst (ns.map D.int))), some (.fz (.int 0)), some (.fz (.str "bucket")), some (.fz (.tup (gs.map D.str)))] ∧ OkGs gs) (js_if (jt_cm (j_bin (jb_int T (ja_cons (j_bin (j_ix (jv 0 rfl) (jv 1 rfl) (ixd_I (by omega) (by omega))) j_int (od_fdivI ⟨by decide, by decide⟩)) ja_nil)) j_int (od_modI (by decide))) j_int cd_gtI) (fun _ => ?_) (fun _ => ?_)) ?_
      · refine jss_cons (js_set (i := 3) (j_call cG hr (ja_cons (j_ix (jv 0 rfl) (jv 1 rfl) (ixd_I (by omega) (by omega))) ja_nil) ⟨_, rfl, rfl⟩ (fun _ h => h)) ?_ nd)
        exact jss_nil ⟨_, rfl, _, rfl, okGrps _⟩
      · exact jss_nil ⟨_, rfl, [], rfl, by simp [OkGs]⟩
      rintro _ ⟨gs, rfl, hgs⟩
      refine jss_mid (fun ρ => ∃ gs : List Str, ρ = [some (.fz (.lst (ns.map D.int))), some (.fz (.int 0)), some (.fz (.str "bucket")), some (.fz (.tup (gs.map D.str)))] ∧ OkGs gs) (js_if (jt_cm (j_bin (jb_int T (ja_cons (j_bin (j_ix (jv 0 rfl) (jv 1 rfl) (ixd_I (by omega) (by omega))) j_int (od_fdivI ⟨by decide, by decide⟩)) ja_nil)) j_int (od_modI (by decide))) j_int cd_eqI) (fun _ => ?_) (fun _ => ?_)) ?_
      · refine jss_cons (js_set (i := 3) (j_slStrs ["0", "1x", "9", "a", "b", "c7", "q", "z"] (j_tup (ja_cons j_str (ja_cons j_str (ja_cons j_str (ja_cons j_str (ja_cons j_str (ja_cons j_str (ja_cons j_str (ja_cons j_str ja_nil))))))))) rfl (jo_some (j_bin (jb_int T (ja_cons (j_ix (jv 0 rfl) (jv 1 rfl) (ixd_I (by omega) (by omega))) ja_nil)) j_int (od_modI (by decide)))) jo_none) ?_ nd)
        refine jss_nil ⟨_, rfl, _, rfl, ?_, ?_⟩
        · exact cut_len _ _ _
        · intro g hg
          have := cut_sub hg
          revert g
          exact fun g _ h => (by decide +kernel : ∀ g ∈ (["0", "1x", "9", "a", "b", "c7", "q", "z"] : List Str), gOk g = true) g h
      · exact jss_nil ⟨_, rfl, gs, rfl, hgs⟩
      rintro _ ⟨gs, rfl, hgs⟩
      refine jss_cons (js_ifF ((jt_cm (jv 2 rfl) j_str cd_eqS).to (by decide +kernel)) (jss_nil ?_))
      refine jss_cons (js_ifF ((jt_cm (jv 2 rfl) j_str cd_eqS).to (by decide +kernel)) (jss_nil ?_))
      refine jss_cons (js_ret (j_tup (ja_cons j_str (ja_cons (jv 2 rfl) (ja_cons (jv 3 rfl) (ja_cons (j_tup (ja_cons (j_bin (jb_int T (ja_cons (j_ix (jv 0 rfl) (j_bin (jv 1 rfl) j_int od_addI) (ixd_I (by omega) (by omega))) ja_nil)) j_int (od_modI (by decide))) (ja_cons (j_bin j_int (j_bin (jb_int T (ja_cons (j_ix (jv 0 rfl) (j_bin (jv 1 rfl) j_int od_addI) (ixd_I (by omega) (by omega))) ja_nil)) j_int (od_modI (by decide))) od_addI) ja_nil))) ja_nil))))) ⟨gs, _, _, rfl, hgs, ?_, ?_, ?_, ?_⟩)
      all_goals omega
    ·
      refine jss_cons (js_ifF ((jt_cm (jv 2 rfl) j_str cd_eqS).to (by decide +kernel)) (jss_nil ?_))
      refine jss_cons (js_set (i := 3) (j_tup ja_nil) ?_ nd)
      refine jss_mid (fun ρ => ∃ gs : List Str, ρ = [some (.fz (.lst (ns.map D.int))), some (.fz (.int 0)), some (.fz (.str "gap")), some (.fz (.tup (gs.map D.str)))] ∧ OkGs gs) (js_if (jt_cm (j_bin (jb_int T (ja_cons (j_bin (j_ix (jv 0 rfl) (jv 1 rfl) (ixd_I (by omega) (by omega))) j_int (od_fdivI ⟨by decide, by decide⟩)) ja_nil)) j_int (od_modI (by decide))) j_int cd_gtI) (fun _ => ?_) (fun _ => ?_)) ?_
      · refine jss_cons (js_set (i := 3) (j_call cG hr (ja_cons (j_ix (jv 0 rfl) (jv 1 rfl) (ixd_I (by omega) (by omega))) ja_nil) ⟨_, rfl, rfl⟩ (fun _ h => h)) ?_ nd)
        exact jss_nil ⟨_, rfl, _, rfl, okGrps _⟩
      · exact jss_nil ⟨_, rfl, [], rfl, by simp [OkGs]⟩
      rintro _ ⟨gs, rfl, hgs⟩
      refine jss_mid (fun ρ => ∃ gs : List Str, ρ = [some (.fz (.lst (ns.map D.int))), some (.fz (.int 0)), some (.fz (.str "gap")), some (.fz (.tup (gs.map D.str)))] ∧ OkGs gs) (js_if (jt_cm (j_bin (jb_int T (ja_cons (j_bin (j_ix (jv 0 rfl) (jv 1 rfl) (ixd_I (by omega) (by omega))) j_int (od_fdivI ⟨by decide, by decide⟩)) ja_nil)) j_int (od_modI (by decide))) j_int cd_eqI) (fun _ => ?_) (fun _ => ?_)) ?_
      · refine jss_cons (js_set (i := 3) (j_slStrs ["0", "1x", "9", "a", "b", "c7", "q", "z"] (j_tup (ja_cons j_str (ja_cons j_str (ja_cons j_str (ja_cons j_str (ja_cons j_str (ja_cons j_str (ja_cons j_str (ja_cons j_str ja_nil))))))))) rfl (jo_some (j_bin (jb_int T (ja_cons (j_ix (jv 0 rfl) (jv 1 rfl) (ixd_I (by omega) (by omega))) ja_nil)) j_int (od_modI (by decide)))) jo_none) ?_ nd)
        refine jss_nil ⟨_, rfl, _, rfl, ?_, ?_⟩
        · exact cut_len _ _ _
        · intro g hg
          have := cut_sub hg
          revert g
          exact fun g _ h => (by decide +kernel : ∀ g ∈ (["0", "1x", "9", "a", "b", "c7", "q", "z"] : List Str), gOk g = true) g h
      · exact jss_nil ⟨_, rfl, gs, rfl, hgs⟩
      rintro _ ⟨gs, rfl, hgs⟩
      refine jss_cons (js_ifT ((jt_cm (jv 2 rfl) j_str cd_eqS).to (by decide +kernel)) ?_)
      refine jss_cons (js_ret (j_tup (ja_cons j_str (ja_cons (jv 2 rfl) (ja_cons (jv 3 rfl) (ja_cons (j_tup (ja_cons (j_bin j_int (j_bin (jb_int T (ja_cons (j_ix (jv 0 rfl) (j_bin (jv 1 rfl) j_int od_addI) (ixd_I (by omega) (by omega))) ja_nil)) j_int (od_modI (by decide))) od_addI) ja_nil)) ja_nil))))) ⟨gs, 0, _, rfl, hgs, ?_, ?_, ?_, ?_⟩)
      all_goals omega
  ·
    refine jss_cons (js_ifF ((jt_cm (jv 2 rfl) j_str cd_eqS).to (by decide +kernel)) (jss_nil ?_))
    refine jss_cons (js_set (i := 3) (j_tup ja_nil) ?_ nd)
    refine jss_mid (fun ρ => ∃ gs : List Str, ρ = [some (.fz (.lst (ns.map D.int))), some (.fz (.int 0)), some (.fz (.str "held")), some (.fz (.tup (gs.map D.str)))] ∧ OkGs gs) (js_if (jt_cm (j_bin (jb_int T (ja_cons (j_bin (j_ix (jv 0 rfl) (jv 1 rfl) (ixd_I (by omega) (by omega))) j_int (od_fdivI ⟨by decide, by decide⟩)) ja_nil)) j_int (od_modI (by decide))) j_int cd_gtI) (fun _ => ?_) (fun _ => ?_)) ?_
    · refine jss_cons (js_set (i := 3) (j_call cG hr (ja_cons (j_ix (jv 0 rfl) (jv 1 rfl) (ixd_I (by omega) (by omega))) ja_nil) ⟨_, rfl, rfl⟩ (fun _ h => h)) ?_ nd)
      exact jss_nil ⟨_, rfl, _, rfl, okGrps _⟩
    · exact jss_nil ⟨_, rfl, [], rfl, by simp [OkGs]⟩
    rintro _ ⟨gs, rfl, hgs⟩
    refine jss_mid (fun ρ => ∃ gs : List Str, ρ = [some (.fz (.lst (ns.map D.int))), some (.fz (.int 0)), some (.fz (.str "held")), some (.fz (.tup (gs.map D.str)))] ∧ OkGs gs) (js_if (jt_cm (j_bin (jb_int T (ja_cons (j_bin (j_ix (jv 0 rfl) (jv 1 rfl) (ixd_I (by omega) (by omega))) j_int (od_fdivI ⟨by decide, by decide⟩)) ja_nil)) j_int (od_modI (by decide))) j_int cd_eqI) (fun _ => ?_) (fun _ => ?_)) ?_
    · refine jss_cons (js_set (i := 3) (j_slStrs ["0", "1x", "9", "a", "b", "c7", "q", "z"] (j_tup (ja_cons j_str (ja_cons j_str (ja_cons j_str (ja_cons j_str (ja_cons j_str (ja_cons j_str (ja_cons j_str (ja_cons j_str ja_nil))))))))) rfl (jo_some (j_bin (jb_int T (ja_cons (j_ix (jv 0 rfl) (jv 1 rfl) (ixd_I (by omega) (by omega))) ja_nil)) j_int (od_modI (by decide)))) jo_none) ?_ nd)
      refine jss_nil ⟨_, rfl, _, rfl, ?_, ?_⟩
      · exact cut_len _ _ _
      · intro g hg
        have := cut_sub hg
        revert g
        exact fun g _ h => (by decide +kernel : ∀ g ∈ (["0", "1x", "9", "a", "b", "c7", "q", "z"] : List Str), gOk g = true) g h
    · exact jss_nil ⟨_, rfl, gs, rfl, hgs⟩
    rintro _ ⟨gs, rfl, hgs⟩
    refine jss_cons (js_ifF ((jt_cm (jv 2 rfl) j_str cd_eqS).to (by decide +kernel)) (jss_nil ?_))
    refine jss_cons (js_ifT ((jt_cm (jv 2 rfl) j_str cd_eqS).to (by decide +kernel)) ?_)
    refine jss_cons (js_ret (j_tup (ja_cons j_str (ja_cons (jv 2 rfl) (ja_cons (jv 3 rfl) (ja_cons (j_tup (ja_cons (j_bin (jb_int T (ja_cons (j_ix (jv 0 rfl) (j_bin (jv 1 rfl) j_int od_addI) (ixd_I (by omega) (by omega))) ja_nil)) j_int (od_modI (by decide))) ja_nil)) ja_nil))))) ⟨gs, _, rfl, hgs, ?_⟩)
    omega
  · refine jss_cons (js_ifT ((jt_cm (jv 2 rfl) j_str cd_eqS).to (by decide +kernel)) ?_)
    exact jss_cons (js_retP (jp_call cP hr (ja_cons (jv 0 rfl) (ja_cons (jv 1 rfl) ja_nil)) ⟨ns, rfl, hl, rfl⟩) fun d h => h)
end
end Toy

namespace Toy
open PySem PyProof.Rows L2 Pf
section
variable {P : Program} {w : World} {K : PySem.W.Frag} {mg : Str → Option Value} {base : Heap}
abbrev nLarger : List Str := ["limit", "numbers", "at", "great", "shares", "name", "own", "ceiling", "more", "most", "share"]
abbrev sLarger : Stmt := top 35
theorem scLarger : FnScope nLarger ["limit", "numbers", "at"] (defScope sLarger) := ⟨rfl, rfl, rfl, by decide +kernel, rfl, by decide +kernel, by decide +kernel⟩
theorem getD_mem {ns : List Int} {i : Nat} (h : i < ns.length) : ns.getD i 0 ∈ ns := by
  rw [List.getD_eq_getElem?_getD, List.getElem?_eq_getElem h]
  exact List.getElem_mem _
theorem fitGs {gs : List Str} (h : OkGs gs) (n : Nat) : fitD (n + 1) (.tup (gs.map D.str)) = true := by simp only [fitD]; exact fitStrs n gs fun g hg => (Bool.and_eq_true .. ▸ h.2 g hg : strOk g = true ∧ isNm g = true).1
def sees (gs : List Str) (g : Str) : Bool := decide (gs = []) || decide (g ∈ gs)
def gLooks : List D → (D → Prop) → Prop := fun ds P => ∃ (nm wd : Str) (gs : List Str) (nums : List D) (g : Str), ds = [limD nm wd gs nums, .str g] ∧ decide (wd = "pool") = false ∧ OkGs gs ∧ P = fun d => d = .bl (sees gs g)
abbrev sSees : Stmt := top 34
theorem scSees : FnScope ["limit", "group", "share"] ["limit", "group"] (defScope sSees) := ⟨rfl, rfl, rfl, by decide +kernel, rfl, by decide +kernel, by decide +kernel⟩
theorem ok_sees {f : Addr} {fd : FuncData} (F : Fun K "_law_sees" "_law_sees" sSees f fd) (T : Bt mg) : FnOk P w K mg base CX0 1 f fd ["limit", "group"] (spP K 2 gLooks) := by
  refine fn_pure F scSees (by rintro ds Pd ⟨_, _, _, _, _, rfl, _⟩; rfl) fun cdv A outer s H E ds Pd hr hG => ?_
  obtain ⟨nm, wd, gs, nums, g, rfl, hwd, hgs, rfl⟩ := hG
  refine jss_cons (js_ifF ((jt_cm (j_ix (jv 0 rfl) j_int (ixd_T rfl)) j_str cd_eqS).to hwd) (jss_nil ?_))
  exact jss_cons (js_ret (j_or ((j_cm (j_ix (jv 0 rfl) j_int (ixd_T rfl)) (j_tup ja_nil) (cd_eqF 3 hr.units (fitGs hgs 2) (by decide))).to (by rw [eqv_strsNil])) (fun _ => j_one (j_cm (jv 1 rfl) (j_ix (jv 0 rfl) j_int (ixd_T rfl)) cd_inStrT))) rfl)
structure Row where
  m : Int
  g : Str
  c : Int
  k : Str
instance : Inhabited Row := ⟨⟨0, "", 0, ""⟩⟩
end
end Toy

namespace Toy
open PySem PyProof.Rows L2 Pf
section
variable {P : Program} {w : World} {K : PySem.W.Frag} {mg : Str → Option Value} {base : Heap}
theorem fst_map {α β : Type} (xs : List α) (f : α → D) (g : α → β) : (xs.map fun x => (f x, g x)).map (·.1) = xs.map f := by rw [List.map_map]; rfl
def mostW : Wd → Int → Int → Int → Int
  | .win, a, b, m => a * ((m + b - 1) / b)
  | .spn, a, b, m => a * (1 + (m - 1 + b - 1) / b)
  | .buc, a, b, m => if a > 0 then a + (m - 1) / b else 0
  | .gap, _, b, m => 1000 * ((m + b - 1) / b)
abbrev sParts : Stmt := top 21
theorem scParts : FnScope ["moments", "length"] ["moments", "length"] (defScope sParts) := ⟨rfl, rfl, rfl, by decide +kernel, rfl, by decide +kernel, by decide +kernel⟩
def gParts : List D → (D → Prop) → Prop := fun ds P => ∃ (m b : Int), ds = [.int m, .int b] ∧ 1 ≤ b ∧ b ≤ 100000000 ∧ P = fun d => d = .int ((m + b - 1) / b)
theorem ok_parts {f : Addr} {fd : FuncData} (F : Fun K "parts_of" "parts_of" sParts f fd) : FnOk P w K mg base CX0 1 f fd ["moments", "length"] (spP K 2 gParts) := by
  refine fn_pure F scParts (by rintro ds Pd ⟨_, _, rfl, _⟩; rfl) fun cdv A outer s H E ds Pd hr hG => ?_
  obtain ⟨m, b, rfl, hb1, hb2, rfl⟩ := hG
  exact jss_cons (js_ret (j_bin (j_bin (j_bin (jv 0 rfl) (jv 1 rfl) od_addI) j_int od_subI) (jv 1 rfl) (od_fdivI ⟨by show (0 : Int) < b; omega, by show b < 1073741824; omega⟩)) rfl)
abbrev sSpans : Stmt := top 22
theorem scSpans : FnScope ["moments", "length"] ["moments", "length"] (defScope sSpans) := ⟨rfl, rfl, rfl, by decide +kernel, rfl, by decide +kernel, by decide +kernel⟩
def gSpans : List D → (D → Prop) → Prop := fun ds P => ∃ (m b : Int), ds = [.int m, .int b] ∧ 1 ≤ b ∧ b ≤ 100000000 ∧ P = fun d => d = .int (1 + (m - 1 + b - 1) / b)
theorem ok_spans {f : Addr} {fd : FuncData} (F : Fun K "spans_touched" "spans_touched" sSpans f fd) (cP : PFn P w K mg base 1 "parts_of" 2 gParts) : FnOk P w K mg base CX0 2 f fd ["moments", "length"] (spP K 2 gSpans) := by
  refine fn_pure F scSpans (by rintro ds Pd ⟨_, _, rfl, _⟩; rfl) fun cdv A outer s H E ds Pd hr hG => ?_
  obtain ⟨m, b, rfl, hb1, hb2, rfl⟩ := hG
  exact jss_cons (js_ret (j_bin j_int (j_call cP hr (ja_cons (j_bin (jv 0 rfl) j_int od_subI) (ja_cons (jv 1 rfl) ja_nil)) ⟨_, _, rfl, hb1, hb2, rfl⟩ (fun _ h => h)) od_addI) rfl)
abbrev nCan : List Str := ["limit", "most", "shares", "common", "group", "own", "ceiling"]
abbrev sCan : Stmt := top 23
theorem scCan : FnScope nCan ["limit"] (defScope sCan) := ⟨rfl, rfl, rfl, by decide +kernel, rfl, by decide +kernel, by decide +kernel⟩
def canSh (c : Int) (s : Sh) : Bool := decide (0 < s.e) && (decide (0 < s.o) || decide (0 < c))
def gCan : List D → (D → Prop) → Prop := fun ds P => (∃ (gs : List Str) (a : Int), ds = [heldL gs a] ∧ P = fun d => d = .bl (decide (0 < a))) ∨ (∃ (shs : List Sh) (a : Int), ds = [poolN "pool1" shs a] ∧ shs.length ≤ 8 ∧ P = fun d => d = .bl (shs.any (canSh (a - ownS shs))))
theorem ok_can {f : Addr} {fd : FuncData} (F : Fun K "can_hold" "can_hold" sCan f fd) (T : Bt mg) : FnOk P w K mg base CX0 1 f fd ["limit"] (spP K 1 gCan) := by
  refine fn_pure F scCan (by rintro ds Pd (⟨_, _, rfl, _⟩ | ⟨_, _, rfl, _⟩) <;> rfl) fun cdv A outer s H E ds Pd hr hG => ?_
  have nd := scCan.nd
  rcases hG with ⟨gs, a, rfl, rfl⟩ | ⟨shs, a, rfl, h8, rfl⟩
  · refine jss_cons (js_ifT ((jt_cm (j_ix (jv 0 rfl) j_int (ixd_T rfl)) j_str cd_eqS).to (by decide +kernel)) ?_)
    exact jss_cons (js_ret (j_cm (j_ix (j_ix (jv 0 rfl) j_int (ixd_T rfl)) j_int (ixd_T rfl)) j_int cd_gtI) rfl)
  · have hsl : shs.length < sizeLine := Nat.lt_of_le_of_lt h8 (by decide)
    refine jss_cons (js_ifF ((jt_cm (j_ix (jv 0 rfl) j_int (ixd_T rfl)) j_str cd_eqS).to (by decide +kernel)) (jss_nil ?_))
    refine jss_cons (js_pat (pat := .tp [1, 2]) (j_ix (jv 0 rfl) j_int (ixd_T rfl)) rfl ?_ (pg_tup rfl (pgs_cons (pg_name nd rfl (Or.inl rfl)) (pgs_cons (pg_name nd rfl (Or.inl rfl)) pgs_nil))))
    refine jss_cons (js_set (i := 3) (j_bin (jv 1 rfl) (jb_sum T (ns := shs.map Sh.o) (ja_cons (J.to (j_lc (own := [("group", 4), ("own", 5), ("ceiling", 6)]) (pat := .tp [4, 5, 6]) (its := shs.map fun s => (shD s, some (D.int s.o))) (by rw [fst_map]; exact ji_tup (jv 2 rfl)) (blkOk_by (N := nCan) (sc := defScope sCan) (by decide +kernel)) (fun _ _ _ _ _ => pg_tup rfl (pgs_cons (pg_name nd rfl (Or.inl rfl)) (pgs_cons (pg_name nd rfl (Or.inl rfl)) (pgs_cons (pg_name nd rfl (Or.inl rfl)) pgs_nil)))) (by decide) (by rw [List.length_map]; exact hsl) (fun q hq => ?_) nd) ?_) ja_nil)) od_subI) ?_ nd)
    · obtain ⟨x, hx, rfl⟩ := List.mem_map.mp hq
      exact ⟨_, rfl, fun _ _ _ _ _ => ⟨jts_nil, jv 5 rfl⟩⟩
    · rw [List.filterMap_map, List.map_map]
      exact congrArg D.lst (List.filterMap_eq_map (f := fun s : Sh => D.int s.o) ▸ rfl)
    refine jss_cons (js_ret (jb_any T (bs := shs.map (canSh (a - ownS shs))) (ja_cons (J.to (j_lc (own := [("group", 4), ("own", 5), ("ceiling", 6)]) (pat := .tp [4, 5, 6]) (its := shs.map fun s => (shD s, some (D.bl (canSh (a - ownS shs) s)))) (by rw [fst_map]; exact ji_tup (jv 2 rfl)) (blkOk_by (N := nCan) (sc := defScope sCan) (by decide +kernel)) (fun _ _ _ _ _ => pg_tup rfl (pgs_cons (pg_name nd rfl (Or.inl rfl)) (pgs_cons (pg_name nd rfl (Or.inl rfl)) (pgs_cons (pg_name nd rfl (Or.inl rfl)) pgs_nil)))) (by decide) (by rw [List.length_map]; exact hsl) (fun q hq => ?_) nd) ?_) ja_nil)) ?_)
    · obtain ⟨x, hx, rfl⟩ := List.mem_map.mp hq
      exact ⟨_, rfl, fun _ _ _ _ _ => ⟨jts_nil, j_and (j_cm (jv 6 rfl) j_int cd_gtI) (fun _ => j_one (j_or (j_cm (jv 5 rfl) j_int cd_gtI) (fun _ => j_one (j_cm (jv 3 rfl) j_int cd_gtI))))⟩⟩
    · rw [List.filterMap_map, List.map_map]
      exact congrArg D.lst (List.filterMap_eq_map (f := fun s : Sh => D.bl (canSh (a - ownS shs) s)) ▸ rfl)
    · show D.bl _ = D.bl _
      rw [List.any_map]; rfl
/-- the module's constants -/
structure Gb (K : PySem.W.Frag) (mg : Str → Option Value) : Prop where
  cost : ∃ t, mg "GREATEST_COST" = some (.int 1000 t)
  hold : ∃ a t1 t2 od n sl, mg "HOLDING" = some (.ref a) ∧ K.lookup a = some ⟨.type "tuple", od, .seq #[.str "held" t1, .str "pool" t2] n, sl⟩
def holdD : D := .tup ((["held", "pool"] : List Str).map D.str)
abbrev nMost : List Str := ["limit", "moments", "word", "most", "step"]
abbrev sMost : Stmt := top 24
theorem scMost : FnScope nMost ["limit", "moments"] (defScope sMost) := ⟨rfl, rfl, rfl, by decide +kernel, rfl, by decide +kernel, by decide +kernel⟩
def gMost : List D → (D → Prop) → Prop := fun ds P => (∃ (wd : Wd) (gs : List Str) (a b m : Int), ds = [limW wd gs a b, .int m] ∧ 0 ≤ a ∧ a ≤ 100000000 ∧ 1 ≤ b ∧ b ≤ 100000000 ∧ P = fun d => d = .int (mostW wd a b m)) ∨ (∃ (gs : List Str) (a m : Int), ds = [heldL gs a, .int m] ∧ P = fun d => d = optI (if decide (0 < a) then none else some 0)) ∨ (∃ (shs : List Sh) (a m : Int), ds = [poolN "pool1" shs a, .int m] ∧ shs.length ≤ 8 ∧ P = fun d => d = optI (if shs.any (canSh (a - ownS shs)) then none else some 0))
theorem ok_most {f : Addr} {fd : FuncData} (F : Fun K "most_within" "most_within" sMost f fd) (T : Bt mg) (G : Gb K mg) (cC : PFn P w K mg base 1 "can_hold" 1 gCan) (cP : PFn P w K mg base 1 "parts_of" 2 gParts) (cS : PFn P w K mg base 2 "spans_touched" 2 gSpans) : FnOk P w K mg base CX0 3 f fd ["limit", "moments"] (spP K 2 gMost) := by
  refine fn_pure F scMost (by rintro ds Pd (⟨_, _, _, _, _, rfl, _⟩ | ⟨_, _, _, rfl, _⟩ | ⟨_, _, _, rfl, _⟩) <;> rfl) fun cdv A outer s H E ds Pd hr hG => ?_
  have nd := scMost.nd
  obtain ⟨⟨tc, gc⟩, ⟨ha, t1, t2, od, hn, sl, gh, lh⟩⟩ := G
  have jH : ∀ {X : Cx} {ρ : Rho} {pos : Pos}, X.mg = mg → X.K = K → Gl X "HOLDING" → J X (.Name "HOLDING" pos) ρ holdD := fun {X ρ pos} e1 e2 hg => j_glob (w := .ref ha) (by rw [e1]; exact gh) (show RelV (.ref ha) (.ref ha) from rfl) (fun H => .tup (.inr ⟨_, _, _, by rw [e2]; exact lh, rfl, rfl, by show 2 ≤ _; decide, .cons (show RelV (.str "held") (.str "held" t1) from ⟨t1, rfl⟩) (.cons (show RelV (.str "pool") (.str "pool" t2) from ⟨t2, rfl⟩) .nil)⟩) (.cons (.str _) (.cons (.str _) .nil))) hg
  have jC : ∀ {X : Cx} {ρ : Rho} {pos : Pos}, X.mg = mg → Gl X "GREATEST_COST" → J X (.Name "GREATEST_COST" pos) ρ (.int 1000) := fun {X ρ pos} e1 hg => j_glob (w := .int 1000 tc) (v := .int 1000) (by rw [e1]; exact gc) ⟨tc, rfl⟩ (fun H => .int _) hg
  rcases hG with ⟨wd, gs, a, b, m, rfl, ha1, ha2, hb1, hb2, rfl⟩ | ⟨gs, a, m, rfl, rfl⟩ | ⟨shs, a, m, rfl, h8, rfl⟩
  · refine jss_cons (js_set (i := 2) (j_ix (jv 0 rfl) j_int (ixd_T rfl)) ?_ nd)
    cases wd
    · refine jss_cons (js_ifF (JT.to (jt_cm (jv 2 rfl) (jH rfl rfl rfl) cd_inStrT) (by decide +kernel)) (jss_nil ?_))
      refine jss_cons (js_ifF ((jt_cm (jv 2 rfl) j_str cd_eqS).to (by decide +kernel)) (jss_nil ?_))
      refine jss_cons (js_pat (pat := .tp [3, 4]) (j_ix (jv 0 rfl) j_int (ixd_T rfl)) rfl ?_ (pg_tup rfl (pgs_cons (pg_name nd rfl (Or.inl rfl)) (pgs_cons (pg_name nd rfl (Or.inl rfl)) pgs_nil))))
      refine jss_cons (js_ifT ((jt_cm (jv 2 rfl) j_str cd_eqS).to (by decide +kernel)) ?_)
      exact jss_cons (js_ret (j_bin (jv 3 rfl) (j_call cP hr (ja_cons (jv 1 rfl) (ja_cons (jv 4 rfl) ja_nil)) ⟨_, _, rfl, hb1, hb2, rfl⟩ (fun _ h => h)) (od_mulI (cmulL (by show -(2 ^ 64) < a; omega) (by show a < 2 ^ 64; omega)))) rfl)
    · refine jss_cons (js_ifF (JT.to (jt_cm (jv 2 rfl) (jH rfl rfl rfl) cd_inStrT) (by decide +kernel)) (jss_nil ?_))
      refine jss_cons (js_ifF ((jt_cm (jv 2 rfl) j_str cd_eqS).to (by decide +kernel)) (jss_nil ?_))
      refine jss_cons (js_pat (pat := .tp [3, 4]) (j_ix (jv 0 rfl) j_int (ixd_T rfl)) rfl ?_ (pg_tup rfl (pgs_cons (pg_name nd rfl (Or.inl rfl)) (pgs_cons (pg_name nd rfl (Or.inl rfl)) pgs_nil))))
      refine jss_cons (js_ifF ((jt_cm (jv 2 rfl) j_str cd_eqS).to (by decide +kernel)) (jss_nil ?_))
      refine jss_cons (js_ifT ((jt_cm (jv 2 rfl) j_str cd_eqS).to (by decide +kernel)) ?_)
      exact jss_cons (js_ret (j_bin (jv 3 rfl) (j_call cS hr (ja_cons (jv 1 rfl) (ja_cons (jv 4 rfl) ja_nil)) ⟨_, _, rfl, hb1, hb2, rfl⟩ (fun _ h => h)) (od_mulI (cmulL (by show -(2 ^ 64) < a; omega) (by show a < 2 ^ 64; omega)))) rfl)
    · refine jss_cons (js_ifF (JT.to (jt_cm (jv 2 rfl) (jH rfl rfl rfl) cd_inStrT) (by decide +kernel)) (jss_nil ?_))
      refine jss_cons (js_ifF ((jt_cm (jv 2 rfl) j_str cd_eqS).to (by decide +kernel)) (jss_nil ?_))
      refine jss_cons (js_pat (pat := .tp [3, 4]) (j_ix (jv 0 rfl) j_int (ixd_T rfl)) rfl ?_ (pg_tup rfl (pgs_cons (pg_name nd rfl (Or.inl rfl)) (pgs_cons (pg_name nd rfl (Or.inl rfl)) pgs_nil))))
      refine jss_cons (js_ifF ((jt_cm (jv 2 rfl) j_str cd_eqS).to (by decide +kernel)) (jss_nil ?_))
      refine jss_cons (js_ifF ((jt_cm (jv 2 rfl) j_str cd_eqS).to (by decide +kernel)) (jss_nil ?_))
      refine jss_cons (js_ret (j_ifExp (jt_cm (jv 3 rfl) j_int cd_gtI) (fun _ => j_bin (jv 3 rfl) (j_bin (j_bin (jv 1 rfl) j_int od_subI) (jv 4 rfl) (od_fdivI ⟨by show (0 : Int) < b; omega, by show b < 1073741824; omega⟩)) od_addI) (fun _ => j_int)) ?_)
      show (if decide (0 < a) = true then D.int _ else D.int 0) = D.int (if a > 0 then a + (m - 1) / b else 0)
      by_cases h : 0 < a
      · rw [if_pos (decide_eq_true h), if_pos h]
      · rw [if_neg (by simpa using h), if_neg h]
    · refine jss_cons (js_ifF (JT.to (jt_cm (jv 2 rfl) (jH rfl rfl rfl) cd_inStrT) (by decide +kernel)) (jss_nil ?_))
      refine jss_cons (js_ifT ((jt_cm (jv 2 rfl) j_str cd_eqS).to (by decide +kernel)) ?_)
      exact jss_cons (js_ret (j_bin (jC rfl rfl) (j_call cP hr (ja_cons (jv 1 rfl) (ja_cons (j_ix (j_ix (jv 0 rfl) j_int (ixd_T rfl)) j_int (ixd_T rfl)) ja_nil)) ⟨_, _, rfl, hb1, hb2, rfl⟩ (fun _ h => h)) (od_mulI cmulL)) rfl)
  · refine jss_cons (js_set (i := 2) (j_ix (jv 0 rfl) j_int (ixd_T rfl)) ?_ nd)
    refine jss_cons (js_ifT (JT.to (jt_cm (jv 2 rfl) (jH rfl rfl rfl) cd_inStrT) (by decide +kernel)) ?_)
    refine jss_cons (js_ret (j_ifExp (jt_val (j_call cC hr (ja_cons (jv 0 rfl) ja_nil) (.inl ⟨gs, a, rfl, rfl⟩) (fun _ h => h))) (fun _ => j_non) (fun _ => j_int)) ?_)
    show (if decide (0 < a) = true then D.non else D.int 0) = optI (if decide (0 < a) = true then none else some 0)
    split <;> rfl
  · refine jss_cons (js_set (i := 2) (j_ix (jv 0 rfl) j_int (ixd_T rfl)) ?_ nd)
    refine jss_cons (js_ifT (JT.to (jt_cm (jv 2 rfl) (jH rfl rfl rfl) cd_inStrT) (by decide +kernel)) ?_)
    refine jss_cons (js_ret (j_ifExp (jt_val (j_call cC hr (ja_cons (jv 0 rfl) ja_nil) (.inr ⟨shs, a, rfl, h8, rfl⟩) (fun _ h => h))) (fun _ => j_non) (fun _ => j_int)) ?_)
    show (if shs.any (canSh (a - ownS shs)) = true then D.non else D.int 0) = optI (if shs.any (canSh (a - ownS shs)) = true then none else some 0)
    split <;> rfl
end
end Toy

namespace Toy.C8
open PySem PyProof.Rows L2 Pf
section
variable {P : Program} {w : World} {K : PySem.W.Frag} {mg : Str → Option Value} {base : Heap}
structure Gb (mg : Str → Option Value) : Prop where
  nm : ∃ t, mg "NAME_SIGNS" = some (.str "abcdefghijklmnopqrstuvwxyz0123456789" t)
  ky : ∃ t, mg "KEY_SIGNS" = some (.str "abcdefghijklmnopqrstuvwxyz0123456789-" t)
  gm : ∃ t, mg "GREATEST_MOMENT" = some (.int 1000000000 t)
  gc : ∃ t, mg "GREATEST_COST" = some (.int 1000 t)
def prt : D → Bool
  | .str z => decide (z.length ≤ 2000)
  | .int _ => true
  | .non => true
  | _ => false
theorem part_cases {d : D} (h : prt d = true) : (∃ z : Str, d = .str z ∧ z.length ≤ 2000) ∨ (∃ i, d = .int i) ∨ d = .non := by
  cases d with
  | str z => exact .inl ⟨z, rfl, by simpa [prt] using h⟩
  | int i => exact .inr (.inl ⟨i, rfl⟩)
  | non => exact .inr (.inr rfl)
  | _ => cases h
theorem prt_of {d : D} (h : part d = true) : prt d = true := by
  cases d <;> first | exact h | rfl
def OkP (es : List D) : Prop := es.all prt = true ∧ es.length ≤ 1100 ∧ ((∃ w r, es = .str w :: r) ∨ es.length < 3)
theorem okP_of {es : List D} (h : OkE es) : OkP es := ⟨List.all_eq_true.mpr fun d hd => prt_of (List.all_eq_true.mp h.1 d hd), by have := h.2.1; omega, .inl h.2.2⟩
abbrev sName : Stmt := top 10
theorem scName : FnScope ["text", "sign"] ["text"] (defScope sName) := ⟨rfl, rfl, rfl, by decide +kernel, rfl, by decide +kernel, by decide +kernel⟩
def gName : List D → (D → Prop) → Prop := fun ds P => ∃ d, ds = [d] ∧ prt d = true ∧ P = fun r => r = .bl (nmD d)
theorem ok_name {f : Addr} {fd : FuncData} (F : Fun K "is_name" "is_name" sName f fd) (T : Bt mg) (G : Gb mg) : FnOk P w K mg base CX0 1 f fd ["text"] (spP K 1 gName) := by
  refine fn_pure F scName (by rintro ds Pd ⟨_, rfl, _⟩; rfl) fun cdv A outer s H E ds Pd hr hG => ?_
  obtain ⟨d, rfl, hp, rfl⟩ := hG
  have nd := scName.nd
  rcases part_cases hp with ⟨z, rfl, hz⟩ | ⟨i, rfl⟩ | rfl
  · refine jss_cons (js_ret (J.to (j_and (jb_isi (b := true) T (ja_cons (jv 0 rfl) (ja_cons (j_ty (T := "str") T.str (by decide +kernel)) ja_nil)) rfl (by rfl)) (fun _ => j_and (J.to (j_ch j_int (jb_len T (ja_cons (jv 0 rfl) ja_nil) (lenS (le_size (by omega)))) j_int cd_leI cd_leI) (d' := .bl (decide (1 ≤ z.length) && decide (z.length ≤ 12))) ?_) (fun _ => j_one (J.to (jb_all T (bs := z.cps.toList.map nmSign) (ja_cons (J.to (j_lcM (own := [("sign", 1)]) (i := 1) z.cps.toList (fun c : Nat => D.str ⟨#[c]⟩) (fun c => D.bl (nmSign c)) (ji_str (jv 0 rfl)) (blkOk_by (N := ["text", "sign"]) (sc := defScope sName) (by decide +kernel)) (fun _ _ _ _ _ => pg_name nd rfl (Or.inl rfl)) (by rw [len_of]; exact lt_size (by omega)) (fun c hc s H C cl fp => J.to (j_cm (jv 1 rfl) (j_gS G.nm) cd_inSign) (congrArg D.bl (nm_mem c))) nd) (by rw [List.map_map]; rfl)) ja_nil)) (d' := .bl (z.cps.toList.all nmSign)) (by rw [List.all_map]; rfl))))) rfl) rfl)
    exact congrArg D.bl (by congr 1 <;> exact decide_eq_decide.mpr (by omega))
  · exact jss_cons (js_ret (j_andFa (jb_isi T (ja_cons (jv 0 rfl) (ja_cons (j_ty (T := "str") T.str (by decide +kernel)) ja_nil)) rfl (by rfl))) rfl)
  · exact jss_cons (js_ret (j_andFa (jb_isi T (ja_cons (jv 0 rfl) (ja_cons (j_ty (T := "str") T.str (by decide +kernel)) ja_nil)) rfl (by rfl))) rfl)
abbrev sKey : Stmt := top 11
theorem scKey : FnScope ["text", "sign"] ["text"] (defScope sKey) := ⟨rfl, rfl, rfl, by decide +kernel, rfl, by decide +kernel, by decide +kernel⟩
def gKey : List D → (D → Prop) → Prop := fun ds P => ∃ d, ds = [d] ∧ prt d = true ∧ P = fun r => r = .bl (kyD d)
theorem ok_key {f : Addr} {fd : FuncData} (F : Fun K "is_key" "is_key" sKey f fd) (T : Bt mg) (G : Gb mg) : FnOk P w K mg base CX0 1 f fd ["text"] (spP K 1 gKey) := by
  refine fn_pure F scKey (by rintro ds Pd ⟨_, rfl, _⟩; rfl) fun cdv A outer s H E ds Pd hr hG => ?_
  obtain ⟨d, rfl, hp, rfl⟩ := hG
  have nd := scKey.nd
  rcases part_cases hp with ⟨z, rfl, hz⟩ | ⟨i, rfl⟩ | rfl
  · refine jss_cons (js_ret (J.to (j_and (jb_isi (b := true) T (ja_cons (jv 0 rfl) (ja_cons (j_ty (T := "str") T.str (by decide +kernel)) ja_nil)) rfl (by rfl)) (fun _ => j_and (J.to (j_ch j_int (jb_len T (ja_cons (jv 0 rfl) ja_nil) (lenS (le_size (by omega)))) j_int cd_leI cd_leI) (d' := .bl (decide (1 ≤ z.length) && decide (z.length ≤ 20))) ?_) (fun _ => j_one (J.to (jb_all T (bs := z.cps.toList.map kySign) (ja_cons (J.to (j_lcM (own := [("sign", 1)]) (i := 1) z.cps.toList (fun c : Nat => D.str ⟨#[c]⟩) (fun c => D.bl (kySign c)) (ji_str (jv 0 rfl)) (blkOk_by (N := ["text", "sign"]) (sc := defScope sKey) (by decide +kernel)) (fun _ _ _ _ _ => pg_name nd rfl (Or.inl rfl)) (by rw [len_of]; exact lt_size (by omega)) (fun c hc s H C cl fp => J.to (j_cm (jv 1 rfl) (j_gS G.ky) cd_inSign) (congrArg D.bl (ky_mem c))) nd) (by rw [List.map_map]; rfl)) ja_nil)) (d' := .bl (z.cps.toList.all kySign)) (by rw [List.all_map]; rfl))))) rfl) rfl)
    exact congrArg D.bl (by congr 1 <;> exact decide_eq_decide.mpr (by omega))
  · exact jss_cons (js_ret (j_andFa (jb_isi T (ja_cons (jv 0 rfl) (ja_cons (j_ty (T := "str") T.str (by decide +kernel)) ja_nil)) rfl (by rfl))) rfl)
  · exact jss_cons (js_ret (j_andFa (jb_isi T (ja_cons (jv 0 rfl) (ja_cons (j_ty (T := "str") T.str (by decide +kernel)) ja_nil)) rfl (by rfl))) rfl)
abbrev sIn : Stmt := top 12
theorem scIn : FnScope ["number", "least", "greatest"] ["number", "least", "greatest"] (defScope sIn) := ⟨rfl, rfl, rfl, by decide +kernel, rfl, by decide +kernel, by decide +kernel⟩
def gIn : List D → (D → Prop) → Prop := fun ds P => ∃ d lo hi, ds = [d, .int lo, .int hi] ∧ prt d = true ∧ P = fun r => r = .bl (inD lo hi d)
theorem ok_in {f : Addr} {fd : FuncData} (F : Fun K "is_within" "is_within" sIn f fd) (T : Bt mg) : FnOk P w K mg base CX0 1 f fd ["number", "least", "greatest"] (spP K 3 gIn) := by
  refine fn_pure F scIn (by rintro ds Pd ⟨_, _, _, rfl, _⟩; rfl) fun cdv A outer s H E ds Pd hr hG => ?_
  obtain ⟨d, lo, hi, rfl, hp, rfl⟩ := hG
  rcases part_cases hp with ⟨z, rfl, hz⟩ | ⟨i, rfl⟩ | rfl
  · exact jss_cons (js_ret (j_andFa (jb_isi T (ja_cons (jv 0 rfl) (ja_cons (j_ty (T := "int") T.int (by decide +kernel)) ja_nil)) rfl (by rfl))) rfl)
  · exact jss_cons (js_ret (J.to (j_and (jb_isi (b := true) T (ja_cons (jv 0 rfl) (ja_cons (j_ty (T := "int") T.int (by decide +kernel)) ja_nil)) rfl (by rfl)) (fun _ => j_one (j_ch (jv 1 rfl) (jv 0 rfl) (jv 2 rfl) cd_leI cd_leI))) rfl) rfl)
  · exact jss_cons (js_ret (j_andFa (jb_isi T (ja_cons (jv 0 rfl) (ja_cons (j_ty (T := "int") T.int (by decide +kernel)) ja_nil)) rfl (by rfl))) rfl)
abbrev sMo : Stmt := top 13
theorem scMo : FnScope ["moment"] ["moment"] (defScope sMo) := ⟨rfl, rfl, rfl, by decide +kernel, rfl, by decide +kernel, by decide +kernel⟩
def gMo : List D → (D → Prop) → Prop := fun ds P => ∃ d, ds = [d] ∧ prt d = true ∧ P = fun r => r = .bl (inD 0 1000000000 d)
theorem ok_mo {f : Addr} {fd : FuncData} (F : Fun K "is_moment" "is_moment" sMo f fd) (G : Gb mg) (cI : PFn P w K mg base 1 "is_within" 3 gIn) : FnOk P w K mg base CX0 2 f fd ["moment"] (spP K 1 gMo) := by
  refine fn_pure F scMo (by rintro ds Pd ⟨_, rfl, _⟩; rfl) fun cdv A outer s H E ds Pd hr hG => ?_
  obtain ⟨d, rfl, hp, rfl⟩ := hG
  exact jss_cons (js_ret (j_call cI hr (ja_cons (jv 0 rfl) (ja_cons j_int (ja_cons (j_gI G.gm) ja_nil))) ⟨d, 0, 1000000000, rfl, hp, rfl⟩ (fun _ h => h)) rfl)
abbrev sRq : Stmt := top 14
theorem scRq : FnScope ["key", "group", "cost"] ["key", "group", "cost"] (defScope sRq) := ⟨rfl, rfl, rfl, by decide +kernel, rfl, by decide +kernel, by decide +kernel⟩
def gRq : List D → (D → Prop) → Prop := fun ds P => ∃ a b c, ds = [a, b, c] ∧ prt a = true ∧ prt b = true ∧ prt c = true ∧ P = fun r => r = .bl (kyD a && (nmD b && inD 1 1000 c))
theorem ok_rq {f : Addr} {fd : FuncData} (F : Fun K "is_request" "is_request" sRq f fd) (G : Gb mg) (cN : PFn P w K mg base 1 "is_name" 1 gName) (cK : PFn P w K mg base 1 "is_key" 1 gKey) (cI : PFn P w K mg base 1 "is_within" 3 gIn) : FnOk P w K mg base CX0 2 f fd ["key", "group", "cost"] (spP K 3 gRq) := by
  refine fn_pure F scRq (by rintro ds Pd ⟨_, _, _, rfl, _⟩; rfl) fun cdv A outer s H E ds Pd hr hG => ?_
  obtain ⟨a, b, c, rfl, ha, hb, hc, rfl⟩ := hG
  exact jss_cons (js_ret (j_and (j_call cK hr (ja_cons (jv 0 rfl) ja_nil) ⟨a, rfl, ha, rfl⟩ (fun _ h => h)) (fun _ => j_and (j_call cN hr (ja_cons (jv 1 rfl) ja_nil) ⟨b, rfl, hb, rfl⟩ (fun _ h => h)) (fun _ => j_one (j_call cI hr (ja_cons (jv 2 rfl) (ja_cons j_int (ja_cons (j_gI G.gc) ja_nil))) ⟨c, 1, 1000, rfl, hc, rfl⟩ (fun _ h => h))))) rfl)
abbrev sEnt : Stmt := top 15
theorem scEnt : FnScope ["entry"] ["entry"] (defScope sEnt) := ⟨rfl, rfl, rfl, by decide +kernel, rfl, by decide +kernel, by decide +kernel⟩
def gEnt : List D → (D → Prop) → Prop := fun ds P => ∃ es, ds = [.tup es] ∧ OkP es ∧ P = fun r => r = .bl (entD es)
theorem entD_no {es : List D} (h5 : es.length ≠ 5) (h3 : es.length ≠ 3) : entD es = false := by
  unfold entD
  split
  · exact absurd rfl h5
  · exact absurd rfl h3
  · rfl
theorem ok_ent {f : Addr} {fd : FuncData} (F : Fun K "is_entry" "is_entry" sEnt f fd) (T : Bt mg) (cK : PFn P w K mg base 1 "is_key" 1 gKey) (cM : PFn P w K mg base 2 "is_moment" 1 gMo) (cR : PFn P w K mg base 2 "is_request" 3 gRq) : FnOk P w K mg base CX0 3 f fd ["entry"] (spP K 1 gEnt) := by
  refine fn_pure F scEnt (by rintro ds Pd ⟨_, rfl, _⟩; rfl) fun cdv A outer s H E ds Pd hr hG => ?_
  obtain ⟨es, rfl, ⟨hp, hl, hfst⟩, rfl⟩ := hG
  by_cases h5 : es.length = 5
  · obtain ⟨z, r, rfl⟩ : ∃ w r, es = .str w :: r := by
      rcases hfst with h | h
      · exact h
      · omega
    match r, h5 with
    | [a, b, c, d], _ =>
      simp only [List.all_cons, Bool.and_eq_true] at hp
      refine jss_cons (js_if (jt_w (jw_and (jt_cm (jb_len T (ja_cons (jv 0 rfl) ja_nil) rfl) j_int cd_eqI) (fun _ => jw_and1 (jt_cm (j_ix (jv 0 rfl) j_int (ixd_T rfl)) j_str cd_eqS)))) (fun h => ?_) (fun h => jss_nil ?_))
      · have hz : z = "ask" := by simpa using h
        exact jss_cons (js_ret (J.to (j_and (j_call cR hr (ja_cons (j_ix (jv 0 rfl) j_int (ixd_T rfl)) (ja_cons (j_ix (jv 0 rfl) j_int (ixd_T rfl)) (ja_cons (j_ix (jv 0 rfl) j_int (ixd_T rfl)) ja_nil))) ⟨a, b, c, rfl, hp.2.1, hp.2.2.1, hp.2.2.2.1, rfl⟩ (fun _ h => h)) (fun _ => j_one (j_call cM hr (ja_cons (j_ix (jv 0 rfl) j_int (ixd_T rfl)) ja_nil) ⟨d, rfl, hp.2.2.2.2.1, rfl⟩ (fun _ h => h)))) (by simp [entD, hz])) rfl)
      · have hz : z ≠ "ask" := by simpa using h
        exact jss_cons (js_ret (J.to (j_andFa (J.to (j_cm (jb_len T (ja_cons (jv 0 rfl) ja_nil) rfl) j_int cd_eqI) (d' := .bl false) rfl)) (by simp [entD, hz])) rfl)
  · by_cases h3 : es.length = 3
    · obtain ⟨z, r, rfl⟩ : ∃ w r, es = .str w :: r := by
        rcases hfst with h | h
        · exact h
        · omega
      match r, h3 with
      | [a, b], _ =>
        simp only [List.all_cons, Bool.and_eq_true] at hp
        refine jss_cons (js_ifF (JT.to (jt_w (jw_and (t := false) (u := false) (JT.to (jt_cm (jb_len T (ja_cons (jv 0 rfl) ja_nil) rfl) j_int cd_eqI) rfl) (fun h => absurd h (by decide)))) rfl) (jss_nil ?_))
        refine jss_cons (js_ret (j_and (J.to (j_cm (jb_len T (ja_cons (jv 0 rfl) ja_nil) rfl) j_int cd_eqI) (d' := .bl true) rfl) (fun _ => j_and (j_cm (j_ix (jv 0 rfl) j_int (ixd_T rfl)) j_str cd_eqS) (fun _ => j_and (j_call cK hr (ja_cons (j_ix (jv 0 rfl) j_int (ixd_T rfl)) ja_nil) ⟨a, rfl, hp.2.1, rfl⟩ (fun _ h => h)) (fun _ => j_one (j_call cM hr (ja_cons (j_ix (jv 0 rfl) j_int (ixd_T rfl)) ja_nil) ⟨b, rfl, hp.2.2.1, rfl⟩ (fun _ h => h)))))) rfl)
    · have hn5 : decide ((es.length : Int) = 5) = false := decide_eq_false (by omega)
      have hn3 : decide ((es.length : Int) = 3) = false := decide_eq_false (by omega)
      refine jss_cons (js_ifF (JT.to (jt_w (jw_and (t := false) (u := false) (JT.to (jt_cm (jb_len T (ja_cons (jv 0 rfl) ja_nil) rfl) j_int cd_eqI) hn5) (fun h => absurd h (by decide)))) rfl) (jss_nil ?_))
      exact jss_cons (js_ret (J.to (j_andFa (J.to (j_cm (jb_len T (ja_cons (jv 0 rfl) ja_nil) rfl) j_int cd_eqI) (congrArg D.bl hn3))) (by rw [entD_no h5 h3])) rfl)
end
end Toy.C8

namespace Toy.C8
open PySem PyProof.Rows L2 Pf
section
variable {P : Program} {w : World} {K : PySem.W.Frag} {mg : Str → Option Value} {base : Heap}
theorem kyD_str {d : D} (h : kyD d = true) : ∃ z, d = .str z ∧ isKy z = true := by
  cases d with
  | str z => exact ⟨z, rfl, h⟩
  | _ => cases h
theorem nmD_str {d : D} (h : nmD d = true) : ∃ z, d = .str z ∧ isNm z = true := by
  cases d with
  | str z => exact ⟨z, rfl, h⟩
  | _ => cases h
theorem inD_int {lo hi : Int} {d : D} (h : inD lo hi d = true) : ∃ i, d = .int i ∧ lo ≤ i ∧ i ≤ hi := by
  cases d with
  | int i => exact ⟨i, rfl, by simpa [inD] using h⟩
  | _ => cases h
theorem ent_shape {es : List D} (h : entD es = true) : (∃ k g c m, es = [.str "ask", .str k, .str g, .int c, .int m] ∧ isKy k = true ∧ isNm g = true ∧ 1 ≤ c ∧ c ≤ 1000 ∧ 0 ≤ m ∧ m ≤ 1000000000) ∨ ∃ k m, es = [.str "release", .str k, .int m] ∧ isKy k = true ∧ 0 ≤ m ∧ m ≤ 1000000000 := by
  unfold entD at h
  split at h
  · simp only [Bool.and_eq_true, decide_eq_true_eq] at h
    obtain ⟨rfl, ⟨h1, h2, h3⟩, h4⟩ := h
    obtain ⟨k, rfl, hk⟩ := kyD_str h1
    obtain ⟨g, rfl, hg⟩ := nmD_str h2
    obtain ⟨c, rfl, hc⟩ := inD_int h3
    obtain ⟨m, rfl, hm⟩ := inD_int h4
    exact .inl ⟨k, g, c, m, rfl, hk, hg, hc.1, hc.2, hm.1, hm.2⟩
  · simp only [Bool.and_eq_true, decide_eq_true_eq] at h
    obtain ⟨rfl, h1, h4⟩ := h
    obtain ⟨k, rfl, hk⟩ := kyD_str h1
    obtain ⟨m, rfl, hm⟩ := inD_int h4
    exact .inr ⟨k, m, rfl, hk, hm.1, hm.2⟩
  · cases h
theorem ent_at {es : List D} (h : entD es = true) : atI es (-1) = some (.int (lastOf es)) ∧ atI es 1 = some (.str (kyOf es)) := by
  rcases ent_shape h with ⟨k, g, c, m, rfl, _⟩ | ⟨k, m, rfl, _⟩ <;> exact ⟨rfl, rfl⟩
abbrev sGo : Stmt := top 16
theorem scGo : FnScope ["entry", "moment", "asked"] ["entry", "moment", "asked"] (defScope sGo) := ⟨rfl, rfl, rfl, by decide +kernel, rfl, by decide +kernel, by decide +kernel⟩
def gGo : List D → (D → Prop) → Prop := fun ds P => ∃ es m kds, ds = [.tup es, .int m, .dct kds] ∧ OkE es ∧ P = fun r => r = .bl (entD es && (!decide (lastOf es < m) && (hasD kds (.inr (kyOf es)) == isRel es)))
theorem bq (a b : Bool) : decide (a = b) = (a == b) := by cases a <;> cases b <;> rfl
theorem ok_go {f : Addr} {fd : FuncData} (F : Fun K "goes_on" "goes_on" sGo f fd) (T : Bt mg) (cE : PFn P w K mg base 3 "is_entry" 1 gEnt) : FnOk P w K mg base CX0 4 f fd ["entry", "moment", "asked"] (spP K 3 gGo) := by
  refine fn_pure F scGo (by rintro ds Pd ⟨_, _, _, rfl, _⟩; rfl) fun cdv A outer s H E ds Pd hr hG => ?_
  obtain ⟨es, m, kds, rfl, hok, rfl⟩ := hG
  have hu := Nat.lt_of_le_of_lt (Nat.add_le_add_left (by decide : 1 ≤ 64) _) hr.units
  cases he : entD es with
  | false =>
    refine jss_cons (js_ifT (JT.to (jt_w (jw_or (t := true) (u := true) (JT.to (jt_not (jt_val (j_call cE hr (ja_cons (jv 0 rfl) ja_nil) ⟨es, rfl, okP_of hok, rfl⟩ (fun _ h => h)))) (by rw [he]; rfl)) (fun h => by cases h))) rfl) (jss_cons (js_ret j_bl ?_)))
    rfl
  | true =>
    obtain ⟨e1, e2⟩ := ent_at he
    refine jss_cons (js_if (JT.to (jt_w (jw_or (t := false) (JT.to (jt_not (jt_val (j_call cE hr (ja_cons (jv 0 rfl) ja_nil) ⟨es, rfl, okP_of hok, rfl⟩ (fun _ h => h)))) (by rw [he]; rfl)) (fun _ => jw_or1 (jt_cm (j_ix (jv 0 rfl) (j_neg j_int) (ixd_T e1)) (jv 1 rfl) cd_ltI)))) (u := decide (lastOf es < m)) rfl) (fun h => ?_) (fun h => jss_nil ?_))
    · refine jss_cons (js_ret j_bl ?_)
      show D.bl false = D.bl _
      rw [h]; rfl
    · have h0 : atI es 0 = some (.str (match es with | .str z :: _ => z | _ => "")) ∧ isRel es = decide ((match es with | .str z :: _ => z | _ => "") = ("release" : Str)) := by
        rcases ent_shape he with ⟨k, g, c, m, rfl, _⟩ | ⟨k, m, rfl, _⟩ <;> exact ⟨rfl, rfl⟩
      refine jss_cons (js_ret (J.to (j_cm (j_din hu (j_ix (jv 0 rfl) j_int (ixd_T e2)) (jv 2 rfl)) (j_cm (j_ix (jv 0 rfl) j_int (ixd_T h0.1)) j_str cd_eqS) cd_eqB) ?_) rfl)
      rw [h, h0.2, bq]; rfl
theorem hasD_setD (kds : List (Key × D)) (k k' : Key) (d : D) : hasD (setD kds k d) k' = (hasD kds k' || decide (k = k')) := by
  unfold setD
  split
  · rename_i h
    have e : hasD (kds.map fun kv => if kv.1 = k then (kv.1, d) else kv) k' = hasD kds k' := by
      unfold hasD
      rw [List.any_map]
      congr 1
      funext kv
      show decide ((if kv.1 = k then (kv.1, d) else kv).1 = k') = _
      split <;> rfl
    rw [e]
    by_cases hk : k = k'
    · subst hk; rw [h]; simp
    · simp [hk]
  · unfold hasD
    rw [List.any_append]
    simp
theorem setD_len (kds : List (Key × D)) (k : Key) (d : D) : (setD kds k d).length ≤ kds.length + 1 := by
  unfold setD
  split
  · rw [List.length_map]; omega
  · rw [List.length_append]; exact Nat.le_refl _
def GNum (d : D) : Prop := ∃ i : Int, d = .int i ∧ 0 ≤ i ∧ i < 1000000
abbrev eNum (C : Addr) (k : Nat) : Er := ⟨.ref C, some [("number", .int (k : Int))]⟩
abbrev sChk : Stmt := top 17
theorem scChk : FnScope ["entries", "moment", "asked", "number", "entry"] ["entries"] (defScope sChk) := ⟨rfl, rfl, rfl, by decide +kernel, rfl, by decide +kernel, by decide +kernel⟩
def gChk (C : Addr) : List D → (D → Prop) → (Er → Prop) → Prop := fun ds P R => ∃ E : List (List D), ds = [.lst (E.map D.tup)] ∧ (∀ e ∈ E, OkE e) ∧ E.length ≤ 10000 ∧ (P = fun d => chkAt 0 [] E 0 = none ∧ d = .non) ∧ R = fun er => ∃ k, k ≤ 10000 ∧ chkAt 0 [] E 0 = some k ∧ er = eNum C k
theorem ok_chk {C : Addr} {f : Addr} {fd : FuncData} (F : Fun K "check_entries" "check_entries" sChk f fd) (T : Bt mg) (cG : PFn P w K mg base 4 "goes_on" 3 gGo) (sI : SupErr P w K mg base 1 "InvalidEntry" C "number" GNum) : FnOk P w K mg base (L2.CX P w) 5 f fd ["entries"] (spE K 1 (gChk C)) := by
  refine fn_err F scChk (by rintro ds Pd R ⟨_, rfl, _⟩; rfl) fun cdv A outer s H X ds Pd R hr hG ps => ?_
  obtain ⟨E, rfl, hok, hlen, rfl, rfl⟩ := hG
  have nd := scChk.nd
  have hu := Nat.lt_of_le_of_lt (Nat.add_le_add_left (by decide : 1 ≤ 64) _) hr.units
  refine jss_cons (js_set (i := 1) j_int ?_ nd)
  refine jss_cons (js_setD0 (i := 2) ?_ nd)
  refine jss_cons (js_for (pat := .tp [3, 4]) (fun k ρ => ∃ (m : Int) (B : List Str) (kds : List (Key × D)) (o3 o4 : Option SV), ρ = [some (.fz (.lst (E.map D.tup))), some (.fz (.int m)), some (.ow (.dct kds)), o3, o4] ∧ (∀ z, hasD kds (.inr z) = decide (z ∈ B)) ∧ kds.length ≤ k ∧ chkAt 0 [] E 0 = chkAt m B (E.drop k) k)
    (ji_enumL T.enumerate (jv 0 rfl)) (pg_tup rfl (pgs_cons (pg_name nd rfl (Or.inl rfl)) (pgs_cons (pg_name nd rfl (Or.inl rfl)) pgs_nil))) ⟨0, [], [], _, _, rfl, fun z => rfl, Nat.le_refl _, rfl⟩ ?_ ?_ ps)
  · rintro k d ρ hd ⟨m, B, kds, o3, o4, rfl, hB, hk, he⟩
    obtain ⟨x, hx, rfl⟩ := enumL_get hd
    rw [List.getElem?_map] at hx
    cases q : E[k]? with
    | none => rw [q] at hx; cases hx
    | some e =>
      rw [q] at hx; cases hx
      obtain ⟨hkl, hke⟩ := List.getElem?_eq_some_iff.mp q
      have hd : E.drop k = e :: E.drop (k + 1) := by rw [List.drop_eq_getElem_cons hkl, hke]
      rw [hd] at he
      have hoe := hok e (List.mem_of_getElem? q)
      refine ⟨_, rfl, ?_⟩
      have hgo : (entD e && (!decide (lastOf e < m) && (hasD kds (.inr (kyOf e)) == isRel e))) = goesL e m B := by unfold goesL; rw [hB]
      refine jss_cons (js_if (jt_not (JT.to (jt_val (j_call cG hr (ja_cons (jv 4 rfl) (ja_cons (jv 1 rfl) (ja_cons (jv 2 rfl) ja_nil))) ⟨e, m, kds, rfl, hoe, rfl⟩ (fun _ h => h))) hgo)) (fun h => ?_) (fun h => jss_nil ?_))
      · have hg : goesL e m B = false := by simpa using h
        refine jss_cons (js_raise (jmk_sup sI hr (ja_cons (jv 3 rfl) ja_nil) ⟨_, rfl, by omega, by omega⟩ rfl) ?_)
        refine ⟨k, by omega, ?_, rfl⟩
        rw [he]; unfold chkAt; rw [if_neg (by rw [hg]; decide)]
      · have hg : goesL e m B = true := by simpa using h
        have hen : entD e = true := by unfold goesL at hg; exact (Bool.and_eq_true_iff.mp hg).1
        obtain ⟨e1, e2⟩ := ent_at hen
        refine jss_cons (js_set (i := 1) (j_ix (jv 4 rfl) (j_neg j_int) (ixd_T e1)) ?_ nd)
        refine jss_cons (js_dput (i := 2) hu rfl j_bl (j_ix (jv 4 rfl) j_int (ixd_T e2)) (lt_size (by omega)) (jss_nil ⟨lastOf e, B ++ [kyOf e], _, _, _, rfl, fun z => ?_, ?_, ?_⟩))
        · rw [hasD_setD, hB, Bool.eq_iff_iff, Bool.or_eq_true, decide_eq_true_iff, decide_eq_true_iff, decide_eq_true_iff, List.mem_append, List.mem_singleton]
          constructor
          · rintro (h | h)
            · exact .inl h
            · cases h; exact .inr rfl
          · rintro (h | h)
            · exact .inl h
            · exact .inr (by rw [h])
        · exact Nat.le_trans (setD_len _ _ _) (by omega)
        · rw [he]; show (if goesL e m B = true then _ else _) = _; rw [if_pos hg]
  · rintro ρ ⟨m, B, kds, o3, o4, rfl, hB, hk, he⟩
    refine jss_nil ⟨?_, rfl⟩
    rw [he, List.length_map, List.length_zipIdx, List.length_map, List.drop_length]
    rfl
end
end Toy.C8

namespace Toy
open PySem PyProof.Rows L2 Pf
theorem lt_sz {n : Nat} (h : n < 16000000) : n < sizeLine := Nat.lt_trans h (by decide)
theorem le_sz {n : Nat} (h : n < 16000000) : n ≤ sizeLine := Nat.le_of_lt (lt_sz h)
theorem JI.to' {X : Cx} {tg it : Expr} {ρ : Rho} {xs ys : List D} (h : JI X tg it ρ xs) (q : xs = ys) : JI X tg it ρ ys := q ▸ h
def sumsK : Wd → Int → Int → Int → List (Int × Int)
  | .gap, _, b, m => (List.range ((m + b - 1) / b).toNat).map fun k : Nat => ((k : Int) * b, 1000)
  | .win, a, b, m => (List.range ((m + b - 1) / b).toNat).map fun k : Nat => ((k : Int) * b, a)
  | .spn, a, b, m => (b - 1, a) :: (List.range ((m - 1 + b - 1) / b).toNat).map fun k : Nat => ((1 + (k : Int)) * b, a)
  | .buc, a, b, m => (0, a) :: (List.range ((m - 1) / b).toNat).map fun k : Nat => ((1 + (k : Int)) * b, 1)
abbrev pairI (p : Int × Int) : D := .tup [.int p.1, .int p.2]
def splitC (t : Int) : List Int := List.replicate (t / 1000).toNat 1000 ++ if t % 1000 > 0 then [t % 1000] else []
section
variable {P : Program} {w : World} {K : PySem.W.Frag} {mg : Str → Option Value} {base : Heap}
abbrev sFs : Stmt := top 25
abbrev nFs : List Str := ["limit", "moments", "word", "ticks", "most", "step", "later", "part", "span", "back"]
theorem scFs : FnScope nFs ["limit", "moments"] (defScope sFs) := ⟨rfl, rfl, rfl, by decide +kernel, rfl, by decide +kernel, by decide +kernel⟩
def gFs : List D → (D → Prop) → Prop := fun ds P => ∃ (wd : Wd) (gs : List Str) (a b m : Int), ds = [limW wd gs a b, .int m] ∧ 0 ≤ a ∧ a ≤ 1000000 ∧ 1 ≤ b ∧ b ≤ 1000000 ∧ 1 ≤ m ∧ m ≤ 1000000 ∧ P = fun d => d = .lst ((sumsK wd a b m).map pairI)
theorem ediv_le {m b n : Int} (h0 : 0 ≤ m) (hb : 1 ≤ b) (hm : m ≤ n) : 0 ≤ m / b ∧ m / b ≤ n := ⟨Int.ediv_nonneg h0 (by omega), Int.le_trans (Int.ediv_le_self _ h0) hm⟩
theorem ok_fs {f : Addr} {fd : FuncData} (F : Fun K "fullest_sums" "fullest_sums" sFs f fd) (T : Bt mg) (G : Gb K mg) (cP : PFn P w K mg base 1 "parts_of" 2 gParts) (cS : PFn P w K mg base 2 "spans_touched" 2 gSpans) : FnOk P w K mg base CX0 3 f fd ["limit", "moments"] (spP K 2 gFs) := by
  refine fn_pure F scFs (by rintro ds Pd ⟨_, _, _, _, _, rfl, _⟩; rfl) fun cdv A outer s H E ds Pd hr hG => ?_
  obtain ⟨wd, gs, a, b, m, rfl, ha1, ha2, hb1, hb2, hm1, hm2, rfl⟩ := hG
  have nd := scFs.nd
  obtain ⟨p0, p1⟩ := ediv_le (m := m + b - 1) (b := b) (n := 2000000) (by omega) hb1 (by omega)
  obtain ⟨q0, q1⟩ := ediv_le (m := m - 1 + b - 1) (b := b) (n := 2000000) (by omega) hb1 (by omega)
  obtain ⟨r0, r1⟩ := ediv_le (m := m - 1) (b := b) (n := 2000000) (by omega) hb1 (by omega)
  have hp := Int.toNat_of_nonneg p0
  have hq := Int.toNat_of_nonneg q0
  have hr0 := Int.toNat_of_nonneg r0
  refine jss_cons (js_set (i := 2) (j_ix (jv 0 rfl) j_int (ixd_T rfl)) ?_ nd)
  cases wd
  · refine jss_cons (js_ifF ((jt_cm (jv 2 rfl) j_str cd_eqS).to (by decide +kernel)) (jss_nil ?_))
    refine jss_cons (js_pat (pat := .tp [4, 5]) (j_ix (jv 0 rfl) j_int (ixd_T rfl)) rfl ?_ (pg_tup rfl (pgs_cons (pg_name nd rfl (by first | exact Or.inl rfl | exact Or.inr rfl)) (pgs_cons (pg_name nd rfl (by first | exact Or.inl rfl | exact Or.inr rfl)) pgs_nil))))
    refine jss_cons (js_ifT ((jt_cm (jv 2 rfl) j_str cd_eqS).to (by decide +kernel)) ?_)
    refine jss_cons (js_ret (J.to (j_lcM (own := [("part", 7)]) (i := 7) (List.range ((m + b - 1) / b).toNat) (fun k : Nat => D.int (k : Int)) (fun k : Nat => pairI ((k : Int) * b, a)) (JI.to' (ji_rangeN ((m + b - 1) / b).toNat T (j_call cP hr (ja_cons (jv 1 rfl) (ja_cons (jv 5 rfl) ja_nil)) ⟨_, _, rfl, hb1, by omega, rfl⟩ (fun _ h => h)) rfl (by omega) (by omega)) (by refine List.map_congr_left fun k _ => ?_; show D.int (0 + (k : Int)) = D.int (k : Int); rw [Int.zero_add])) (blkOk_by (N := nFs) (sc := defScope sFs) (by decide +kernel)) (fun _ _ _ _ _ => pg_name nd rfl (by first | exact Or.inl rfl | exact Or.inr rfl)) (by rw [List.length_range]; exact lt_sz (by omega)) (fun k hk s0 H0 C0 cl fp => ?_) nd) (by unfold sumsK; rw [List.map_map]; rfl)) rfl)
    have hk := List.mem_range.mp hk
    exact j_tup (ja_cons (j_bin (jv 7 rfl) (jv 5 rfl) (od_mulI (cmulL (by omega) (by omega)))) (ja_cons (jv 4 rfl) ja_nil))
  · refine jss_cons (js_ifF ((jt_cm (jv 2 rfl) j_str cd_eqS).to (by decide +kernel)) (jss_nil ?_))
    refine jss_cons (js_pat (pat := .tp [4, 5]) (j_ix (jv 0 rfl) j_int (ixd_T rfl)) rfl ?_ (pg_tup rfl (pgs_cons (pg_name nd rfl (by first | exact Or.inl rfl | exact Or.inr rfl)) (pgs_cons (pg_name nd rfl (by first | exact Or.inl rfl | exact Or.inr rfl)) pgs_nil))))
    refine jss_cons (js_ifF ((jt_cm (jv 2 rfl) j_str cd_eqS).to (by decide +kernel)) (jss_nil ?_))
    refine jss_cons (js_ifT ((jt_cm (jv 2 rfl) j_str cd_eqS).to (by decide +kernel)) ?_)
    refine jss_cons (js_setLcN (own := [("span", 8)]) (i := 6) (j := 8) (List.range ((m - 1 + b - 1) / b).toNat) (fun k : Nat => D.int (1 + (k : Int))) (fun _ => true) (fun k : Nat => pairI ((1 + (k : Int)) * b, a)) (JI.to' (ji_range2 T.range j_int (j_call cS hr (ja_cons (jv 1 rfl) (ja_cons (jv 5 rfl) ja_nil)) ⟨_, _, rfl, hb1, by omega, rfl⟩ (fun _ h => h)) ⟨by omega, by omega, by omega, by omega⟩) (by rw [show 1 + (m - 1 + b - 1) / b - 1 = (m - 1 + b - 1) / b by omega]; rfl)) (blkOk_by (N := nFs) (sc := defScope sFs) (by decide +kernel)) (fun _ _ _ _ _ => pg_name nd rfl (by first | exact Or.inl rfl | exact Or.inr rfl)) (by rw [List.length_range]; exact lt_sz (by omega)) (fun k hk s0 H0 C0 cl fp => ⟨jts_nil, fun _ => ?_⟩) ?_ nd (by rfl))
    · have hk := List.mem_range.mp hk
      exact j_tup (ja_cons (j_bin (jv 8 rfl) (jv 5 rfl) (od_mulI (cmulL (by omega) (by omega)))) (ja_cons (jv 4 rfl) ja_nil))
    refine jss_cons (js_ret (J.to (j_bin (j_lst (ja_cons (j_tup (ja_cons (j_bin (jv 5 rfl) j_int od_subI) (ja_cons (jv 4 rfl) ja_nil))) ja_nil)) (jv 6 rfl) (od_addL ?_)) ?_) rfl)
    · rw [List.filter_eq_self.mpr fun _ _ => rfl, List.length_map, List.length_range]
      exact le_sz (by show 1 + _ < _; omega)
    · rw [List.filter_eq_self.mpr fun _ _ => rfl]
      unfold sumsK
      rw [List.map_cons, List.map_map]; rfl
  · refine jss_cons (js_ifF ((jt_cm (jv 2 rfl) j_str cd_eqS).to (by decide +kernel)) (jss_nil ?_))
    refine jss_cons (js_pat (pat := .tp [4, 5]) (j_ix (jv 0 rfl) j_int (ixd_T rfl)) rfl ?_ (pg_tup rfl (pgs_cons (pg_name nd rfl (by first | exact Or.inl rfl | exact Or.inr rfl)) (pgs_cons (pg_name nd rfl (by first | exact Or.inl rfl | exact Or.inr rfl)) pgs_nil))))
    refine jss_cons (js_ifF ((jt_cm (jv 2 rfl) j_str cd_eqS).to (by decide +kernel)) (jss_nil ?_))
    refine jss_cons (js_ifF ((jt_cm (jv 2 rfl) j_str cd_eqS).to (by decide +kernel)) (jss_nil ?_))
    refine jss_cons (js_ret (J.to (j_bin (j_lst (ja_cons (j_tup (ja_cons j_int (ja_cons (jv 4 rfl) ja_nil))) ja_nil)) (j_lcM (own := [("back", 9)]) (i := 9) (List.range ((m - 1) / b).toNat) (fun k : Nat => D.int (1 + (k : Int))) (fun k : Nat => pairI ((1 + (k : Int)) * b, 1)) (JI.to' (ji_range2 T.range j_int (j_bin (j_bin (j_bin (jv 1 rfl) j_int od_subI) (jv 5 rfl) (od_fdivI ⟨by omega, by omega⟩)) j_int od_addI) ⟨by omega, by omega, by omega, by omega⟩) (by rw [show (m - 1) / b + 1 - 1 = (m - 1) / b by omega]; rfl)) (blkOk_by (N := nFs) (sc := defScope sFs) (by decide +kernel)) (fun _ _ _ _ _ => pg_name nd rfl (by first | exact Or.inl rfl | exact Or.inr rfl)) (by rw [List.length_range]; exact lt_sz (by omega)) (fun k hk s0 H0 C0 cl fp => ?_) nd) (od_addL (by rw [List.length_map, List.length_range]; exact le_sz (by show 1 + _ < _; omega)))) (by unfold sumsK; rw [List.map_cons, List.map_map]; rfl)) rfl)
    have hk := List.mem_range.mp hk
    exact j_tup (ja_cons (j_bin (jv 9 rfl) (jv 5 rfl) (od_mulI (cmulL (by omega) (by omega)))) (ja_cons j_int ja_nil))
  · refine jss_cons (js_ifT ((jt_cm (jv 2 rfl) j_str cd_eqS).to (by decide +kernel)) ?_)
    refine jss_cons (js_set (i := 3) (j_ix (j_ix (jv 0 rfl) j_int (ixd_T rfl)) j_int (ixd_T rfl)) ?_ nd)
    refine jss_cons (js_ret (J.to (j_lcM (own := [("part", 7)]) (i := 7) (List.range ((m + b - 1) / b).toNat) (fun k : Nat => D.int (k : Int)) (fun k : Nat => pairI ((k : Int) * b, 1000)) (JI.to' (ji_rangeN ((m + b - 1) / b).toNat T (j_call cP hr (ja_cons (jv 1 rfl) (ja_cons (jv 3 rfl) ja_nil)) ⟨_, _, rfl, hb1, by omega, rfl⟩ (fun _ h => h)) rfl (by omega) (by omega)) (by refine List.map_congr_left fun k _ => ?_; show D.int (0 + (k : Int)) = D.int (k : Int); rw [Int.zero_add])) (blkOk_by (N := nFs) (sc := defScope sFs) (by decide +kernel)) (fun _ _ _ _ _ => pg_name nd rfl (by first | exact Or.inl rfl | exact Or.inr rfl)) (by rw [List.length_range]; exact lt_sz (by omega)) (fun k hk s0 H0 C0 cl fp => ?_) nd) (by unfold sumsK; rw [List.map_map]; rfl)) rfl)
    have hk := List.mem_range.mp hk
    exact j_tup (ja_cons (j_bin (jv 7 rfl) (jv 3 rfl) (od_mulI (cmulL (by omega) (by omega)))) (ja_cons (j_gI G.cost) ja_nil))
abbrev sSc : Stmt := top 26
theorem scSc : FnScope ["total", "whole", "rest", "costs"] ["total"] (defScope sSc) := ⟨rfl, rfl, rfl, by decide +kernel, rfl, by decide +kernel, by decide +kernel⟩
def gSc : List D → (D → Prop) → Prop := fun ds P => ∃ t : Int, ds = [.int t] ∧ 0 ≤ t ∧ t ≤ 1000000 ∧ P = fun d => d = .lst ((splitC t).map D.int)
theorem ok_sc {f : Addr} {fd : FuncData} (F : Fun K "split_cost" "split_cost" sSc f fd) (hdm : mg "divmod" = none) (G : Gb K mg) : FnOk P w K mg base CX0 1 f fd ["total"] (spP K 1 gSc) := by
  refine fn_pure F scSc (by rintro ds Pd ⟨_, rfl, _⟩; rfl) fun cdv A outer s H E ds Pd hr hG => ?_
  obtain ⟨t, rfl, h0, h1, rfl⟩ := hG
  have nd := scSc.nd
  obtain ⟨n, hn⟩ : ∃ n : Nat, t / 1000 = (n : Int) := ⟨(t / 1000).toNat, by omega⟩
  refine jss_cons (js_pat (pat := .tp [1, 2]) (J.to (jb_divmod hdm (ja_cons (jv 0 rfl) (ja_cons (j_gI G.cost) ja_nil)) ⟨by decide, by decide⟩) (d' := .tup [.int (n : Int), .int (t % 1000)]) (by rw [hn])) rfl ?_ (pg_tup rfl (pgs_cons (pg_name nd rfl (Or.inl rfl)) (pgs_cons (pg_name nd rfl (Or.inl rfl)) pgs_nil))))
  refine jss_cons (js_set (i := 3) (j_bin (j_lst (ja_cons (j_gI G.cost) ja_nil)) (jv 1 rfl) (od_mulL1 (le_sz (by omega)))) ?_ nd)
  refine jss_cons (js_ret (J.to (j_ifExp (jt_cm (jv 2 rfl) j_int cd_gtI) (fun _ => j_bin (jv 3 rfl) (j_lst (ja_cons (jv 2 rfl) ja_nil)) (od_addL (by rw [List.length_replicate]; exact le_sz (by show _ + 1 < _; omega)))) (fun _ => jv 3 rfl)) ?_) rfl)
  unfold splitC
  rw [hn, Int.toNat_natCast]
  by_cases h : t % 1000 > 0
  · rw [if_pos (decide_eq_true h), if_pos h, List.map_append, List.map_replicate]; rfl
  · rw [if_neg (by simpa using h), if_neg h, List.append_nil, List.map_replicate]; rfl
end
end Toy

namespace Toy
open PySem PyProof.Rows L2 Pf
abbrev nT (i : Int) : Str := ((toString i : String) : Str)
theorem nT_ok {i : Int} (h0 : 0 ≤ i) (h1 : i ≤ 10000000000000) : (nT i).length ≤ 20 ∧ i.natAbs.log2 < 1920 := by
  obtain ⟨n, rfl⟩ : ∃ n : Nat, i = (n : Int) := ⟨i.toNat, by omega⟩
  have hn : n < 10 ^ 20 := by have : (10 : Nat) ^ 20 = 100000000000000000000 := by decide
                              omega
  refine ⟨?_, ?_⟩
  · have := numS_le (n := n) (k := 20) (by decide) hn
    unfold numS at this
    rwa [Array.length_toList] at this
  · rw [Int.natAbs_natCast]
    rcases Nat.eq_zero_or_pos n with h | h
    · rw [h]; decide
    · refine (Nat.log2_lt (by omega)).mpr (Nat.lt_of_lt_of_le (show n < 2 ^ 64 from ?_) (Nat.pow_le_pow_right (by decide) (by decide)))
      have : (2 : Nat) ^ 64 = 18446744073709551616 := by decide
      omega
def costsK (ss : List (Int × Int)) : List (Int × Int) := ss.flatMap fun p => (splitC p.2).map fun c => (p.1, c)
theorem costsK_app (a b : List (Int × Int)) : costsK (a ++ b) = costsK a ++ costsK b := List.flatMap_append
theorem costsK_cons (p : Int × Int) (b : List (Int × Int)) : costsK (p :: b) = ((splitC p.2).map fun c => (p.1, c)) ++ costsK b := List.flatMap_cons
theorem repl_sum (n : Nat) (c : Int) : (List.replicate n c).sum = n * c := by
  induction n with
  | zero => simp
  | succ n ih => rw [List.replicate_succ, List.sum_cons, ih, Int.natCast_succ, Int.add_mul, Int.one_mul, Int.add_comm]
theorem split_sum {t : Int} (h : 0 ≤ t) : (splitC t).sum = t := by
  unfold splitC
  rw [List.sum_append, repl_sum]
  have h1 := Int.mul_ediv_add_emod t 1000
  have h2 : ((t / 1000).toNat : Int) = t / 1000 := Int.toNat_of_nonneg (by omega)
  rw [h2]
  split
  · simp; omega
  · simp; omega
theorem split_mem {t c : Int} (h : c ∈ splitC t) : 1 ≤ c ∧ c ≤ 1000 := by
  unfold splitC at h
  rcases List.mem_append.mp h with h | h
  · have := List.eq_of_mem_replicate h; omega
  · split at h
    · rw [List.mem_singleton] at h; omega
    · cases h
theorem split_ne {t : Int} (h : 1 ≤ t) : splitC t ≠ [] := fun e => by
  have := split_sum (t := t) (by omega)
  rw [e] at this
  simp at this; omega
theorem costs_sum {ss : List (Int × Int)} (h : ∀ p ∈ ss, 0 ≤ p.2) : ((costsK ss).map (·.2)).sum = (ss.map (·.2)).sum := by
  induction ss with
  | nil => rfl
  | cons p r ih =>
    rw [costsK_cons, List.map_append, List.sum_append, List.map_map, ih fun q hq => h q (List.mem_cons_of_mem _ hq), List.map_cons, List.sum_cons]
    have e : List.map ((fun x : Int × Int => x.2) ∘ fun c => (p.1, c)) (splitC p.2) = splitC p.2 := by
      rw [show ((fun x : Int × Int => x.2) ∘ fun c => (p.1, c)) = id from rfl, List.map_id]
    rw [e, split_sum (h p List.mem_cons_self)]
theorem costs_mem {ss : List (Int × Int)} {q : Int × Int} (h : q ∈ costsK ss) : 1 ≤ q.2 ∧ q.2 ≤ 1000 ∧ ∃ p ∈ ss, p.1 = q.1 := by
  obtain ⟨p, hp, hq⟩ := List.mem_flatMap.mp h
  obtain ⟨c, hc, rfl⟩ := List.mem_map.mp hq
  have := split_mem hc
  exact ⟨this.1, this.2, p, hp, rfl⟩
theorem len_le_sum {xs : List (Int × Int)} (h : ∀ q ∈ xs, 1 ≤ q.2) : (xs.length : Int) ≤ (xs.map (·.2)).sum := by
  induction xs with
  | nil => simp
  | cons q r ih =>
    have h1 := h q List.mem_cons_self
    have h2 := ih fun x hx => h x (List.mem_cons_of_mem _ hx)
    rw [List.length_cons, List.map_cons, List.sum_cons]
    omega
theorem rng_sum (n : Nat) (f : Nat → Int) (c : Int) : (((List.range n).map fun k => (f k, c)).map fun p : Int × Int => p.2).sum = n * c := by
  rw [List.map_map]
  have e : List.map ((fun p : Int × Int => p.2) ∘ fun k => (f k, c)) (List.range n) = List.replicate n c := by
    rw [show ((fun p : Int × Int => p.2) ∘ fun k => (f k, c)) = fun _ => c from rfl, List.map_const', List.length_range]
  rw [e, repl_sum]
theorem sums_sum {wd : Wd} {a b m : Int} (hb : 1 ≤ b) (hm : 1 ≤ m) (ha : wd ≠ .gap → 0 < a) : ((sumsK wd a b m).map (·.2)).sum = mostW wd a b m := by
  have p0 : 0 ≤ (m + b - 1) / b := Int.ediv_nonneg (by omega) (by omega)
  have q0 : 0 ≤ (m - 1 + b - 1) / b := Int.ediv_nonneg (by omega) (by omega)
  have r0 : 0 ≤ (m - 1) / b := Int.ediv_nonneg (by omega) (by omega)
  cases wd
  · unfold sumsK mostW
    rw [rng_sum, Int.toNat_of_nonneg p0, Int.mul_comm]
  · unfold sumsK mostW
    rw [List.map_cons, List.sum_cons, rng_sum, Int.toNat_of_nonneg q0]
    show a + _ = a * (1 + _)
    rw [Int.mul_add, Int.mul_one, Int.mul_comm]
  · have := ha (by simp)
    unfold sumsK mostW
    rw [List.map_cons, List.sum_cons, rng_sum, Int.toNat_of_nonneg r0]
    show a + _ * 1 = if a > 0 then _ else 0
    rw [if_pos (by omega), Int.mul_one]
  · unfold sumsK mostW
    rw [rng_sum, Int.toNat_of_nonneg p0, Int.mul_comm]
theorem sums_pos {wd : Wd} {a b m : Int} (ha : wd ≠ .gap → 0 < a) : ∀ p ∈ sumsK wd a b m, 1 ≤ p.2 := by
  intro p hp
  cases wd
  · have := ha (by simp)
    unfold sumsK at hp
    obtain ⟨k, _, rfl⟩ := List.mem_map.mp hp
    show 1 ≤ a; omega
  · have := ha (by simp)
    unfold sumsK at hp
    rcases List.mem_cons.mp hp with rfl | hp
    · show 1 ≤ a; omega
    · obtain ⟨k, _, rfl⟩ := List.mem_map.mp hp
      show 1 ≤ a; omega
  · have := ha (by simp)
    unfold sumsK at hp
    rcases List.mem_cons.mp hp with rfl | hp
    · show 1 ≤ a; omega
    · obtain ⟨k, _, rfl⟩ := List.mem_map.mp hp
      show (1 : Int) ≤ 1; omega
  · unfold sumsK at hp
    obtain ⟨k, _, rfl⟩ := List.mem_map.mp hp
    show (1 : Int) ≤ 1000; omega
theorem most_pos {wd : Wd} {a b m : Int} (hb : 1 ≤ b) (hm : 1 ≤ m) (h : mostW wd a b m ≠ 0) (ha0 : 0 ≤ a) : wd ≠ .gap → 0 < a := by
  intro hw
  rcases Int.lt_or_eq_of_le ha0 with z | z
  · exact z
  · exfalso
    apply h
    subst z
    cases wd
    · show 0 * _ = (0 : Int); rw [Int.zero_mul]
    · show 0 * _ = (0 : Int); rw [Int.zero_mul]
    · show (if (0 : Int) > 0 then 0 + (m - 1) / b else 0) = (0 : Int); rfl
    · exact absurd rfl hw
theorem len_costs {wd : Wd} {a b m : Int} (hb : 1 ≤ b) (hm : 1 ≤ m) (ha0 : 0 ≤ a) (h : mostW wd a b m ≠ 0) : ((costsK (sumsK wd a b m)).length : Int) ≤ mostW wd a b m := by
  have ha := most_pos hb hm h ha0
  rw [← sums_sum hb hm ha, ← costs_sum fun p hp => by have := sums_pos ha p hp; omega]
  exact len_le_sum fun q hq => (costs_mem hq).1
theorem sum_le {wd : Wd} {a b m : Int} (hb : 1 ≤ b) (hm : 1 ≤ m) (ha : wd ≠ .gap → 0 < a) : ∀ p ∈ sumsK wd a b m, p.2 ≤ mostW wd a b m := by
  intro p hp
  rw [← sums_sum hb hm ha]
  have hpos := sums_pos (b := b) (m := m) ha
  generalize sumsK wd a b m = ss at hp hpos
  induction ss with
  | nil => cases hp
  | cons q r ih =>
    rw [List.map_cons, List.sum_cons]
    have hq := hpos q List.mem_cons_self
    have hr := len_le_sum fun x hx => hpos x (List.mem_cons_of_mem _ hx)
    rcases List.mem_cons.mp hp with rfl | hp
    · omega
    · have := ih hp fun x hx => hpos x (List.mem_cons_of_mem _ hx)
      omega
def kN (k : Nat) : Str := "k" ++ ((toString (k : Int) : String) : Str)
def entL (g : Str) (n : Nat) (p : Int × Int) : List D := [.str "ask", .str (kN n), .str g, .int p.2, .int p.1]
def entsK (g : Str) (cs : List (Int × Int)) : List (List D) := cs.mapIdx (entL g)
def grpOf : List Str → Str
  | [] => "any"
  | g :: _ => g
def rowW (wd : Wd) (gs : List Str) (a b m : Int) : List (List D) := if mostW wd a b m = 0 then [] else entsK (grpOf gs) (costsK (sumsK wd a b m))
theorem entsK_snoc (g : Str) (cs : List (Int × Int)) (p : Int × Int) : entsK g (cs ++ [p]) = entsK g cs ++ [entL g cs.length p] := List.mapIdx_concat
structure Gr (K : PySem.W.Frag) (mg : Str → Option Value) : Prop where
  gb : Gb K mg
  row : ∃ t, mg "MOST_ROW_COST" = some (.int 10000 t)
  any : ∃ t, mg "A_GROUP" = some (.str "any" t)
section
variable {P : Program} {w : World} {K : PySem.W.Frag} {mg : Str → Option Value} {base : Heap}
abbrev sFr : Stmt := top 27
abbrev nFr : List Str := ["limit", "moments", "greatest", "group", "row", "moment", "total", "cost"]
theorem scFr : FnScope nFr ["limit", "moments"] (defScope sFr) := ⟨rfl, rfl, rfl, by decide +kernel, rfl, by decide +kernel, by decide +kernel⟩
def gFr : List D → (D → Prop) → Prop := fun ds P => (∃ (wd : Wd) (gs : List Str) (a b m : Int), ds = [limW wd gs a b, .int m] ∧ 0 ≤ a ∧ a ≤ 1000000 ∧ 1 ≤ b ∧ b ≤ 1000000 ∧ 1 ≤ m ∧ m ≤ 1000000 ∧ mostW wd a b m ≤ 10000 ∧ P = fun d => d = .lst ((rowW wd gs a b m).map D.tup)) ∨ (∃ (gs : List Str) (a m : Int), ds = [heldL gs a, .int m] ∧ a ≤ 0 ∧ P = fun d => d = .lst []) ∨ (∃ (shs : List Sh) (a m : Int), ds = [poolN "pool1" shs a, .int m] ∧ shs.length ≤ 8 ∧ shs.any (canSh (a - ownS shs)) = false ∧ P = fun d => d = .lst [])
theorem ok_fr {f : Addr} {fd : FuncData} (F : Fun K "fullest_row" "fullest_row" sFr f fd) (T : Bt mg) (G : Gr K mg) (cM : PFn P w K mg base 3 "most_within" 2 gMost) (cF : PFn P w K mg base 3 "fullest_sums" 2 gFs) (cC : PFn P w K mg base 1 "split_cost" 1 gSc) : FnOk P w K mg base CX0 4 f fd ["limit", "moments"] (spP K 2 gFr) := by
  refine fn_pure F scFr (by rintro ds Pd (⟨_, _, _, _, _, rfl, _⟩ | ⟨_, _, _, rfl, _⟩ | ⟨_, _, _, rfl, _⟩) <;> rfl) fun cdv A outer s H E ds Pd hr hG => ?_
  have nd := scFr.nd
  rcases hG with ⟨wd, gs, a, b, m, rfl, ha1, ha2, hb1, hb2, hm1, hm2, hmo, rfl⟩ | ⟨gs, a, m, rfl, ha, rfl⟩ | ⟨shs, a, m, rfl, h8, hc, rfl⟩
  · refine jss_cons (js_set (i := 2) (j_call cM hr (ja_cons (jv 0 rfl) (ja_cons (jv 1 rfl) ja_nil)) (.inl ⟨wd, gs, a, b, m, rfl, ha1, by omega, hb1, by omega, rfl⟩) (by intro _ h; exact h)) ?_ nd)
    refine jss_cons (js_ifF (jt_w (jw_or (t := false) (u := false) (JT.to (jt_cm (jv 2 rfl) j_non cd_isN) rfl) (fun _ => jw_or1 (JT.to (jt_cm (jv 2 rfl) (j_gI G.row) cd_gtI) (decide_eq_false (by omega)))))) (jss_nil ?_))
    by_cases hz : mostW wd a b m = 0
    · refine jss_cons (js_ifT (JT.to (jt_cm (jv 2 rfl) j_int cd_eqI) (decide_eq_true hz)) (jss_cons (js_ret (j_lst ja_nil) ?_)))
      · show D.lst [] = D.lst _
        unfold rowW
        rw [if_pos hz]; rfl
    refine jss_cons (js_ifF (JT.to (jt_cm (jv 2 rfl) j_int cd_eqI) (decide_eq_false hz)) (jss_nil ?_))
    have ha := most_pos hb1 hm1 hz ha1
    have hlen := len_costs hb1 hm1 ha1 hz
    have hle := sum_le hb1 hm1 ha
    have hpos := sums_pos (b := b) (m := m) ha
    have e0 : D.lst ((rowW wd gs a b m).map D.tup) = D.lst ((entsK (grpOf gs) (costsK (sumsK wd a b m))).map D.tup) := by
      unfold rowW
      rw [if_neg hz]
    rw [e0]
    refine jss_cons (js_set (i := 3) (d := .str (grpOf gs)) ?_ ?_ nd)
    · cases gs with
      | nil => exact J.to (j_ifExp (d1 := .non) (jt_truth (t := false) (j_ix (jv 0 rfl) j_int (ixd_T rfl)) rfl) (fun h => by cases h) (fun _ => j_gS G.any)) rfl
      | cons g r => exact J.to (j_ifExp (d2 := .non) (jt_truth (t := true) (j_ix (jv 0 rfl) j_int (ixd_T rfl)) rfl) (fun _ => j_ix (j_ix (jv 0 rfl) j_int (ixd_T rfl)) j_int (ixd_T (d := .str g) (by unfold atI ixN; rw [if_pos (by decide), if_pos (by rw [List.map_cons, List.length_cons]; omega)]; rfl))) (fun h => by cases h)) rfl
    refine jss_cons (js_setN (i := 4) (jn_lst ja_nil) ?_ nd)
    generalize hss : sumsK wd a b m = ss at hle hpos hlen ⊢
    refine jss_cons (js_for (pat := .tp [5, 6]) (fun k ρ => ∃ o5 o6 o7, ρ = [some (.fz (limW wd gs a b)), some (.fz (.int m)), some (.fz (.int (mostW wd a b m))), some (.fz (.str (grpOf gs))), some (.ow (.lst ((entsK (grpOf gs) (costsK (ss.take k))).map D.tup))), o5, o6, o7])
      (ji_list (j_call (d := .lst (ss.map pairI)) cF hr (ja_cons (jv 0 rfl) (ja_cons (jv 1 rfl) ja_nil)) ⟨wd, gs, a, b, m, rfl, ha1, ha2, hb1, hb2, hm1, hm2, rfl⟩ (by intro _ h; rw [hss] at h; exact h))) (pg_tup rfl (pgs_cons (pg_name nd rfl (Or.inl rfl)) (pgs_cons (pg_name nd rfl (Or.inl rfl)) pgs_nil))) ⟨_, _, _, rfl⟩ ?_ ?_ PassesOwn.never)
    · rintro k d ρ hd ⟨o5, o6, o7, rfl⟩
      rw [List.getElem?_map] at hd
      cases hk : ss[k]? with
      | none => rw [hk] at hd; cases hd
      | some p =>
        rw [hk] at hd; cases hd
        have hp := List.mem_of_getElem? hk
        have h1 := hpos p hp
        have h2 := hle p hp
        obtain ⟨hkl, hke⟩ := List.getElem?_eq_some_iff.mp hk
        have etk : ss.take (k + 1) = ss.take k ++ [p] := by rw [List.take_add_one, hk]; rfl
        have edr : ss = ss.take k ++ p :: ss.drop (k + 1) := by rw [← hke, ← List.drop_eq_getElem_cons hkl, List.take_append_drop]
        have elen : (costsK ss).length = (costsK (ss.take k)).length + ((splitC p.2).length + (costsK (ss.drop (k + 1))).length) := by
          conv => lhs; rw [edr]
          rw [costsK_app, costsK_cons, List.length_append, List.length_append, List.length_map]
        refine ⟨_, rfl, ?_⟩
        refine jss_cons (js_each (i := 7) (splitC p.2) D.int (fun j ρ => ∃ o7, ρ = [some (.fz (limW wd gs a b)), some (.fz (.int m)), some (.fz (.int (mostW wd a b m))), some (.fz (.str (grpOf gs))), some (.ow (.lst ((entsK (grpOf gs) (costsK (ss.take k) ++ ((splitC p.2).take j).map fun c => (p.1, c))).map D.tup))), some (.fz (.int p.1)), some (.fz (.int p.2)), o7])
          (ji_list (j_call cC hr (ja_cons (jv 6 rfl) ja_nil) ⟨p.2, rfl, by omega, by omega, rfl⟩ (by intro _ h; exact h))) nd ⟨_, by rw [List.take_zero, List.map_nil, List.append_nil]; rfl⟩ ?_ ?_)
        · rintro j c _ hj ⟨o7, rfl⟩
          have hjl : j < (splitC p.2).length := (List.getElem?_eq_some_iff.mp hj).1
          have ej : (splitC p.2).take (j + 1) = (splitC p.2).take j ++ [c] := by rw [List.take_add_one, hj]; rfl
          have hcl : (costsK (ss.take k) ++ ((splitC p.2).take j).map fun c => (p.1, c)).length = (costsK (ss.take k)).length + j := by
            rw [List.length_append, List.length_map, List.length_take]; omega
          generalize hcs : costsK (ss.take k) ++ ((splitC p.2).take j).map (fun c => (p.1, c)) = cs at hcl ⊢
          have hcl2 : cs.length < 10000 := by omega
          have hel : (entsK (grpOf gs) cs).length = cs.length := by unfold entsK; rw [List.length_mapIdx]
          have lenD1 : lenD (.lst ((entsK (grpOf gs) cs).map D.tup)) = some cs.length := by show some _ = _; rw [List.length_map, hel]
          have hs := nT_ok (i := (cs.length : Int)) (by omega) (by omega)
          refine jss_cons (js_appendT (i := 4) rfl (ja_cons j_str (ja_cons (j_fs (z := kN cs.length) (.cons j_str (.cons (j_fmtI (jb_len T (ja_cons (jv 4 rfl) ja_nil) lenD1) hs.2) .nil)) ?_ ?_) (ja_cons (jv 3 rfl) (ja_cons (jv 7 rfl) (ja_cons (jv 5 rfl) ja_nil))))) rfl (show 5 ≤ sizeLine by decide) (by rw [List.length_map, hel]; exact lt_sz (by omega)) (jss_nil ⟨some (.fz (.int c)), ?_⟩))
          · unfold kN joinS joinS joinS
            rfl
          · have e1 : ("k" : Str).length = 1 := by decide +kernel
            unfold kN
            rw [app_len, e1]
            exact le_sz (by have := hs.1; unfold nT at this; omega)
          · rw [ej, List.map_append, ← List.append_assoc, hcs, List.map_singleton, entsK_snoc, List.map_append]; rfl
        · rintro _ ⟨o7, rfl⟩
          refine jss_nil ⟨some (.fz (.int p.1)), some (.fz (.int p.2)), o7, ?_⟩
          rw [etk, costsK_app, List.take_length, show costsK [p] = _ from costsK_cons p [], show costsK [] = [] from rfl, List.append_nil]
    · rintro _ ⟨o5, o6, o7, rfl⟩
      rw [List.length_map, List.take_length]
      exact jss_cons (js_ret (jv 4 rfl) rfl)
  · have e : (if decide (0 < a) = true then (none : Option Int) else some 0) = some 0 := by rw [if_neg (by simpa using ha)]
    refine jss_cons (js_set (i := 2) (d := .int 0) (j_call cM hr (ja_cons (jv 0 rfl) (ja_cons (jv 1 rfl) ja_nil)) (.inr (.inl ⟨gs, a, m, rfl, rfl⟩)) (by intro _ h; rw [e] at h; exact h)) ?_ nd)
    refine jss_cons (js_ifF (jt_w (jw_or (t := false) (u := false) (JT.to (jt_cm (jv 2 rfl) j_non cd_isN) rfl) (fun _ => jw_or1 (JT.to (jt_cm (jv 2 rfl) (j_gI G.row) cd_gtI) (decide_eq_false (by omega)))))) (jss_nil ?_))
    exact jss_cons (js_ifT (JT.to (jt_cm (jv 2 rfl) j_int cd_eqI) (decide_eq_true rfl)) (jss_cons (js_ret (j_lst ja_nil) rfl)))
  · refine jss_cons (js_set (i := 2) (d := .int 0) (j_call cM hr (ja_cons (jv 0 rfl) (ja_cons (jv 1 rfl) ja_nil)) (.inr (.inr ⟨shs, a, m, rfl, h8, rfl⟩)) (by intro _ h; rw [hc] at h; exact h)) ?_ nd)
    refine jss_cons (js_ifF (jt_w (jw_or (t := false) (u := false) (JT.to (jt_cm (jv 2 rfl) j_non cd_isN) rfl) (fun _ => jw_or1 (JT.to (jt_cm (jv 2 rfl) (j_gI G.row) cd_gtI) (decide_eq_false (by omega)))))) (jss_nil ?_))
    exact jss_cons (js_ifT (JT.to (jt_cm (jv 2 rfl) j_int cd_eqI) (decide_eq_true rfl)) (jss_cons (js_ret (j_lst ja_nil) rfl)))
end
end Toy

namespace Toy
open PySem PyProof.Rows L2 Pf
theorem kN_cps (k : Nat) : (kN k).cps.toList = 107 :: numS (k : Int) := by
  have h : (kN k).cps.toList = ("k" : Str).cps.toList ++ ((toString (k : Int) : String) : Str).cps.toList := TL.tl_append _ _
  rw [h, show ("k" : Str).cps.toList = [107] from by decide +kernel]
  rfl
theorem kN_inj {a b : Nat} (h : kN a = kN b) : a = b := by
  have e := congrArg (fun z : Str => z.cps.toList) h
  simp only [kN_cps] at e
  injection e with _ e
  have h1 := numS_val a
  rw [e, numS_val b] at h1
  exact h1.symm
theorem kN_ky {k : Nat} (h : k < 100000) : isKy (kN k) = true := by
  have hl := numS_le (k := 5) (by decide) h
  have hs : ∀ c ∈ (kN k).cps.toList, kySign c = true := by
    intro c hc
    rw [kN_cps] at hc
    unfold kySign nmSign
    rcases List.mem_cons.mp hc with rfl | hc
    · decide
    · have := numS_dig k c hc
      rw [decide_eq_true this.1, decide_eq_true this.2]
      simp
  have hlen : (kN k).length = 1 + (numS (k : Int)).length := by
    show (kN k).cps.size = _
    rw [← Array.length_toList, kN_cps, List.length_cons]
    omega
  unfold isKy
  rw [decide_eq_true (by omega), decide_eq_true (by omega)]
  exact List.all_eq_true.mpr hs
theorem nm_len {z : Str} (h : isNm z = true) : z.length ≤ 12 := by
  unfold isNm at h
  simp only [Bool.and_eq_true, decide_eq_true_eq] at h
  omega
theorem ky_len {z : Str} (h : isKy z = true) : z.length ≤ 40 := by
  unfold isKy at h
  simp only [Bool.and_eq_true, decide_eq_true_eq] at h
  omega
theorem ent_ok {g : Str} (hg : isNm g = true) {n : Nat} (hn : n < 100000) {p : Int × Int} : OkE (entL g n p) := by
  refine ⟨?_, by show 5 ≤ 100; decide, _, _, rfl⟩
  show (part (.str "ask") && (part (.str (kN n)) && (part (.str g) && (true && (true && true))))) = true
  rw [show part (.str "ask") = true from by decide +kernel, show part (.str (kN n)) = true from decide_eq_true (by have := ky_len (kN_ky hn); omega), show part (.str g) = true from decide_eq_true (by have := nm_len hg; omega)]
  rfl
structure GoodC (cs : List (Int × Int)) : Prop where
  g : ∀ p ∈ cs, 0 ≤ p.1 ∧ p.1 ≤ 1000000000 ∧ 1 ≤ p.2 ∧ p.2 ≤ 1000
  asc : cs.Pairwise fun x y => x.1 ≤ y.1
  few : cs.length ≤ 10000
theorem chk_from {g : Str} (hg : isNm g = true) : ∀ (cs : List (Int × Int)) (i : Nat) (m : Int) (A : List Str) (k : Nat), i + cs.length ≤ 10000 → (∀ p ∈ cs, m ≤ p.1) → (∀ p ∈ cs, 0 ≤ p.1 ∧ p.1 ≤ 1000000000 ∧ 1 ≤ p.2 ∧ p.2 ≤ 1000) → (cs.Pairwise fun x y => x.1 ≤ y.1) → (∀ z ∈ A, ∃ n, n < i ∧ z = kN n) → chkAt m A (cs.mapIdx fun n p => entL g (n + i) p) k = none
  | [], _, _, _, _, _, _, _, _, _ => rfl
  | p :: r, i, m, A, k, hl, hm, hp, pw, hA => by
    rw [List.mapIdx_cons]
    have hpp := hp p List.mem_cons_self
    have hmm := hm p List.mem_cons_self
    rw [List.length_cons] at hl
    have hnot : kN (0 + i) ∉ A := fun hz => by
      obtain ⟨n, hn, e⟩ := hA _ hz
      have := kN_inj e
      omega
    have gk : goesL (entL g (0 + i) p) m A = true := by
      show (((decide (("ask" : Str) = "ask") && ((isKy (kN (0 + i)) && (isNm g && (decide (1 ≤ p.2) && decide (p.2 ≤ 1000)))) && (decide (0 ≤ p.1) && decide (p.1 ≤ 1000000000))))) && (!decide (p.1 < m) && (decide (kN (0 + i) ∈ A) == decide (("ask" : Str) = "release")))) = true
      rw [kN_ky (by omega), hg, decide_eq_true (show (1 : Int) ≤ p.2 by omega), decide_eq_true (show p.2 ≤ 1000 by omega), decide_eq_true (show 0 ≤ p.1 by omega), decide_eq_true (show p.1 ≤ 1000000000 by omega), decide_eq_false (show ¬ p.1 < m by omega), decide_eq_false hnot, show decide (("ask" : Str) = "release") = false from by decide +kernel]
      rfl
    show (if goesL (entL g (0 + i) p) m A = true then chkAt p.1 (A ++ [kN (0 + i)]) (r.mapIdx fun n q => entL g (n + 1 + i) q) (k + 1) else some k) = none
    rw [if_pos gk, show (fun (n : Nat) (q : Int × Int) => entL g (n + 1 + i) q) = fun n q => entL g (n + (i + 1)) q from by funext n q; rw [show n + 1 + i = n + (i + 1) by omega]]
    rw [List.pairwise_cons] at pw
    refine chk_from hg r (i + 1) p.1 (A ++ [kN (0 + i)]) (k + 1) (by omega) (fun q hq => pw.1 q hq) (fun q hq => hp q (List.mem_cons_of_mem _ hq)) pw.2 fun z hz => ?_
    rcases List.mem_append.mp hz with h | h
    · obtain ⟨n, hn, e⟩ := hA z h
      exact ⟨n, by omega, e⟩
    · rw [List.mem_singleton] at h
      exact ⟨i, by omega, by rw [h, Nat.zero_add]⟩
theorem chk_row {g : Str} (hg : isNm g = true) {cs : List (Int × Int)} (h : GoodC cs) : chkAt 0 [] (entsK g cs) 0 = none := chk_from hg cs 0 0 [] 0 (by have := h.few; omega) (fun p hp => (h.g p hp).1) h.g h.asc (fun z hz => absurd hz List.not_mem_nil)
theorem ents_ok {g : Str} (hg : isNm g = true) {cs : List (Int × Int)} (h : cs.length ≤ 10000) : ∀ e ∈ entsK g cs, OkE e := fun e he => by
  unfold entsK at he
  rw [List.mem_mapIdx] at he
  obtain ⟨i, hi, rfl⟩ := he
  exact ent_ok hg (by omega)
theorem grp_nm {gs : List Str} (h : OkGs gs) : isNm (grpOf gs) = true := by
  cases gs with
  | nil => show isNm "any" = true; decide +kernel
  | cons g r => exact (Bool.and_eq_true .. ▸ h.2 g List.mem_cons_self : strOk g = true ∧ isNm g = true).2
theorem most_le {wd : Wd} {a b m : Int} (ha : 0 ≤ a) (ha2 : a ≤ 1000000) (hb : 1 ≤ b) (hb2 : b ≤ 1000000) (hm : 1 ≤ m) (hm2 : m ≤ 1000000) : 0 ≤ mostW wd a b m ∧ mostW wd a b m ≤ 3000000000000 := by
  obtain ⟨p0, p1⟩ := ediv_le (m := m + b - 1) (b := b) (n := 2000000) (by omega) hb (by omega)
  obtain ⟨q0, q1⟩ := ediv_le (m := m - 1 + b - 1) (b := b) (n := 2000000) (by omega) hb (by omega)
  obtain ⟨r0, r1⟩ := ediv_le (m := m - 1) (b := b) (n := 2000000) (by omega) hb (by omega)
  cases wd
  · exact ⟨Int.mul_nonneg ha p0, Int.le_trans (Int.mul_le_mul ha2 p1 p0 (by decide)) (by decide)⟩
  · exact ⟨Int.mul_nonneg ha (by omega), Int.le_trans (Int.mul_le_mul ha2 (show 1 + (m - 1 + b - 1) / b ≤ 2000001 by omega) (by omega) (by decide)) (by decide)⟩
  · show 0 ≤ (if a > 0 then a + (m - 1) / b else 0) ∧ (if a > 0 then a + (m - 1) / b else 0) ≤ 3000000000000
    split <;> omega
  · show 0 ≤ 1000 * ((m + b - 1) / b) ∧ 1000 * ((m + b - 1) / b) ≤ 3000000000000
    omega
theorem fs2_len (x y : Str) : (joinS Str.empty [x, y]).length = x.length + y.length := by
  show ((Str.empty ++ x) ++ y).length = _
  rw [app_len, app_len]
  show 0 + _ + _ = _
  omega
theorem rep_ad_eq {K : PySem.W.Frag} {W : Hp} {a : Addr} {v : V} (h : Rep K W (adD a) v) : v = .ref a := by cases h; rfl
abbrev eTl (C : Addr) : Er := ⟨.ref C, none⟩
structure Lt (K : PySem.W.Frag) (mg : Str → Option Value) (CX LE : Addr) : Prop where
  gX : mg "TooLarge" = some (.ref CX)
  gE : mg "LimitError" = some (.ref LE)
  ex : PySem.W.exmOne K (.ref CX) (.ref CX) = some true
  x : ExcC K CX
  kE : PySem.W.kitOne K (.ref CX) (.ref LE) = some true
section
variable {P : Program} {w : World} {K : PySem.W.Frag} {mg : Str → Option Value} {base : Heap}
def TooBig (ds : List D) : Prop := (∃ (wd : Wd) (gs : List Str) (a b m : Int), ds = [limW wd gs a b, .int m] ∧ 0 ≤ a ∧ a ≤ 1000000 ∧ 1 ≤ b ∧ b ≤ 1000000 ∧ 1 ≤ m ∧ m ≤ 1000000 ∧ 10000 < mostW wd a b m) ∨ (∃ (gs : List Str) (a m : Int), ds = [heldL gs a, .int m] ∧ 0 < a) ∨ (∃ (shs : List Sh) (a m : Int), ds = [poolN "pool1" shs a, .int m] ∧ shs.length ≤ 8 ∧ shs.any (canSh (a - ownS shs)) = true)
def gFrT (CX : Addr) : List D → (D → Prop) → (Er → Prop) → Prop := fun ds P R => TooBig ds ∧ (P = fun _ => False) ∧ R = fun er => er = eTl CX
theorem ok_frT {CX : Addr} {f : Addr} {fd : FuncData} (F : Fun K "fullest_row" "fullest_row" sFr f fd) (T : Bt mg) (G : Gr K mg) (O : OwnErr K mg "TooLarge" CX) (cM : PFn P w K mg base 3 "most_within" 2 gMost) : FnOk P w K mg base (L2.CX P w) 4 f fd ["limit", "moments"] (spE K 2 (gFrT CX)) := by
  refine fn_err F scFr (by rintro ds Pd R ⟨⟨_, _, _, _, _, rfl, _⟩ | ⟨_, _, _, rfl, _⟩ | ⟨_, _, _, rfl, _⟩, _⟩ <;> rfl) fun cdv A outer s H E ds Pd R hr hG ps => ?_
  obtain ⟨hT, rfl, rfl⟩ := hG
  have nd := scFr.nd
  have e0 : ("the greatest cost is " : Str).length ≤ 30 := by decide +kernel
  rcases hT with ⟨wd, gs, a, b, m, rfl, ha1, ha2, hb1, hb2, hm1, hm2, hmo⟩ | ⟨gs, a, m, rfl, ha⟩ | ⟨shs, a, m, rfl, h8, hc⟩
  · have hb := most_le (wd := wd) ha1 ha2 hb1 hb2 hm1 hm2
    have hs := nT_ok (i := mostW wd a b m) hb.1 (by omega)
    refine jss_cons (js_set (i := 2) (j_call cM hr (ja_cons (jv 0 rfl) (ja_cons (jv 1 rfl) ja_nil)) (.inl ⟨wd, gs, a, b, m, rfl, ha1, by omega, hb1, by omega, rfl⟩) (by intro _ h; exact h)) ?_ nd)
    refine jss_cons (js_ifT (jt_w (jw_or (t := false) (u := true) (JT.to (jt_cm (jv 2 rfl) j_non cd_isN) rfl) (fun _ => jw_or1 (JT.to (jt_cm (jv 2 rfl) (j_gI G.row) cd_gtI) (decide_eq_true (by omega)))))) ?_)
    exact jss_cons (js_raise (jmk_own O (ja_cons (j_fs (.cons j_str (.cons (j_fmtI (jv 2 rfl) hs.2) .nil)) rfl (by rw [fs2_len]; exact le_sz (by have := hs.1; unfold nT at this; omega))) ja_nil)) rfl)
  · have e : (if decide (0 < a) = true then (none : Option Int) else some 0) = none := by rw [if_pos (decide_eq_true ha)]
    refine jss_cons (js_set (i := 2) (d := .non) (j_call cM hr (ja_cons (jv 0 rfl) (ja_cons (jv 1 rfl) ja_nil)) (.inr (.inl ⟨gs, a, m, rfl, rfl⟩)) (by intro _ h; rw [e] at h; exact h)) ?_ nd)
    refine jss_cons (js_ifT (jt_w (jw_or (t := true) (u := true) (JT.to (jt_cm (jv 2 rfl) j_non cd_isN) rfl) (fun h => by cases h))) ?_)
    exact jss_cons (js_raise (jmk_own O (ja_cons (j_fs (.cons j_str (.cons (j_fmtN (jv 2 rfl)) .nil)) rfl (by decide +kernel)) ja_nil)) rfl)
  · refine jss_cons (js_set (i := 2) (d := .non) (j_call cM hr (ja_cons (jv 0 rfl) (ja_cons (jv 1 rfl) ja_nil)) (.inr (.inr ⟨shs, a, m, rfl, h8, rfl⟩)) (by intro _ h; rw [hc] at h; exact h)) ?_ nd)
    refine jss_cons (js_ifT (jt_w (jw_or (t := true) (u := true) (JT.to (jt_cm (jv 2 rfl) j_non cd_isN) rfl) (fun h => by cases h))) ?_)
    exact jss_cons (js_raise (jmk_own O (ja_cons (j_fs (.cons j_str (.cons (j_fmtN (jv 2 rfl)) .nil)) rfl (by decide +kernel)) ja_nil)) rfl)
def tooD : D := .tup [.str "TooLarge", .bl true]
abbrev sMd : Stmt := top 36
theorem scMd : FnScope ["limit", "moments", "e"] ["limit", "moments"] (defScope sMd) := ⟨rfl, rfl, rfl, by decide +kernel, rfl, by decide +kernel, by decide +kernel⟩
def gMd : List D → (D → Prop) → Prop := fun ds P => (TooBig ds ∧ P = fun d => d = tooD) ∨ gFr ds P
theorem ok_md {CX LE : Addr} {f : Addr} {fd : FuncData} (F : Fun K "_law_made" "_law_made" sMd f fd) (T : Bt mg) (c : Lt K mg CX LE) (cG : PFn P w K mg base 4 "fullest_row" 2 gFr) (cE : EFn P w K mg base 4 "fullest_row" 2 (gFrT CX)) : FnOk P w K mg base CX0 5 f fd ["limit", "moments"] (spP K 2 gMd) := by
  refine fn_pure F scMd (by rintro ds Pd (⟨⟨_, _, _, _, _, rfl, _⟩ | ⟨_, _, _, rfl, _⟩ | ⟨_, _, _, rfl, _⟩, _⟩ | ⟨_, _, _, _, _, rfl, _⟩ | ⟨_, _, _, rfl, _⟩ | ⟨_, _, _, rfl, _⟩) <;> rfl) fun cdv A outer s H E ds Pd hr hG => ?_
  have nd := scMd.nd
  obtain ⟨x, y, rfl⟩ : ∃ x y, ds = [x, y] := by
    rcases hG with ⟨⟨_, _, _, _, _, rfl, _⟩ | ⟨_, _, _, rfl, _⟩ | ⟨_, _, _, rfl, _⟩, _⟩ | ⟨_, _, _, _, _, rfl, _⟩ | ⟨_, _, _, rfl, _⟩ | ⟨_, _, _, rfl, _⟩ <;> exact ⟨_, _, rfl⟩
  refine jss_cons (js_try (HdJ.named (c := .ref CX) (i := 2) ⟨rfl, by decide, .inl c.gX⟩ rfl rfl .nil) (fun pn xe ps => ?_) nd)
  rcases hG with ⟨hT, rfl⟩ | hG
  · refine jss_cons (js_retX (jx_call cE hr (ja_cons (jv 0 rfl) (ja_cons (jv 1 rfl) ja_nil)) ⟨hT, rfl, rfl⟩) (fun _ z => z.elim) (fun er hR => ?_))
    obtain rfl : er = eTl CX := hR
    refine ⟨true, c.ex, fun _ => ⟨by simp, fun a oe d pn2 hz hf hd => ?_⟩, fun h => by cases h⟩
    obtain rfl := hd.no rfl
    exact jss_cons (js_ret (j_tup (ja_cons j_str (ja_cons (j_isE T c.x hz hf (jv 2 rfl) (j_glob (v := .ref LE) c.gE rfl (fun H => rep_ad)) (fun W v h => rep_ad_eq h) (fun u h => h) c.kE) ja_nil))) rfl)
  · exact jss_cons (js_retX (jx_of (R := fun _ => False) (jp_call cG hr (ja_cons (jv 0 rfl) (ja_cons (jv 1 rfl) ja_nil)) hG)) (fun d hd => hd) (fun er z => z.elim))
abbrev sIr : Stmt := top 37
theorem scIr : FnScope ["row"] ["row"] (defScope sIr) := ⟨rfl, rfl, rfl, by decide +kernel, rfl, by decide +kernel, by decide +kernel⟩
def gIr : List D → (D → Prop) → Prop := fun ds P => ∃ E : List (List D), ds = [.lst (E.map D.tup)] ∧ (∀ e ∈ E, OkE e) ∧ E.length ≤ 10000 ∧ chkAt 0 [] E 0 = none ∧ P = fun d => d = .bl true
theorem ok_ir {CX : Addr} {f : Addr} {fd : FuncData} (F : Fun K "_law_is_row" "_law_is_row" sIr f fd) (cC : EFn P w K mg base 5 "check_entries" 1 (Toy.C8.gChk CX)) : FnOk P w K mg base CX0 6 f fd ["row"] (spP K 1 gIr) := by
  refine fn_pure F scIr (by rintro ds Pd ⟨_, rfl, _⟩; rfl) fun cdv A outer s H E0 ds Pd hr hG => ?_
  obtain ⟨E, rfl, hE, hl, hc, rfl⟩ := hG
  refine jss_cons (js_thru (jss_cons (js_drop (d := .non) (j_of (jx_call cC hr (ja_cons (jv 0 rfl) ja_nil) ⟨E, rfl, hE, hl, rfl, rfl⟩) (fun er ⟨k, _, h, _⟩ => by rw [hc] at h; cases h) (fun d h => h.2)) (jss_nil ?_))))
  exact jss_cons (js_ret j_bl rfl)
end
end Toy

namespace Toy
open PySem PyProof.Rows L2 Pf
section
variable {P : Program} {w : World} {K : PySem.W.Frag} {mg : Str → Option Value} {base : Heap}
def isFlow2 (wd : Wd) (d : D) : Prop := ∃ (gs : List Str) (a b : Int), d = limW wd gs a b ∧ OkGs gs ∧ 0 ≤ a ∧ a ≤ 1000000 ∧ 1 ≤ b ∧ b ≤ 1000000
def isPool2 (d : D) : Prop := ∃ (shs : List Sh) (a : Int), d = poolN "pool1" shs a ∧ shs.length ≤ 8
def gLaF : List D → (D → Prop) → Prop := fun ds P => ∃ (wd : Wd) (gs : List Str) (a b : Int) (ns : List Int), ds = [limW wd gs a b, .lst (ns.map D.int), .int 4] ∧ OkGs gs ∧ 0 ≤ a ∧ a ≤ 8 ∧ 1 ≤ b ∧ b ≤ 9 ∧ ns.length = 16 ∧ (∀ n ∈ ns, 0 ≤ n ∧ n < 1009) ∧ P = isFlow2 wd
def gLaH : List D → (D → Prop) → Prop := fun ds P => ∃ (gs : List Str) (a : Int) (ns : List Int), ds = [heldL gs a, .lst (ns.map D.int), .int 4] ∧ OkGs gs ∧ 0 ≤ a ∧ ns.length = 16 ∧ (∀ n ∈ ns, 0 ≤ n ∧ n < 1009) ∧ P = isHeld
def gLaP : List D → (D → Prop) → Prop := fun ds P => ∃ (shs : List Sh) (a : Int) (ns : List Int), ds = [poolN "pool1" shs a, .lst (ns.map D.int), .int 4] ∧ OkSh shs ∧ ns.length = 16 ∧ (∀ n ∈ ns, 0 ≤ n ∧ n < 1009) ∧ P = isPool2
theorem ok_laF {f : Addr} {fd : FuncData} (F : Fun K "_law_larger" "_law_larger" sLarger f fd) (T : Bt mg) : FnOk P w K mg base CX0 1 f fd ["limit", "numbers", "at"] (spP K 3 gLaF) := by
  refine fn_pure F scLarger (by rintro ds Pd ⟨_, _, _, _, _, rfl, _⟩; rfl) fun cdv A outer s H E ds Pd hr hG => ?_
  obtain ⟨wd, gs, a, b, ns, rfl, hgs, ha1, ha2, hb1, hb2, hl, hb, rfl⟩ := hG
  have nd := scLarger.nd
  have q1 := hb _ (getD_mem (ns := ns) (i := (4 + 1 : Int).toNat) (by rw [hl]; decide))
  have q2 := hb _ (getD_mem (ns := ns) (i := (4 + 2 : Int).toNat) (by rw [hl]; decide))
  refine jss_cons (js_if (jt_cm (j_bin (jb_int T (ja_cons (j_ix (jv 1 rfl) (jv 2 rfl) (ixd_I (by omega) (by omega))) ja_nil)) j_int (od_modI (by decide))) j_int cd_neI) (fun _ => ?_) (fun _ => jss_nil ?_))
  · exact jss_cons (js_ret (jv 0 rfl) ⟨gs, a, b, rfl, hgs, by omega, by omega, by omega, by omega⟩)
  refine jss_cons (js_set (i := 3) (j_lst (ja_cons (j_bin j_int (j_bin (jb_int T (ja_cons (j_ix (jv 1 rfl) (j_bin (jv 2 rfl) j_int od_addI) (ixd_I (by omega) (by omega))) ja_nil)) j_int (od_mulI cmulR)) od_addI) (ja_cons (j_bin j_int (j_bin (jb_int T (ja_cons (j_ix (jv 1 rfl) (j_bin (jv 2 rfl) j_int od_addI) (ixd_I (by omega) (by omega))) ja_nil)) j_int (od_mulI cmulR)) od_addI) ja_nil))) ?_ nd)
  cases wd
  ·
    refine jss_cons (js_ifF ((jt_cm (j_ix (jv 0 rfl) j_int (ixd_T rfl)) j_str cd_eqS).to (by decide +kernel)) (jss_nil ?_))
    refine jss_cons (js_ifF ((jt_cm (j_ix (jv 0 rfl) j_int (ixd_T rfl)) j_str cd_eqS).to (by decide +kernel)) (jss_nil ?_))
    refine jss_cons (js_ifF ((jt_cm (j_ix (jv 0 rfl) j_int (ixd_T rfl)) j_str cd_eqS).to (by decide +kernel)) (jss_nil ?_))
    exact jss_cons (js_ret (j_bin (j_sl (jv 0 rfl) jo_none (jo_some j_int) sld_T) (j_tup (ja_cons (j_tup (ja_cons (j_bin (jb_int T (ja_cons (j_ix (jv 1 rfl) (j_bin (jv 2 rfl) j_int od_addI) (ixd_I (by omega) (by omega))) ja_nil)) j_int (od_mulI cmulR)) (ja_cons (j_ix (jv 3 rfl) j_int (ixd_L rfl)) ja_nil))) ja_nil)) (od_addT (ble rfl))) ⟨gs, _, _, rfl, hgs, by omega, by omega, by omega, by omega⟩)
  ·
    refine jss_cons (js_ifF ((jt_cm (j_ix (jv 0 rfl) j_int (ixd_T rfl)) j_str cd_eqS).to (by decide +kernel)) (jss_nil ?_))
    refine jss_cons (js_ifF ((jt_cm (j_ix (jv 0 rfl) j_int (ixd_T rfl)) j_str cd_eqS).to (by decide +kernel)) (jss_nil ?_))
    refine jss_cons (js_ifF ((jt_cm (j_ix (jv 0 rfl) j_int (ixd_T rfl)) j_str cd_eqS).to (by decide +kernel)) (jss_nil ?_))
    exact jss_cons (js_ret (j_bin (j_sl (jv 0 rfl) jo_none (jo_some j_int) sld_T) (j_tup (ja_cons (j_tup (ja_cons (j_bin (jb_int T (ja_cons (j_ix (jv 1 rfl) (j_bin (jv 2 rfl) j_int od_addI) (ixd_I (by omega) (by omega))) ja_nil)) j_int (od_mulI cmulR)) (ja_cons (j_ix (jv 3 rfl) j_int (ixd_L rfl)) ja_nil))) ja_nil)) (od_addT (ble rfl))) ⟨gs, _, _, rfl, hgs, by omega, by omega, by omega, by omega⟩)
  ·
    refine jss_cons (js_ifF ((jt_cm (j_ix (jv 0 rfl) j_int (ixd_T rfl)) j_str cd_eqS).to (by decide +kernel)) (jss_nil ?_))
    refine jss_cons (js_ifF ((jt_cm (j_ix (jv 0 rfl) j_int (ixd_T rfl)) j_str cd_eqS).to (by decide +kernel)) (jss_nil ?_))
    refine jss_cons (js_ifF ((jt_cm (j_ix (jv 0 rfl) j_int (ixd_T rfl)) j_str cd_eqS).to (by decide +kernel)) (jss_nil ?_))
    exact jss_cons (js_ret (j_bin (j_sl (jv 0 rfl) jo_none (jo_some j_int) sld_T) (j_tup (ja_cons (j_tup (ja_cons (j_bin (jb_int T (ja_cons (j_ix (jv 1 rfl) (j_bin (jv 2 rfl) j_int od_addI) (ixd_I (by omega) (by omega))) ja_nil)) j_int (od_mulI cmulR)) (ja_cons (j_ix (jv 3 rfl) j_int (ixd_L rfl)) ja_nil))) ja_nil)) (od_addT (ble rfl))) ⟨gs, _, _, rfl, hgs, by omega, by omega, by omega, by omega⟩)
  ·
    refine jss_cons (js_ifF ((jt_cm (j_ix (jv 0 rfl) j_int (ixd_T rfl)) j_str cd_eqS).to (by decide +kernel)) (jss_nil ?_))
    refine jss_cons (js_ifF ((jt_cm (j_ix (jv 0 rfl) j_int (ixd_T rfl)) j_str cd_eqS).to (by decide +kernel)) (jss_nil ?_))
    refine jss_cons (js_ifT ((jt_cm (j_ix (jv 0 rfl) j_int (ixd_T rfl)) j_str cd_eqS).to (by decide +kernel)) ?_)
    exact jss_cons (js_ret (j_bin (j_sl (jv 0 rfl) jo_none (jo_some j_int) sld_T) (j_tup (ja_cons (jb_tupleL T (ja_cons (j_sl (jv 3 rfl) (jo_some j_int) jo_none sld_L) ja_nil)) ja_nil)) (od_addT (ble rfl))) ⟨gs, a, _, rfl, hgs, by omega, by omega, by omega, by omega⟩)
theorem ok_laH {f : Addr} {fd : FuncData} (F : Fun K "_law_larger" "_law_larger" sLarger f fd) (T : Bt mg) : FnOk P w K mg base CX0 1 f fd ["limit", "numbers", "at"] (spP K 3 gLaH) := by
  refine fn_pure F scLarger (by rintro ds Pd ⟨_, _, _, rfl, _⟩; rfl) fun cdv A outer s H E ds Pd hr hG => ?_
  obtain ⟨gs, a, ns, rfl, hgs, ha1, hl, hb, rfl⟩ := hG
  have nd := scLarger.nd
  refine jss_cons (js_if (jt_cm (j_bin (jb_int T (ja_cons (j_ix (jv 1 rfl) (jv 2 rfl) (ixd_I (by omega) (by omega))) ja_nil)) j_int (od_modI (by decide))) j_int cd_neI) (fun _ => ?_) (fun _ => jss_nil ?_))
  · exact jss_cons (js_ret (jv 0 rfl) ⟨gs, a, rfl, hgs, by omega⟩)
  refine jss_cons (js_set (i := 3) (j_lst (ja_cons (j_bin j_int (j_bin (jb_int T (ja_cons (j_ix (jv 1 rfl) (j_bin (jv 2 rfl) j_int od_addI) (ixd_I (by omega) (by omega))) ja_nil)) j_int (od_mulI cmulR)) od_addI) (ja_cons (j_bin j_int (j_bin (jb_int T (ja_cons (j_ix (jv 1 rfl) (j_bin (jv 2 rfl) j_int od_addI) (ixd_I (by omega) (by omega))) ja_nil)) j_int (od_mulI cmulR)) od_addI) ja_nil))) ?_ nd)
  refine jss_cons (js_ifF ((jt_cm (j_ix (jv 0 rfl) j_int (ixd_T rfl)) j_str cd_eqS).to (by decide +kernel)) (jss_nil ?_))
  refine jss_cons (js_ifT ((jt_cm (j_ix (jv 0 rfl) j_int (ixd_T rfl)) j_str cd_eqS).to (by decide +kernel)) ?_)
  have q1 := hb _ (getD_mem (ns := ns) (i := (4 + 1 : Int).toNat) (by rw [hl]; decide))
  refine jss_cons (js_ret (j_bin (j_sl (jv 0 rfl) jo_none (jo_some j_int) sld_T) (j_tup (ja_cons (jb_tupleL T (ja_cons (j_sl (jv 3 rfl) jo_none (jo_some j_int) sld_L) ja_nil)) ja_nil)) (od_addT (ble rfl))) ⟨gs, _, rfl, hgs, ?_⟩)
  all_goals omega
theorem ok_laP {f : Addr} {fd : FuncData} (F : Fun K "_law_larger" "_law_larger" sLarger f fd) (T : Bt mg) : FnOk P w K mg base CX0 1 f fd ["limit", "numbers", "at"] (spP K 3 gLaP) := by
  refine fn_pure F scLarger (by rintro ds Pd ⟨_, _, _, rfl, _⟩; rfl) fun cdv A outer s H E ds Pd hr hG => ?_
  obtain ⟨sh0, a, ns, rfl, hs0, hl, hb, rfl⟩ := hG
  have nd := scLarger.nd
  refine jss_cons (js_if (jt_cm (j_bin (jb_int T (ja_cons (j_ix (jv 1 rfl) (jv 2 rfl) (ixd_I (by omega) (by omega))) ja_nil)) j_int (od_modI (by decide))) j_int cd_neI) (fun _ => ?_) (fun _ => jss_nil ?_))
  · exact jss_cons (js_ret (jv 0 rfl) ⟨sh0, a, rfl, hs0.len⟩)
  refine jss_cons (js_set (i := 3) (j_lst (ja_cons (j_bin j_int (j_bin (jb_int T (ja_cons (j_ix (jv 1 rfl) (j_bin (jv 2 rfl) j_int od_addI) (ixd_I (by omega) (by omega))) ja_nil)) j_int (od_mulI cmulR)) od_addI) (ja_cons (j_bin j_int (j_bin (jb_int T (ja_cons (j_ix (jv 1 rfl) (j_bin (jv 2 rfl) j_int od_addI) (ixd_I (by omega) (by omega))) ja_nil)) j_int (od_mulI cmulR)) od_addI) ja_nil))) ?_ nd)
  refine jss_cons (js_ifT ((jt_cm (j_ix (jv 0 rfl) j_int (ixd_T rfl)) j_str cd_eqS).to (by decide +kernel)) ?_)
  have q1 := hb _ (getD_mem (ns := ns) (i := (4 + 1 : Int).toNat) (by rw [hl]; decide))
  have q2 := hb _ (getD_mem (ns := ns) (i := (4 + 2 : Int).toNat) (by rw [hl]; decide))
  refine jss_cons (js_setN (i := 4) (jn_lst ja_nil) ?_ nd)
  have h8 := hs0.len
  refine jss_mid (fun ρ => ∃ (shs : List Sh) (o3 o5 o6 o7 o8 : Option SV), ρ = [some (.fz (poolN "pool1" sh0 a)), some (.fz (.lst (ns.map D.int))), some (.fz (.int 4)), o3, some (.ow (.lst (shs.map shD))), o5, o6, o7, o8, none, none] ∧ OkSh shs)
    (js_for (pat := .tp [5, 6, 7]) (ds := sh0.map shD) (fun k ρ => ∃ (shs : List Sh) (o3 o5 o6 o7 o8 : Option SV), ρ = [some (.fz (poolN "pool1" sh0 a)), some (.fz (.lst (ns.map D.int))), some (.fz (.int 4)), o3, some (.ow (.lst (shs.map shD))), o5, o6, o7, o8, none, none] ∧ Part (sh0.map Sh.g) k shs) (ji_tup (j_ix (j_ix (jv 0 rfl) j_int (ixd_T rfl)) j_int (ixd_T rfl))) (pg_tup rfl (pgs_cons (pg_name nd rfl (Or.inl rfl)) (pgs_cons (pg_name nd rfl (Or.inl rfl)) (pgs_cons (pg_name nd rfl (Or.inl rfl)) pgs_nil)))) ⟨[], _, _, _, _, _, rfl, rfl, by simp⟩ ?_ ?_ PassesOwn.never) ?_
  · rintro k d _ hk ⟨shs, o3, o5, o6, o7, o8, rfl, pt⟩
    obtain ⟨x, hx, rfl⟩ := map_get hk
    have hsl := pt.len
    have hk' : k < sh0.length := (List.getElem?_eq_some_iff.mp hx).1
    have ho := (hs0.ok x (List.mem_of_getElem? hx)).2
    refine ⟨_, rfl, ?_⟩
    refine jss_cons (js_set (i := 8) (j_bin (j_bin (jv 6 rfl) j_int (od_mulI cmulR)) (j_bin (jb_int T (ja_cons (j_ix (jv 1 rfl) (j_bin (jv 2 rfl) j_int od_addI) (ixd_I (by omega) (by omega))) ja_nil)) j_int (od_modI (by decide))) od_addI) ?_ nd)
    refine jss_cons (js_append (i := 4) (ds := shs.map shD) rfl (j_tup (ja_cons (jv 5 rfl) (ja_cons (jv 8 rfl) (ja_cons (j_bin (j_bin (jv 8 rfl) (j_bin (j_bin (jv 7 rfl) (jv 6 rfl) od_subI) j_int (od_mulI cmulR)) od_addI) (jb_int T (ja_cons (j_ix (jv 1 rfl) (j_bin (jv 2 rfl) j_int od_addI) (ixd_I (by omega) (by omega))) ja_nil)) od_addI) ja_nil)))) (by rw [List.length_map]; exact Nat.lt_of_lt_of_le (by omega : _ < 100) (by decide)) ?_)
    refine jss_nil ⟨shs ++ [⟨x.g, x.o * 700 + ns.getD (4 + 1 : Int).toNat 0 % 900, x.o * 700 + ns.getD (4 + 1 : Int).toNat 0 % 900 + (x.e - x.o) * 900 + ns.getD (4 + 2 : Int).toNat 0⟩], _, _, _, _, _, by rw [List.map_append]; rfl, pt.next (by rw [List.getElem?_map, hx]; rfl) ?_ ?_⟩
    · omega
    · omega
  · rintro _ ⟨shs, o3, o5, o6, o7, o8, rfl, pt⟩
    rw [List.length_map] at pt
    exact ⟨_, rfl, shs, _, _, _, _, _, rfl, (show Part (sh0.map Sh.g) (sh0.map Sh.g).length shs by rw [List.length_map]; exact pt).done ⟨by rw [List.length_map]; exact h8, fun g hg => by obtain ⟨z, hz, rfl⟩ := List.mem_map.mp hg; exact (hs0.ok z hz).1, hs0.nd⟩⟩
  rintro _ ⟨shs, o3, o5, o6, o7, o8, rfl, hs⟩
  have hsl : shs.length < sizeLine := Nat.lt_of_le_of_lt hs.len (by decide)
  refine jss_cons (js_setS (i := 9) (j_bin (jb_sum T (ns := shs.map Sh.o) (ja_cons (J.to (j_lcM (own := [("share", 10)]) (i := 10) shs shD (fun s => D.int s.o) (ji_list (jv 4 rfl)) (blkOk_by (N := nLarger) (sc := defScope sLarger) (by decide +kernel)) (fun _ _ _ _ _ => pg_name nd rfl (Or.inl rfl)) hsl (fun r hr' s H C cl fp => j_ix (jv 10 rfl) j_int (ixd_T rfl)) nd) (by rw [List.map_map]; rfl)) ja_nil)) (j_bin (jb_int T (ja_cons (j_ix (jv 1 rfl) (j_bin (jv 2 rfl) j_int od_addI) (ixd_I (by omega) (by omega))) ja_nil)) j_int (od_mulI cmulR)) od_addI) rfl ?_ nd)
  exact jss_cons (js_ret (j_bin (j_sl (jv 0 rfl) jo_none (jo_some j_int) sld_T) (j_tup (ja_cons (j_tup (ja_cons (jv 9 rfl) (ja_cons (jb_tupleL T (ja_cons (jv 4 rfl) ja_nil)) ja_nil))) ja_nil)) (od_addT (ble rfl))) ⟨shs, _, rfl, hs.len⟩)
end
end Toy

namespace Toy
open PySem PyProof.Rows L2 Pf
instance : DecidableEq Wd := fun a b => by cases a <;> cases b <;> first | exact isTrue rfl | exact isFalse (fun h => by cases h)
theorem atI_of {α : Type} {xs : List α} {k : Nat} {d : α} (h : xs[k]? = some d) : atI xs (k : Int) = some d := by
  have hl := (List.getElem?_eq_some_iff.mp h).1
  unfold atI ixN
  rw [if_pos (by omega), if_pos (by omega)]
  exact h
/-- the sums stand apart, none is greater than the most -/
structure Sep (wd : Wd) (a b : Int) (ss : List (Int × Int)) : Prop where
  ne : ss ≠ []
  few : ss.length ≤ 16000000 - 1
  le : ∀ p ∈ ss, p.2 ≤ a
  win : wd = .win → ∀ i p q, ss[i]? = some p → ss[i + 1]? = some q → p.1 = q.1 - b
  oth : wd ≠ .win → ∀ i p q, ss[i]? = some p → ss[i + 1]? = some q → p.1 / b ≠ q.1 / b
  buc0 : wd = .buc → ∀ p, ss[0]? = some p → p.2 = a
  buc1 : wd = .buc → ∀ i p q, ss[i]? = some p → ss[i + 1]? = some q → q.1 - p.1 = b ∧ q.2 = 1
def near (wd : Wd) (b x y : Int) : Bool := match wd with
  | .win => decide (x > y - b)
  | _ => decide (x / b = y / b)
theorem Sep.near0 {wd : Wd} {a b : Int} {ss : List (Int × Int)} (h : Sep wd a b ss) {i : Nat} {p q : Int × Int} (h1 : ss[i]? = some p) (h2 : ss[i + 1]? = some q) : near wd b p.1 q.1 = false := by
  cases wd
  · have := h.win rfl i p q h1 h2
    exact decide_eq_false (by omega)
  · exact decide_eq_false (h.oth (by simp) i p q h1 h2)
  · exact decide_eq_false (h.oth (by simp) i p q h1 h2)
  · exact decide_eq_false (h.oth (by simp) i p q h1 h2)
theorem near_self {wd : Wd} {b x : Int} (hb : 1 ≤ b) : near wd b x x = true := by
  cases wd
  · exact decide_eq_true (by omega)
  · exact decide_eq_true rfl
  · exact decide_eq_true rfl
  · exact decide_eq_true rfl
section
variable {P : Program} {w : World} {K : PySem.W.Frag} {mg : Str → Option Value} {base : Heap}
abbrev sKp : Stmt := top 38
abbrev nKp : List Str := ["limit", "lets", "word", "most", "length", "total", "low", "missing", "before", "moment", "cost", "k", "is_near"]
theorem scKp : FnScope nKp ["limit", "lets"] (defScope sKp) := ⟨rfl, rfl, rfl, by decide +kernel, rfl, by decide +kernel, by decide +kernel⟩
def gKp : List D → (D → Prop) → Prop := fun ds P => ∃ (wd : Wd) (gs : List Str) (a b : Int) (ss : List (Int × Int)), ds = [limW wd gs a b, .lst (ss.map pairI)] ∧ wd ≠ .gap ∧ 1 ≤ a ∧ a ≤ 1000000 ∧ 1 ≤ b ∧ b ≤ 1000000 ∧ Sep wd a b ss ∧ P = fun d => d = .bl true
theorem ok_kp {f : Addr} {fd : FuncData} (F : Fun K "_law_keeps" "_law_keeps" sKp f fd) (T : Bt mg) : FnOk P w K mg base CX0 1 f fd ["limit", "lets"] (spP K 2 gKp) := by
  refine fn_pure F scKp (by rintro ds Pd ⟨_, _, _, _, _, rfl, _⟩; rfl) fun cdv A outer s H E ds Pd hr hG => ?_
  obtain ⟨wd, gs, a, b, ss, rfl, hw, ha1, ha2, hb1, hb2, sp, rfl⟩ := hG
  have nd := scKp.nd
  have few := sp.few
  obtain ⟨p0, h0⟩ : ∃ p0, ss[0]? = some p0 := by
    cases ss with
    | nil => exact absurd rfl sp.ne
    | cons p r => exact ⟨p, rfl⟩
  have lenL : lenD (.lst (ss.map pairI)) = some ss.length := by show some _ = _; rw [List.length_map]
  have aL : ∀ {k : Nat} {p : Int × Int}, ss[k]? = some p → atI (ss.map pairI) (k : Int) = some (pairI p) := fun h => atI_of (by rw [List.getElem?_map, h]; rfl)
  have wg : decide (wd.s = ("gap" : Str)) = false := by cases wd <;> first | decide +kernel | exact absurd rfl hw
  have ww : decide (wd.s = ("window" : Str)) = decide (wd = .win) := by cases wd <;> decide +kernel
  have wb : decide (wd.s = ("bucket" : Str)) = decide (wd = .buc) := by cases wd <;> decide +kernel
  have eN : wd.nums a b = [.int a, .int b] := by cases wd <;> first | rfl | exact absurd rfl hw
  refine jss_cons (js_set (i := 2) (d := .str wd.s) (j_ix (jv 0 rfl) j_int (ixd_T rfl)) ?_ nd)
  refine jss_cons (js_ifF ((jt_cm (jv 2 rfl) j_str cd_eqS).to wg) (jss_nil ?_))
  refine jss_cons (js_pat (pat := .tp [3, 4]) (j_ix (d := .tup [.int a, .int b]) (jv 0 rfl) j_int (ixd_T (by rw [← eN]; rfl))) rfl ?_ (pg_tup rfl (pgs_cons (pg_name nd rfl (by first | exact Or.inl rfl | exact Or.inr rfl)) (pgs_cons (pg_name nd rfl (by first | exact Or.inl rfl | exact Or.inr rfl)) pgs_nil))))
  refine jss_cons (js_pat (pat := .tp [5, 6, 7, 8]) (j_tup (ja_cons j_int (ja_cons j_int (ja_cons j_int (ja_cons (j_ix (j_ix (jv 1 rfl) j_int (ixd_L (aL h0))) j_int (ixd_T rfl)) ja_nil))))) rfl ?_ (pg_tup rfl (pgs_cons (pg_name nd rfl (by first | exact Or.inl rfl | exact Or.inr rfl)) (pgs_cons (pg_name nd rfl (by first | exact Or.inl rfl | exact Or.inr rfl)) (pgs_cons (pg_name nd rfl (by first | exact Or.inl rfl | exact Or.inr rfl)) (pgs_cons (pg_name nd rfl (by first | exact Or.inl rfl | exact Or.inr rfl)) pgs_nil))))))
  refine jss_cons (js_for (pat := .tp [9, 10]) (fun i ρ => ∃ (M t0 bf : Int) (o9 o10 o11 o12 : Option SV), ρ = [some (.fz (limW wd gs a b)), some (.fz (.lst (ss.map pairI))), some (.fz (.str wd.s)), some (.fz (.int a)), some (.fz (.int b)), some (.fz (.int t0)), some (.fz (.int ((i - 1 : Nat) : Int))), some (.fz (.int M)), some (.fz (.int bf)), o9, o10, o11, o12] ∧ (i = 0 → t0 = 0 ∧ bf = p0.1 ∧ M = 0) ∧ (∀ j p, i = j + 1 → ss[j]? = some p → t0 = p.2 ∧ bf = p.1 ∧ (wd = .buc → M = b * a)))
    (ji_list (jv 1 rfl)) (pg_tup rfl (pgs_cons (pg_name nd rfl (by first | exact Or.inl rfl | exact Or.inr rfl)) (pgs_cons (pg_name nd rfl (by first | exact Or.inl rfl | exact Or.inr rfl)) pgs_nil))) ⟨_, _, _, _, _, _, _, rfl, fun _ => ⟨rfl, rfl, rfl⟩, fun j p h => by omega⟩ ?_ ?_ PassesOwn.never)
  · rintro i d ρ hd ⟨M, t0, bf, o9, o10, o11, o12, rfl, q0, q1⟩
    rw [List.getElem?_map] at hd
    cases hi : ss[i]? with
    | none => rw [hi] at hd; cases hd
    | some p =>
      rw [hi] at hd; cases hd
      have hil := (List.getElem?_eq_some_iff.mp hi).1
      refine ⟨_, rfl, ?_⟩
      refine jss_cons (js_set (i := 5) (d := .int (t0 + p.2)) (j_bin (jv 5 rfl) (jv 10 rfl) od_addI) ?_ nd)
      refine jss_cons (js_each (i := 11) (List.range (((ss.length : Nat) : Int) - ((i - 1 : Nat) : Int)).toNat) (fun j : Nat => D.int (((i - 1) + j : Nat) : Int)) (fun j ρ => ∃ (tt : Int) (o11 o12 : Option SV), ρ = [some (.fz (limW wd gs a b)), some (.fz (.lst (ss.map pairI))), some (.fz (.str wd.s)), some (.fz (.int a)), some (.fz (.int b)), some (.fz (.int tt)), some (.fz (.int (((i - 1) + j : Nat) : Int))), some (.fz (.int M)), some (.fz (.int bf)), some (.fz (.int p.1)), some (.fz (.int p.2)), o11, o12] ∧ (i - 1) + j ≤ i ∧ ((i - 1) + j = i → tt = p.2) ∧ ((i - 1) + j < i → j = 0 ∧ tt = t0 + p.2))
        (JI.to' (ji_range2 T.range (jv 6 rfl) (jb_len T (ja_cons (jv 1 rfl) ja_nil) lenL) ⟨by omega, by omega, by omega, by omega⟩) (List.map_congr_left fun j _ => congrArg D.int (Int.natCast_add (i - 1) j).symm)) nd ⟨t0 + p.2, o11, o12, rfl, by omega, fun h => by have := q0 (by omega); omega, fun _ => ⟨rfl, rfl⟩⟩ ?_ ?_)
      · rintro j j' _ hj ⟨tt, o11, o12, rfl, hk, e1, e2⟩
        · obtain ⟨hjl, hje⟩ := List.getElem?_eq_some_iff.mp hj
          rw [List.getElem_range] at hje
          subst hje
          obtain ⟨q, hq⟩ : ∃ q, ss[(i - 1) + j]? = some q := ⟨ss[(i - 1) + j]'(by omega), List.getElem?_eq_getElem (by omega)⟩
          refine jss_cons (js_set (i := 12) (d := .bl (decide (q.1 / b = p.1 / b))) (j_cm (j_bin (j_ix (j_ix (jv 1 rfl) (jv 11 rfl) (ixd_L (aL hq))) j_int (ixd_T rfl)) (jv 4 rfl) (od_fdivI ⟨by omega, by omega⟩)) (j_bin (jv 9 rfl) (jv 4 rfl) (od_fdivI ⟨by omega, by omega⟩)) cd_eqI) ?_ nd)
          refine jss_mid (fun ρ => ρ = [some (.fz (limW wd gs a b)), some (.fz (.lst (ss.map pairI))), some (.fz (.str wd.s)), some (.fz (.int a)), some (.fz (.int b)), some (.fz (.int tt)), some (.fz (.int (((i - 1) + j : Nat) : Int))), some (.fz (.int M)), some (.fz (.int bf)), some (.fz (.int p.1)), some (.fz (.int p.2)), some (.fz (.int (((i - 1) + j : Nat) : Int))), some (.fz (.bl (near wd b q.1 p.1)))]) (js_if ((jt_cm (jv 2 rfl) j_str cd_eqS).to ww) (fun h => ?_) (fun h => jss_nil ⟨_, rfl, ?_⟩)) ?_
          · obtain rfl : wd = .win := of_decide_eq_true h
            exact jss_cons (js_set (i := 12) (d := .bl (decide (q.1 > p.1 - b))) (j_cm (j_ix (j_ix (jv 1 rfl) (jv 11 rfl) (ixd_L (aL hq))) j_int (ixd_T rfl)) (j_bin (jv 9 rfl) (jv 4 rfl) od_subI) cd_gtI) (jss_nil ⟨_, rfl, rfl⟩) nd)
          · have : near wd b q.1 p.1 = decide (q.1 / b = p.1 / b) := by cases wd <;> first | rfl | cases h
            rw [this]; rfl
          rintro _ rfl
          refine jss_cons (js_if (jt_val (jv 12 rfl)) (fun h => ?_) (fun h => jss_nil ?_))
          · have hki : (i - 1) + j = i := by
              rcases Nat.lt_or_eq_of_le hk with z | z
              · exfalso
                have : near wd b q.1 p.1 = false := sp.near0 hq (by rw [show i - 1 + j + 1 = i by omega]; exact hi)
                rw [this] at h; cases h
              · exact z
            refine jss_cons (js_break ?_)
            have ht := e1 hki
            subst ht
            rw [hki]
            obtain ⟨M2, hM2, hB⟩ : ∃ M2 : Int, (if M - p.1 + bf > 0 then M - p.1 + bf else 0) + b * p.2 = M2 ∧ (wd = .buc → M2 = b * a) := ⟨_, rfl, fun hw2 => by
              rcases Nat.eq_zero_or_pos i with z | z
              · obtain ⟨_, y2, y3⟩ := q0 z
                subst z
                rw [h0] at hi; cases hi
                rw [sp.buc0 hw2 _ h0, y2, y3, if_neg (by omega), Int.zero_add]
              · obtain ⟨p', hp'⟩ : ∃ p', ss[i - 1]? = some p' := ⟨ss[i - 1]'(by omega), List.getElem?_eq_getElem (by omega)⟩
                obtain ⟨_, y2, y3⟩ := q1 (i - 1) p' (by omega) hp'
                obtain ⟨z1, z2⟩ := sp.buc1 hw2 (i - 1) p' p hp' (by rw [show i - 1 + 1 = i by omega]; exact hi)
                have y3 := y3 hw2
                have hba : b * 1 ≤ b * a := Int.mul_le_mul_of_nonneg_left ha1 (by omega)
                rw [z2, y2, y3]
                rw [Int.mul_one] at *
                split <;> omega⟩
            refine jss_cons (js_set (i := 7) (d := .int M2) (J.to (j_bin (jb_max2 T (ja_cons j_int (ja_cons (j_bin (j_bin (jv 7 rfl) (jv 9 rfl) od_subI) (jv 8 rfl) od_addI) ja_nil))) (j_bin (jv 4 rfl) (jv 10 rfl) (od_mulI (cmulL (by omega) (by omega)))) od_addI) (congrArg D.int hM2)) ?_ nd)
            refine jss_cons (js_set (i := 8) (jv 9 rfl) ?_ nd)
            refine jss_cons (js_ifF ?_ (jss_nil (jss_nil ⟨M2, p.2, p.1, _, _, _, _, rfl, fun h => absurd h (Nat.succ_ne_zero i), fun j2 p2 h2 hp2 => ?_⟩)))
            · by_cases hw2 : wd = .buc
              · have hB := hB hw2
                exact jt_w (jw_or (t := false) (u := false) (JT.to (jt_w (jw_and (t := true) (u := false) ((jt_cm (jv 2 rfl) j_str cd_eqS).to (wb.trans (decide_eq_true hw2))) (fun _ => jw_and1 (JT.to (jt_cm (jv 7 rfl) (j_bin (jv 3 rfl) (jv 4 rfl) (od_mulI (cmulL (by omega) (by omega)))) cd_gtI) (decide_eq_false (by rw [hB, Int.mul_comm a b]; omega)))))) rfl) (fun _ => jw_or1 (jt_w (jw_andF ((jt_cm (jv 2 rfl) j_str cd_neS).to (by rw [wb, decide_eq_true hw2]; rfl))))))
              · exact jt_w (jw_or (t := false) (u := false) (jt_w (jw_andF ((jt_cm (jv 2 rfl) j_str cd_eqS).to (wb.trans (decide_eq_false hw2))))) (fun _ => jw_or1 (JT.to (jt_w (jw_and (t := true) (u := false) ((jt_cm (jv 2 rfl) j_str cd_neS).to (by rw [wb, decide_eq_false hw2]; rfl)) (fun _ => jw_and1 (JT.to (jt_cm (jv 5 rfl) (jv 3 rfl) cd_gtI) (decide_eq_false (by have := sp.le p (List.mem_of_getElem? hi); omega)))))) rfl)))
            · obtain rfl : i = j2 := by omega
              rw [hi] at hp2; cases hp2
              exact ⟨rfl, rfl, hB⟩
          · have hki : (i - 1) + j < i := by
              rcases Nat.lt_or_eq_of_le hk with z | z
              · exact z
              · exfalso
                rw [z] at hq
                rw [hq] at hi; cases hi
                rw [near_self hb1] at h; cases h
            obtain ⟨z1, z2⟩ := e2 hki
            subst z1
            obtain ⟨y1, _, _⟩ := q1 (i - 1) q (by omega) (by simpa using hq)
            refine jss_cons (js_set (i := 5) (d := .int p.2) (J.to (j_bin (jv 5 rfl) (j_ix (j_ix (jv 1 rfl) (jv 11 rfl) (ixd_L (aL hq))) j_int (ixd_T rfl)) od_subI) (congrArg D.int (by omega))) ?_ nd)
            refine jss_cons (js_set (i := 6) (d := .int (((i - 1) + (0 + 1) : Nat) : Int)) (J.to (j_bin (jv 6 rfl) j_int od_addI) (congrArg D.int (by omega))) ?_ nd)
            exact jss_nil ⟨_, _, _, rfl, by omega, fun _ => rfl, fun h => by omega⟩
      · rintro _ ⟨tt, o11, o12, rfl, hk, _, _⟩
        rw [List.length_range] at hk
        omega
  · rintro _ ⟨M, t0, bf, o9, o10, o11, o12, rfl, _, _⟩
    exact jss_cons (js_ret j_bl rfl)
end
end Toy

namespace Toy
open PySem PyProof.Rows L2 Pf
def stepG (ls : List (Int × Int)) (p : Int × Int) : List (Int × Int) := match ls.getLast? with
  | some q => if q.1 = p.1 then ls.dropLast ++ [(p.1, q.2 + p.2)] else ls ++ [p]
  | none => ls ++ [p]
theorem stepG_snoc (l : List (Int × Int)) (q p : Int × Int) : stepG (l ++ [q]) p = if q.1 = p.1 then l ++ [(p.1, q.2 + p.2)] else (l ++ [q]) ++ [p] := by
  unfold stepG
  rw [List.getLast?_concat]
  show (if q.1 = p.1 then (l ++ [q]).dropLast ++ [(p.1, q.2 + p.2)] else _) = _
  rw [List.dropLast_concat]
def letsG (cs : List (Int × Int)) : List (Int × Int) := cs.foldl stepG []
theorem letsG_snoc (cs : List (Int × Int)) (p : Int × Int) : letsG (cs ++ [p]) = stepG (letsG cs) p := by unfold letsG; rw [List.foldl_append]; rfl
theorem fold_same (l : List (Int × Int)) (t : Int) : ∀ (cs : List Int) (s : Int), (cs.map fun c => (t, c)).foldl stepG (l ++ [(t, s)]) = l ++ [(t, s + cs.sum)]
  | [], s => by simp
  | c :: r, s => by
    rw [List.map_cons, List.foldl_cons, stepG_snoc, if_pos rfl, fold_same l t r (s + c), List.sum_cons, Int.add_assoc]
theorem fold_new (l : List (Int × Int)) (t : Int) (cs : List Int) (hne : cs ≠ []) (hl : ∀ q, l.getLast? = some q → q.1 ≠ t) : (cs.map fun c => (t, c)).foldl stepG l = l ++ [(t, cs.sum)] := by
  cases cs with
  | nil => exact absurd rfl hne
  | cons c r =>
    rw [List.map_cons, List.foldl_cons]
    have e : stepG l (t, c) = l ++ [(t, c)] := by
      unfold stepG
      cases q : l.getLast? with
      | none => rfl
      | some z => exact if_neg (hl z q)
    rw [e, fold_same, List.sum_cons]
theorem fold_costs : ∀ (ss l : List (Int × Int)), (∀ p ∈ ss, 1 ≤ p.2) → (ss.Pairwise fun x y => x.1 < y.1) → (∀ q, l.getLast? = some q → ∀ p ∈ ss, q.1 < p.1) → (costsK ss).foldl stepG l = l ++ ss
  | [], l, _, _, _ => by show l = l ++ []; rw [List.append_nil]
  | p :: r, l, h1, pw, hl => by
    have hp := h1 p List.mem_cons_self
    rw [costsK_cons, List.foldl_append, fold_new l p.1 _ (split_ne hp) (fun q hq e => by have := hl q hq p List.mem_cons_self; omega), split_sum (by omega)]
    rw [List.pairwise_cons] at pw
    rw [fold_costs r _ (fun q hq => h1 q (List.mem_cons_of_mem _ hq)) pw.2 (fun q hq x hx => by
      rw [List.getLast?_concat] at hq
      cases hq
      exact pw.1 x hx), List.append_assoc]
    rfl
theorem letsG_costs {ss : List (Int × Int)} (h1 : ∀ p ∈ ss, 1 ≤ p.2) (pw : ss.Pairwise fun x y => x.1 < y.1) : letsG (costsK ss) = ss := fold_costs ss [] h1 pw fun q hq => by cases hq
theorem letsG_last (cs : List (Int × Int)) : (letsG cs).getLast?.map (·.1) = cs.getLast?.map (·.1) := by
  rcases List.eq_nil_or_concat cs with rfl | ⟨l, p, rfl⟩
  · rfl
  · rw [List.concat_eq_append, letsG_snoc, List.getLast?_concat]
    unfold stepG
    split
    · split
      · rw [List.getLast?_concat]; rfl
      · rw [List.getLast?_concat]
    · rw [List.getLast?_concat]
theorem letsG_len (cs : List (Int × Int)) : (letsG cs).length ≤ cs.length := by
  suffices h : ∀ (cs l : List (Int × Int)), (cs.foldl stepG l).length ≤ l.length + cs.length by have := h cs []; simpa [letsG] using this
  intro cs
  induction cs with
  | nil => intro l; exact Nat.le_refl _
  | cons p r ih =>
    intro l
    have h1 := ih (stepG l p)
    have h2 : (stepG l p).length ≤ l.length + 1 := by
      unfold stepG
      split
      · split
        · rw [List.length_append, List.length_dropLast]; show _ - 1 + 1 ≤ _; omega
        · rw [List.length_append]; exact Nat.le_refl _
      · rw [List.length_append]; exact Nat.le_refl _
    rw [List.foldl_cons, List.length_cons]
    omega
theorem atI_last {α : Type} {xs : List α} {d : α} (h : xs.getLast? = some d) : atI xs (-1) = some d := by
  rcases List.eq_nil_or_concat xs with rfl | ⟨l, p, rfl⟩
  · cases h
  · rw [List.concat_eq_append] at h ⊢
    rw [List.getLast?_concat] at h
    cases h
    unfold atI ixN
    rw [if_neg (by decide), if_pos (by rw [List.length_append]; simp; omega)]
    show (l ++ [d])[((-1 : Int) + ((l ++ [d]).length : Nat)).toNat]? = some d
    rw [show ((-1 : Int) + ((l ++ [d]).length : Nat)).toNat = l.length by rw [List.length_append]; simp; omega]
    simp
theorem ixN_last {n : Nat} (h : 1 ≤ n) : ixN n (-1) = some (n - 1) := by
  unfold ixN
  rw [if_neg (by decide), if_pos (by omega)]
  congr 1; omega
theorem set_last {α : Type} (l : List α) (a b : α) : (l ++ [a]).set ((l ++ [a]).length - 1) b = l ++ [b] := by
  rw [List.length_append]
  show (l ++ [a]).set (l.length + 1 - 1) b = _
  rw [Nat.add_sub_cancel]
  induction l with
  | nil => rfl
  | cons x r ih => show x :: ((r ++ [a]).set r.length b) = _; rw [ih]; rfl
theorem entsK_get {g : Str} {cs : List (Int × Int)} {k : Nat} {e : List D} (h : (entsK g cs)[k]? = some e) : ∃ p, cs[k]? = some p ∧ e = entL g k p := by
  unfold entsK at h
  rw [List.getElem?_mapIdx] at h
  cases q : cs[k]? with
  | none => rw [q] at h; cases h
  | some p => rw [q] at h; cases h; exact ⟨p, rfl, rfl⟩
theorem entsK_at {g : Str} {cs : List (Int × Int)} {k : Nat} {p : Int × Int} (h : cs[k]? = some p) : (entsK g cs)[k]? = some (entL g k p) := by
  unfold entsK
  rw [List.getElem?_mapIdx, h]; rfl
theorem entsK_cost (g : Str) (cs : List (Int × Int)) : (entsK g cs).map (fun e => e.getD 3 .non) = (cs.map (·.2)).map D.int := by
  refine List.ext_getElem? fun i => ?_
  rw [List.getElem?_map, List.getElem?_map, List.getElem?_map]
  unfold entsK
  rw [List.getElem?_mapIdx]
  cases cs[i]? <;> rfl
/-- what the law asks of the row's sums -/
structure RightOk (wd : Wd) (gs : List Str) (a b m mo : Int) (ss : List (Int × Int)) : Prop where
  gs : OkGs gs
  good : GoodC (costsK ss)
  ne : ss ≠ []
  pos : ∀ p ∈ ss, 1 ≤ p.2
  asc : ss.Pairwise fun x y => x.1 < y.1
  sum : ((costsK ss).map (·.2)).sum = mo
  wide : ∀ p q, ss[0]? = some p → ss.getLast? = some q → q.1 - p.1 < m ∧ p.1 ≤ 1000000
  b1 : 1 ≤ b ∧ b ≤ 1000000
  flow : wd ≠ .gap → 1 ≤ a ∧ a ≤ 1000000 ∧ Sep wd a b ss
  gap : wd = .gap → costsK ss = ss ∧ ∀ i p q, ss[i]? = some p → ss[i + 1]? = some q → b ≤ q.1 - p.1
section
variable {P : Program} {w : World} {K : PySem.W.Frag} {mg : Str → Option Value} {base : Heap}
def gKpG : List D → (D → Prop) → Prop := fun ds P => ∃ (gs : List Str) (a b : Int) (ss : List (Int × Int)), ds = [limW .gap gs a b, .lst (ss.map pairI)] ∧ ss ≠ [] ∧ ss.length ≤ 10000 ∧ (∀ i p q, ss[i]? = some p → ss[i + 1]? = some q → b ≤ q.1 - p.1) ∧ P = fun d => d = .bl true
theorem ok_kpG {f : Addr} {fd : FuncData} (F : Fun K "_law_keeps" "_law_keeps" sKp f fd) (T : Bt mg) : FnOk P w K mg base CX0 1 f fd ["limit", "lets"] (spP K 2 gKpG) := by
  refine fn_pure F scKp (by rintro ds Pd ⟨_, _, _, _, rfl, _⟩; rfl) fun cdv A outer s H E ds Pd hr hG => ?_
  obtain ⟨gs, a, b, ss, rfl, hne, few, hg, rfl⟩ := hG
  have nd := scKp.nd
  have h1 : 1 ≤ ss.length := List.length_pos_iff.mpr hne
  have lenL : lenD (.lst (ss.map pairI)) = some ss.length := by show some _ = _; rw [List.length_map]
  have aL : ∀ {k : Nat} {p : Int × Int}, ss[k]? = some p → atI (ss.map pairI) (k : Int) = some (pairI p) := fun h => atI_of (by rw [List.getElem?_map, h]; rfl)
  refine jss_cons (js_set (i := 2) (d := .str "gap") (j_ix (jv 0 rfl) j_int (ixd_T rfl)) ?_ nd)
  refine jss_cons (js_ifT ((jt_cm (jv 2 rfl) j_str cd_eqS).to (by decide +kernel)) ?_)
  refine jss_cons (js_ret (J.to (jb_all T (bs := (List.range (ss.length - 1)).map fun _ => true) (ja_cons (J.to (j_lcM (own := [("k", 11)]) (i := 11) (List.range (ss.length - 1)) (fun k : Nat => D.int (k : Int)) (fun _ => D.bl true) (JI.to' (ji_rangeN (ss.length - 1) T (j_bin (jb_len T (ja_cons (jv 1 rfl) ja_nil) lenL) j_int od_subI) (by omega) (by omega) (by omega)) (by refine List.map_congr_left fun k _ => ?_; show D.int (0 + (k : Int)) = D.int (k : Int); rw [Int.zero_add])) (blkOk_by (N := nKp) (sc := defScope sKp) (by decide +kernel)) (fun _ _ _ _ _ => pg_name nd rfl (by first | exact Or.inl rfl | exact Or.inr rfl)) (by rw [List.length_range]; exact lt_sz (by omega)) (fun k hk s0 H0 C0 cl fp => ?_) nd) (by rw [List.map_map]; rfl)) ja_nil)) (congrArg D.bl (by simp))) rfl)
  have hk := List.mem_range.mp hk
  obtain ⟨p, hp⟩ : ∃ p, ss[k]? = some p := ⟨ss[k]'(by omega), List.getElem?_eq_getElem (by omega)⟩
  obtain ⟨q, hq⟩ : ∃ q, ss[k + 1]? = some q := ⟨ss[k + 1]'(by omega), List.getElem?_eq_getElem (by omega)⟩
  have := hg k p q hp hq
  exact J.to (j_cm (j_bin (j_ix (j_ix (jv 1 rfl) (J.to (j_bin (jv 11 rfl) j_int od_addI) (d' := .int ((k + 1 : Nat) : Int)) rfl) (ixd_L (aL hq))) j_int (ixd_T rfl)) (j_ix (j_ix (jv 1 rfl) (jv 11 rfl) (ixd_L (aL hp))) j_int (ixd_T rfl)) od_subI) (j_ix (j_ix (jv 0 rfl) j_int (ixd_T rfl)) j_int (ixd_T rfl)) cd_geI) (congrArg D.bl (decide_eq_true (by omega)))
end
end Toy

namespace Toy
open PySem PyProof.Rows L2 Pf
theorem cost_head {p : Int × Int} {r : List (Int × Int)} (h : 1 ≤ p.2) : ∃ c, (costsK (p :: r))[0]? = some (p.1, c) := by
  rw [costsK_cons]
  cases e : splitC p.2 with
  | nil => exact absurd e (split_ne h)
  | cons c t => exact ⟨c, rfl⟩
theorem atI_neg1 {α : Type} {xs : List α} {d : α} (h : xs[xs.length - 1]? = some d) : atI xs (-1) = some d := atI_last (by rw [List.getLast?_eq_getElem?]; exact h)
section
variable {P : Program} {w : World} {K : PySem.W.Frag} {mg : Str → Option Value} {base : Heap}
abbrev sRi : Stmt := top 39
abbrev nRi : List Str := ["limit", "row", "moments", "most", "entry", "lets"]
theorem scRi : FnScope nRi ["limit", "row", "moments", "most"] (defScope sRi) := ⟨rfl, rfl, rfl, by decide +kernel, rfl, by decide +kernel, by decide +kernel⟩
def gRi : List D → (D → Prop) → Prop := fun ds P => ((∃ (lim : D) (m : Int), ds = [lim, .lst [], .int m, .int 0]) ∨ (∃ (wd : Wd) (gs : List Str) (a b m mo : Int) (ss : List (Int × Int)), ds = [limW wd gs a b, .lst ((entsK (grpOf gs) (costsK ss)).map D.tup), .int m, .int mo] ∧ RightOk wd gs a b m mo ss)) ∧ P = fun d => d = .bl true
theorem ok_ri {f : Addr} {fd : FuncData} (F : Fun K "_law_right" "_law_right" sRi f fd) (T : Bt mg) (cS : PFn P w K mg base 1 "_law_sees" 2 gLooks) (cI : PFn P w K mg base 6 "_law_is_row" 1 gIr) (cK : PFn P w K mg base 1 "_law_keeps" 2 gKp) (cG : PFn P w K mg base 1 "_law_keeps" 2 gKpG) : FnOk P w K mg base CX0 7 f fd ["limit", "row", "moments", "most"] (spP K 4 gRi) := by
  refine fn_pure F scRi (by rintro ds Pd ⟨⟨_, _, rfl⟩ | ⟨_, _, _, _, _, _, _, rfl, _⟩, _⟩ <;> rfl) fun cdv A outer s H E ds Pd hr hG => ?_
  have nd := scRi.nd
  rcases hG with ⟨⟨lim, m, rfl⟩ | ⟨wd, gs, a, b, m, mo, ss, rfl, ok⟩, rfl⟩
  · refine jss_cons (js_each (i := 4) ([] : List D) id (fun _ ρ => ∃ o4, ρ = [some (.fz lim), some (.fz (.lst [])), some (.fz (.int m)), some (.fz (.int 0)), o4, none]) (ji_list (jv 1 rfl)) nd ⟨_, rfl⟩ (fun k x _ h => by cases h) ?_)
    rintro _ ⟨o4, rfl⟩
    refine jss_cons (js_ifF (jt_w (jw_or (t := false) (u := false) (jt_not (t := true) (jt_val (j_call cI hr (ja_cons (jv 1 rfl) ja_nil) ⟨[], rfl, (fun e h => absurd h List.not_mem_nil), Nat.zero_le _, rfl, rfl⟩ (by intro _ h; exact h)))) (fun _ => jw_or1 (JT.to (jt_cm (jb_sum T (ns := []) (ja_cons (J.to (j_lcM (own := [("entry", 4)]) (i := 4) ([] : List D) id id (ji_list (jv 1 rfl)) (blkOk_by (N := nRi) (sc := defScope sRi) (by decide +kernel)) (fun _ _ _ _ _ => pg_name nd rfl (by first | exact Or.inl rfl | exact Or.inr rfl)) (lt_sz (by decide)) (fun r hr2 s0 H0 C0 cl fp => absurd hr2 List.not_mem_nil) nd) rfl) ja_nil)) (jv 3 rfl) cd_neI) (by decide))))) (jss_nil ?_))
    exact jss_cons (js_ifT (JT.to (jt_cm (jb_len T (ja_cons (jv 1 rfl) ja_nil) (n := 0) rfl) j_int cd_eqI) (decide_eq_true rfl)) (jss_cons (js_ret j_bl rfl)))
  · have hg := grp_nm ok.gs
    have few := ok.good.few
    have hgood := ok.good
    have hsum := ok.sum
    have hgap := ok.gap
    generalize hcs : costsK ss = cs at *
    have hel : (entsK (grpOf gs) cs).length = cs.length := by unfold entsK; rw [List.length_mapIdx]
    have lenE : lenD (.lst ((entsK (grpOf gs) cs).map D.tup)) = some cs.length := by show some _ = _; rw [List.length_map, hel]
    have see : sees gs (grpOf gs) = true := by cases gs <;> simp [sees, grpOf]
    have wp : decide (wd.s = ("pool" : Str)) = false := by cases wd <;> decide +kernel
    have wg : decide (wd.s = ("gap" : Str)) = decide (wd = .gap) := by cases wd <;> decide +kernel
    have hcne : cs ≠ [] := by
      rw [← hcs]
      cases ss with
      | nil => exact absurd rfl ok.ne
      | cons p r =>
        rw [costsK_cons]
        intro e
        have := (List.append_eq_nil_iff.mp e).1
        rw [List.map_eq_nil_iff] at this
        exact split_ne (ok.pos p List.mem_cons_self) this
    have hc1 : 1 ≤ cs.length := List.length_pos_iff.mpr hcne
    refine jss_cons (js_each (i := 4) (entsK (grpOf gs) cs) D.tup (fun _ ρ => ∃ o4, ρ = [some (.fz (limW wd gs a b)), some (.fz (.lst ((entsK (grpOf gs) cs).map D.tup))), some (.fz (.int m)), some (.fz (.int mo)), o4, none]) (ji_list (jv 1 rfl)) nd ⟨_, rfl⟩ ?_ ?_)
    · rintro k x _ hk ⟨o4, rfl⟩
      obtain ⟨p, hp, rfl⟩ := entsK_get hk
      refine jss_cons (js_ifF (jt_w (jw_or (t := false) (u := false) (jt_not (t := true) (jt_val (jb_isiT (b := true) T (ja_cons (jv 4 rfl) (ja_cons (j_ty (T := "tuple") T.tuple (by decide +kernel)) ja_nil)) (by rfl)))) (fun _ => jw_or (t := false) (u := false) (JT.to (jt_cm (jb_len T (ja_cons (jv 4 rfl) ja_nil) (n := 5) rfl) j_int cd_neI) (by decide)) (fun _ => jw_or (t := false) (u := false) (JT.to (jt_cm (j_ix (jv 4 rfl) j_int (ixd_T rfl)) j_str cd_neS) (by decide +kernel)) (fun _ => jw_or1 (jt_not (t := true) (jt_val (j_call cS hr (ja_cons (jv 0 rfl) (ja_cons (j_ix (jv 4 rfl) j_int (ixd_T rfl)) ja_nil)) ⟨wd.nm, wd.s, gs, wd.nums a b, grpOf gs, rfl, wp, ok.gs, rfl⟩ (by intro _ h; rw [see] at h; exact h))))))))) (jss_nil ?_))
      refine jss_cons (js_ifF (jt_w (jw_or (t := false) (u := false) (jt_val (jb_isi (b := false) T (ja_cons (j_ix (jv 4 rfl) j_int (ixd_T rfl)) (ja_cons (j_ty (T := "bool") T.bool (by decide +kernel)) ja_nil)) rfl (by rfl))) (fun _ => jw_or1 (jt_val (jb_isi (b := false) T (ja_cons (j_ix (jv 4 rfl) j_int (ixd_T rfl)) (ja_cons (j_ty (T := "bool") T.bool (by decide +kernel)) ja_nil)) rfl (by rfl)))))) (jss_nil (jss_nil ⟨_, rfl⟩)))
    rintro _ ⟨o4, rfl⟩
    refine jss_cons (js_ifF (jt_w (jw_or (t := false) (u := false) (jt_not (t := true) (jt_val (j_call cI hr (ja_cons (jv 1 rfl) ja_nil) ⟨_, rfl, ents_ok hg few, by rw [hel]; exact few, chk_row hg hgood, rfl⟩ (by intro _ h; exact h)))) (fun _ => jw_or1 (JT.to (jt_cm (jb_sum T (ns := cs.map (·.2)) (ja_cons (J.to (j_lcM (own := [("entry", 4)]) (i := 4) (entsK (grpOf gs) cs) D.tup (fun e => e.getD 3 .non) (ji_list (jv 1 rfl)) (blkOk_by (N := nRi) (sc := defScope sRi) (by decide +kernel)) (fun _ _ _ _ _ => pg_name nd rfl (by first | exact Or.inl rfl | exact Or.inr rfl)) (by rw [hel]; exact lt_sz (by omega)) (fun r hr2 s0 H0 C0 cl fp => ?_) nd) (by rw [entsK_cost])) ja_nil)) (jv 3 rfl) cd_neI) (by rw [hsum, decide_eq_true rfl]; rfl))))) (jss_nil ?_))
    · obtain ⟨k, hk⟩ := List.getElem?_of_mem hr2
      obtain ⟨p, hp, rfl⟩ := entsK_get hk
      exact j_ix (jv 4 rfl) j_int (ixd_T rfl)
    refine jss_cons (js_ifF (JT.to (jt_cm (jb_len T (ja_cons (jv 1 rfl) ja_nil) lenE) j_int cd_eqI) (decide_eq_false (by omega))) (jss_nil ?_))
    obtain ⟨p0, r0, hss⟩ : ∃ p r, ss = p :: r := by
      cases ss with
      | nil => exact absurd rfl ok.ne
      | cons p r => exact ⟨p, r, rfl⟩
    obtain ⟨c0, hc0⟩ : ∃ c, cs[0]? = some (p0.1, c) := by
      rw [← hcs, hss]
      exact cost_head (ok.pos p0 (by rw [hss]; exact List.mem_cons_self))
    have hlet : letsG cs = ss := by rw [← hcs]; exact letsG_costs ok.pos ok.asc
    obtain ⟨pl, hpl⟩ : ∃ pl, cs[cs.length - 1]? = some pl := ⟨cs[cs.length - 1]'(by omega), List.getElem?_eq_getElem (by omega)⟩
    obtain ⟨ql, hql⟩ : ∃ ql, ss.getLast? = some ql := by
      cases e : ss.getLast? with
      | none => exact absurd (List.getLast?_eq_none_iff.mp e) ok.ne
      | some q => exact ⟨q, rfl⟩
    have elast : ql.1 = pl.1 := by
      have := letsG_last cs
      rw [hlet, hql, List.getLast?_eq_getElem?, hpl] at this
      exact Option.some.inj this
    obtain ⟨w1, w2⟩ := ok.wide p0 ql (by rw [hss]; rfl) hql
    have aF : atI ((entsK (grpOf gs) cs).map D.tup) 0 = some (.tup (entL (grpOf gs) 0 (p0.1, c0))) := atI_of (k := 0) (by rw [List.getElem?_map, entsK_at hc0]; rfl)
    have aE : atI ((entsK (grpOf gs) cs).map D.tup) (-1) = some (.tup (entL (grpOf gs) (cs.length - 1) pl)) := atI_neg1 (by rw [List.length_map, hel, List.getElem?_map, entsK_at hpl]; rfl)
    refine jss_cons (js_ifF (jt_w (jw_or (t := false) (u := false) (JT.to (jt_cm (j_bin (j_ix (j_ix (jv 1 rfl) (j_neg j_int) (ixd_L aE)) j_int (ixd_T rfl)) (j_ix (j_ix (jv 1 rfl) j_int (ixd_L aF)) j_int (ixd_T rfl)) od_subI) (jv 2 rfl) cd_geI) (decide_eq_false (by omega))) (fun _ => jw_or1 (JT.to (jt_cm (j_ix (j_ix (jv 1 rfl) j_int (ixd_L aF)) j_int (ixd_T rfl)) j_int cd_gtI) (decide_eq_false (by omega)))))) (jss_nil ?_))
    refine jss_cons (js_setN (i := 5) (jn_lst ja_nil) ?_ nd)
    refine jss_cons (js_each (i := 4) (entsK (grpOf gs) cs) D.tup (fun k ρ => ∃ o4, ρ = [some (.fz (limW wd gs a b)), some (.fz (.lst ((entsK (grpOf gs) cs).map D.tup))), some (.fz (.int m)), some (.fz (.int mo)), o4, some (.ow (.lst ((letsG (cs.take k)).map pairI)))]) (ji_list (jv 1 rfl)) nd ⟨_, rfl⟩ ?_ ?_)
    · rintro k x _ hk ⟨o4, rfl⟩
      obtain ⟨p, hp, rfl⟩ := entsK_get hk
      have hkl := (List.getElem?_eq_some_iff.mp hp).1
      have etk : cs.take (k + 1) = cs.take k ++ [p] := by rw [List.take_add_one, hp]; rfl
      have hL1 : (letsG (cs.take k)).length ≤ k := Nat.le_trans (letsG_len _) (by rw [List.length_take]; omega)
      have hL2 := letsG_last (cs.take k)
      have e1 : letsG (cs.take (k + 1)) = stepG (letsG (cs.take k)) p := by rw [etk, letsG_snoc]
      generalize hLd : letsG (cs.take k) = L at hL1 hL2 e1 ⊢
      have lenL : lenD (.lst (L.map pairI)) = some L.length := by show some _ = _; rw [List.length_map]
      rcases List.eq_nil_or_concat L with rfl | ⟨l, q, rfl⟩
      · refine jss_cons (js_ifF (jt_w (jw_andF (JT.to (jt_cm (jb_len T (ja_cons (jv 5 rfl) ja_nil) lenL) j_int cd_gtI) (by decide)))) (jss_cons (js_appendT (i := 5) rfl (ja_cons (j_ix (jv 4 rfl) j_int (ixd_T rfl)) (ja_cons (j_ix (jv 4 rfl) j_int (ixd_T rfl)) ja_nil)) rfl (show 2 ≤ sizeLine by decide) (by decide) (jss_nil (jss_nil ⟨some (.fz (.tup (entL (grpOf gs) k p))), ?_⟩)))))
        rw [e1]; rfl
      · rw [List.concat_eq_append] at *
        have lq : atI ((l ++ [q]).map pairI) (-1) = some (pairI q) := atI_last (by rw [List.map_append, List.map_singleton, List.getLast?_concat])
        by_cases e : q.1 = p.1
        · have hwg : wd ≠ .gap := fun hw => by
            obtain ⟨g1, _⟩ := hgap hw
            rw [List.getLast?_concat, List.getLast?_eq_getElem?] at hL2
            cases z : (cs.take k)[(cs.take k).length - 1]? with
            | none => rw [z] at hL2; cases hL2
            | some y =>
              rw [z] at hL2
              have hy : q.1 = y.1 := Option.some.inj hL2
              have hk0 : 1 ≤ k := by
                rcases Nat.eq_zero_or_pos k with k0 | k0
                · rw [k0] at z; cases z
                · exact k0
              rw [List.length_take, Nat.min_eq_left (by omega), List.getElem?_take, if_pos (by omega)] at z
              have asc := ok.asc
              rw [← g1] at asc
              have := List.pairwise_iff_getElem.mp asc (k - 1) k (by omega) hkl (by omega)
              rw [List.getElem?_eq_some_iff] at z hp
              obtain ⟨_, z⟩ := z
              obtain ⟨_, hp⟩ := hp
              rw [z, hp] at this
              omega
          refine jss_cons (js_ifT (JT.to (jt_w (jw_and (t := true) (u := true) (JT.to (jt_cm (jb_len T (ja_cons (jv 5 rfl) ja_nil) lenL) j_int cd_gtI) (decide_eq_true (by rw [List.length_append]; show (0 : Int) < ((l.length + 1 : Nat) : Int); omega))) (fun _ => jw_and1 (JT.to (jt_cm (j_ix (j_ix (jv 5 rfl) (j_neg j_int) (ixd_L lq)) j_int (ixd_T rfl)) (j_ix (jv 4 rfl) j_int (ixd_T rfl)) cd_eqI) (decide_eq_true e))))) rfl) (jss_cons (js_ifF ((jt_cm (j_ix (jv 0 rfl) j_int (ixd_T rfl)) j_str cd_eqS).to (wg.trans (decide_eq_false hwg))) (jss_nil (jss_cons (js_lsetT (i := 5) rfl (ja_cons (j_ix (jv 4 rfl) j_int (ixd_T rfl)) (ja_cons (j_bin (j_ix (j_ix (jv 5 rfl) (j_neg j_int) (ixd_L lq)) j_int (ixd_T rfl)) (j_ix (jv 4 rfl) j_int (ixd_T rfl)) od_addI) ja_nil)) rfl (show 2 ≤ sizeLine by decide) (j_neg j_int) (ixN_last (by rw [List.length_map, List.length_append]; show 1 ≤ l.length + 1; omega)) (jss_nil (jss_nil ⟨some (.fz (.tup (entL (grpOf gs) k p))), ?_⟩))))))))
          rw [e1, stepG_snoc, if_pos e, List.map_append, List.map_append]
          show List.set _ 5 _ = _
          rw [show ((l.map pairI) ++ [q].map pairI).set (((l.map pairI) ++ [q].map pairI).length - 1) (D.tup [D.int p.1, D.int (q.2 + p.2)]) = l.map pairI ++ [D.tup [D.int p.1, D.int (q.2 + p.2)]] from set_last _ _ _]
          rfl
        · refine jss_cons (js_ifF (JT.to (jt_w (jw_and (t := true) (u := false) (JT.to (jt_cm (jb_len T (ja_cons (jv 5 rfl) ja_nil) lenL) j_int cd_gtI) (decide_eq_true (by rw [List.length_append]; show (0 : Int) < ((l.length + 1 : Nat) : Int); omega))) (fun _ => jw_and1 (JT.to (jt_cm (j_ix (j_ix (jv 5 rfl) (j_neg j_int) (ixd_L lq)) j_int (ixd_T rfl)) (j_ix (jv 4 rfl) j_int (ixd_T rfl)) cd_eqI) (decide_eq_false e))))) rfl) (jss_cons (js_appendT (i := 5) rfl (ja_cons (j_ix (jv 4 rfl) j_int (ixd_T rfl)) (ja_cons (j_ix (jv 4 rfl) j_int (ixd_T rfl)) ja_nil)) rfl (show 2 ≤ sizeLine by decide) (by rw [List.length_map]; exact lt_sz (by omega)) (jss_nil (jss_nil ⟨some (.fz (.tup (entL (grpOf gs) k p))), ?_⟩)))))
          rw [e1, stepG_snoc, if_neg e, List.map_append (l₁ := l ++ [q])]
          rfl
    rintro _ ⟨o4, rfl⟩
    rw [hel, List.take_length, hlet]
    have win : decide (wd.s ∈ (["held", "pool"] : List Str)) = false := by cases wd <;> decide +kernel
    have hlen : ss.length ≤ 10000 := by rw [← hlet]; exact Nat.le_trans (letsG_len _) few
    by_cases hw : wd = .gap
    · subst hw
      obtain ⟨_, g2⟩ := hgap rfl
      exact jss_cons (js_ret (J.to (j_or (t := false) (u := true) (J.to (j_cm (j_ix (jv 0 rfl) j_int (ixd_T rfl)) (J.to (j_lst (ja_cons j_str (ja_cons j_str ja_nil))) (d' := .lst ((["held", "pool"] : List Str).map D.str)) rfl) cd_inStrL) (congrArg D.bl win)) (fun _ => j_one (j_call cG hr (ja_cons (jv 0 rfl) (ja_cons (jv 5 rfl) ja_nil)) ⟨gs, a, b, ss, rfl, ok.ne, hlen, g2, rfl⟩ (by intro _ h; exact h)))) rfl) rfl)
    · obtain ⟨a1, a2, sp⟩ := ok.flow hw
      exact jss_cons (js_ret (J.to (j_or (t := false) (u := true) (J.to (j_cm (j_ix (jv 0 rfl) j_int (ixd_T rfl)) (J.to (j_lst (ja_cons j_str (ja_cons j_str ja_nil))) (d' := .lst ((["held", "pool"] : List Str).map D.str)) rfl) cd_inStrL) (congrArg D.bl win)) (fun _ => j_one (j_call cK hr (ja_cons (jv 0 rfl) (ja_cons (jv 5 rfl) ja_nil)) ⟨wd, gs, a, b, ss, rfl, hw, a1, a2, ok.b1.1, ok.b1.2, sp, rfl⟩ (by intro _ h; exact h)))) rfl) rfl)
end
end Toy

namespace Toy
open PySem PyProof.Rows L2 Pf
def tM : Wd → Int → Nat → Int
  | .spn, b, 0 => b - 1
  | _, b, i => (i : Int) * b
def tC : Wd → Int → Nat → Int
  | .gap, _, _ => 1000
  | .buc, a, 0 => a
  | .buc, _, _ => 1
  | _, a, _ => a
def lenW : Wd → Int → Int → Nat
  | .win, b, m => ((m + b - 1) / b).toNat
  | .gap, b, m => ((m + b - 1) / b).toNat
  | .spn, b, m => ((m - 1 + b - 1) / b).toNat + 1
  | .buc, b, m => ((m - 1) / b).toNat + 1
theorem sums_len (wd : Wd) (a b m : Int) : (sumsK wd a b m).length = lenW wd b m := by
  cases wd <;> simp [sumsK, lenW]
theorem sums_get {wd : Wd} {a b m : Int} {i : Nat} {p : Int × Int} (h : (sumsK wd a b m)[i]? = some p) : i < lenW wd b m ∧ p = (tM wd b i, tC wd a i) := by
  have hl := (List.getElem?_eq_some_iff.mp h).1
  rw [sums_len] at hl
  refine ⟨hl, ?_⟩
  cases wd
  · unfold sumsK at h
    rw [List.getElem?_map] at h
    cases q : (List.range ((m + b - 1) / b).toNat)[i]? with
    | none => rw [q] at h; cases h
    | some j =>
      have := (List.getElem?_eq_some_iff.mp q).2
      rw [List.getElem_range] at this
      subst this
      rw [q] at h; cases h; rfl
  · unfold sumsK at h
    cases i with
    | zero => cases h; rfl
    | succ i =>
      rw [List.getElem?_cons_succ, List.getElem?_map] at h
      cases q : (List.range ((m - 1 + b - 1) / b).toNat)[i]? with
      | none => rw [q] at h; cases h
      | some j =>
        have := (List.getElem?_eq_some_iff.mp q).2
        rw [List.getElem_range] at this
        subst this
        rw [q] at h; cases h
        show ((1 + (i : Int)) * b, a) = (((i + 1 : Nat) : Int) * b, a)
        rw [Int.natCast_succ, Int.add_comm]
  · unfold sumsK at h
    cases i with
    | zero => cases h; show (0, a) = (((0 : Nat) : Int) * b, a); rw [Int.natCast_zero, Int.zero_mul]
    | succ i =>
      rw [List.getElem?_cons_succ, List.getElem?_map] at h
      cases q : (List.range ((m - 1) / b).toNat)[i]? with
      | none => rw [q] at h; cases h
      | some j =>
        have := (List.getElem?_eq_some_iff.mp q).2
        rw [List.getElem_range] at this
        subst this
        rw [q] at h; cases h
        show ((1 + (i : Int)) * b, 1) = (((i + 1 : Nat) : Int) * b, 1)
        rw [Int.natCast_succ, Int.add_comm]
  · unfold sumsK at h
    rw [List.getElem?_map] at h
    cases q : (List.range ((m + b - 1) / b).toNat)[i]? with
    | none => rw [q] at h; cases h
    | some j =>
      have := (List.getElem?_eq_some_iff.mp q).2
      rw [List.getElem_range] at this
      subst this
      rw [q] at h; cases h; rfl
theorem mul_mono {i j : Nat} {b : Int} (hb : 1 ≤ b) (h : i < j) : (i : Int) * b + b ≤ (j : Int) * b := by
  have := Int.mul_le_mul_of_nonneg_right (show ((i : Int) + 1) ≤ (j : Int) by omega) (show 0 ≤ b by omega)
  rw [Int.add_mul, Int.one_mul] at this
  exact this
theorem tM_lt {wd : Wd} {b : Int} {i j : Nat} (hb : 1 ≤ b) (h : i < j) : tM wd b i < tM wd b j := by
  have h1 := mul_mono hb h
  have h2 : (0 : Int) ≤ (i : Int) * b := Int.mul_nonneg (by omega) (by omega)
  cases wd
  · show (i : Int) * b < (j : Int) * b; omega
  · cases j with
    | zero => omega
    | succ j =>
      cases i with
      | zero =>
        rw [Int.natCast_zero, Int.zero_mul] at h1
        show b - 1 < ((j + 1 : Nat) : Int) * b
        omega
      | succ i => show ((i + 1 : Nat) : Int) * b < ((j + 1 : Nat) : Int) * b; omega
  · show (i : Int) * b < (j : Int) * b; omega
  · show (i : Int) * b < (j : Int) * b; omega
theorem tM0 (wd : Wd) {b : Int} (hb : 1 ≤ b) : 0 ≤ tM wd b 0 ∧ tM wd b 0 ≤ b - 1 := by
  cases wd
  · show 0 ≤ ((0 : Nat) : Int) * b ∧ ((0 : Nat) : Int) * b ≤ b - 1; rw [Int.natCast_zero, Int.zero_mul]; omega
  · show 0 ≤ b - 1 ∧ b - 1 ≤ b - 1; omega
  · show 0 ≤ ((0 : Nat) : Int) * b ∧ ((0 : Nat) : Int) * b ≤ b - 1; rw [Int.natCast_zero, Int.zero_mul]; omega
  · show 0 ≤ ((0 : Nat) : Int) * b ∧ ((0 : Nat) : Int) * b ≤ b - 1; rw [Int.natCast_zero, Int.zero_mul]; omega
theorem le_of_ediv {i : Nat} {x b : Int} (hb : 1 ≤ b) (hx : 0 ≤ x / b) (h : i ≤ (x / b).toNat) : (i : Int) * b ≤ x := by
  have h1 := Int.mul_le_mul_of_nonneg_right (show (i : Int) ≤ x / b by omega) (show 0 ≤ b by omega)
  exact Int.le_trans h1 (Int.ediv_mul_le x (by omega))
theorem tM_rng {wd : Wd} {b m : Int} {i : Nat} (hb : 1 ≤ b) (hm : 1 ≤ m) (h : i < lenW wd b m) : tM wd b 0 ≤ tM wd b i ∧ tM wd b i - tM wd b 0 < m := by
  have p0 : 0 ≤ (m + b - 1) / b := Int.ediv_nonneg (by omega) (by omega)
  have q0 : 0 ≤ (m - 1 + b - 1) / b := Int.ediv_nonneg (by omega) (by omega)
  have r0 : 0 ≤ (m - 1) / b := Int.ediv_nonneg (by omega) (by omega)
  refine ⟨?_, ?_⟩
  · rcases Nat.eq_zero_or_pos i with rfl | z
    · exact Int.le_refl _
    · exact Int.le_of_lt (tM_lt hb z)
  · cases wd
    · have h1 := le_of_ediv (i := i + 1) hb p0 (show i + 1 ≤ ((m + b - 1) / b).toNat from h)
      rw [Int.natCast_succ, Int.add_mul, Int.one_mul] at h1
      show (i : Int) * b - ((0 : Nat) : Int) * b < m
      rw [Int.natCast_zero, Int.zero_mul]; omega
    · cases i with
      | zero => show b - 1 - (b - 1) < m; omega
      | succ i =>
        have h1 := le_of_ediv (i := i + 1) hb q0 (by have : i + 1 < ((m - 1 + b - 1) / b).toNat + 1 := h; omega)
        show ((i + 1 : Nat) : Int) * b - (b - 1) < m
        omega
    · have h1 := le_of_ediv (i := i) hb r0 (by have : i < ((m - 1) / b).toNat + 1 := h; omega)
      show (i : Int) * b - ((0 : Nat) : Int) * b < m
      rw [Int.natCast_zero, Int.zero_mul]; omega
    · have h1 := le_of_ediv (i := i + 1) hb p0 (show i + 1 ≤ ((m + b - 1) / b).toNat from h)
      rw [Int.natCast_succ, Int.add_mul, Int.one_mul] at h1
      show (i : Int) * b - ((0 : Nat) : Int) * b < m
      rw [Int.natCast_zero, Int.zero_mul]; omega
theorem costs_asc : ∀ {ss : List (Int × Int)}, (ss.Pairwise fun x y => x.1 < y.1) → (costsK ss).Pairwise fun x y => x.1 ≤ y.1
  | [], _ => List.Pairwise.nil
  | p :: r, h => by
    rw [List.pairwise_cons] at h
    rw [costsK_cons]
    refine List.pairwise_append.mpr ⟨?_, costs_asc h.2, fun x hx y hy => ?_⟩
    · rw [List.pairwise_map]
      exact List.Pairwise.imp (R := fun _ _ => True) (fun _ => Int.le_refl _) (List.pairwise_of_forall fun _ _ => trivial)
    · obtain ⟨c, _, rfl⟩ := List.mem_map.mp hx
      obtain ⟨_, _, z, hz, e⟩ := costs_mem hy
      have := h.1 z hz
      show p.1 ≤ y.1
      omega
theorem costs_gap : ∀ {ss : List (Int × Int)}, (∀ p ∈ ss, p.2 = 1000) → costsK ss = ss
  | [], _ => rfl
  | p :: r, h => by
    have hp := h p List.mem_cons_self
    rw [costsK_cons, costs_gap fun q hq => h q (List.mem_cons_of_mem _ hq), hp]
    show (p.1, (1000 : Int)) :: r = p :: r
    rw [← hp]
theorem right_of {wd : Wd} {gs : List Str} {a b m : Int} (hgs : OkGs gs) (ha0 : 0 ≤ a) (ha2 : a ≤ 1000000) (hb1 : 1 ≤ b) (hb2 : b ≤ 1000000) (hm1 : 1 ≤ m) (hm2 : m ≤ 1000000) (hz : mostW wd a b m ≠ 0) (hmo : mostW wd a b m ≤ 10000) : RightOk wd gs a b m (mostW wd a b m) (sumsK wd a b m) := by
  have ha := most_pos hb1 hm1 hz ha0
  have hlen := len_costs hb1 hm1 ha0 hz
  have hpos := sums_pos (b := b) (m := m) ha
  have hsum := sums_sum hb1 hm1 ha
  have hsl : ((sumsK wd a b m).length : Int) ≤ 10000 := by have := len_le_sum hpos; omega
  have get : ∀ {i : Nat} {p : Int × Int}, (sumsK wd a b m)[i]? = some p → i < lenW wd b m ∧ p = (tM wd b i, tC wd a i) := fun h => sums_get h
  have asc : (sumsK wd a b m).Pairwise fun x y => x.1 < y.1 := List.pairwise_iff_getElem.mpr fun i j hi hj hij => by
    rw [(get (List.getElem?_eq_getElem hi)).2, (get (List.getElem?_eq_getElem hj)).2]
    exact tM_lt hb1 hij
  have m0 := tM0 wd hb1
  have rng : ∀ p ∈ sumsK wd a b m, 0 ≤ p.1 ∧ p.1 ≤ 1000000000 := fun p hp => by
    obtain ⟨i, hi⟩ := List.getElem?_of_mem hp
    obtain ⟨h1, rfl⟩ := get hi
    have := tM_rng hb1 hm1 h1
    show 0 ≤ tM wd b i ∧ tM wd b i ≤ 1000000000
    omega
  have cancel : ∀ i : Nat, (i : Int) * b / b = i := fun i => Int.mul_ediv_cancel _ (by omega)
  have stp : ∀ i : Nat, ((i + 1 : Nat) : Int) * b = (i : Int) * b + b := fun i => by rw [Int.natCast_succ, Int.add_mul, Int.one_mul]
  refine ⟨hgs, ⟨fun p hp => ?_, costs_asc asc, by omega⟩, fun e => ?_, hpos, asc, ?_, fun p q hp hq => ?_, ⟨hb1, hb2⟩, fun hw => ⟨by have := ha hw; omega, ha2, ?_⟩, fun hw => ?_⟩
  · obtain ⟨c1, c2, z, hz2, e⟩ := costs_mem hp
    have := rng z hz2
    omega
  · rw [e] at hsum
    exact hz hsum.symm
  · rw [costs_sum fun p hp => by have := hpos p hp; omega, hsum]
  · rw [List.getLast?_eq_getElem?] at hq
    obtain ⟨h1, rfl⟩ := get hp
    obtain ⟨h2, rfl⟩ := get hq
    have := tM_rng hb1 hm1 h2
    show tM wd b _ - tM wd b 0 < m ∧ tM wd b 0 ≤ 1000000
    omega
  · have ha1 := ha hw
    refine ⟨fun e => ?_, by omega, fun p hp => ?_, fun e i p q hp hq => ?_, fun e i p q hp hq => ?_, fun e p hp => ?_, fun e i p q hp hq => ?_⟩
    · rw [e] at hsum
      exact hz hsum.symm
    · obtain ⟨i, hi⟩ := List.getElem?_of_mem hp
      obtain ⟨_, rfl⟩ := get hi
      show tC wd a i ≤ a
      cases wd
      · exact Int.le_refl _
      · exact Int.le_refl _
      · cases i with
        | zero => exact Int.le_refl _
        | succ i => show (1 : Int) ≤ a; omega
      · exact absurd rfl hw
    · subst e
      obtain ⟨_, rfl⟩ := get hp
      obtain ⟨_, rfl⟩ := get hq
      show (i : Int) * b = ((i + 1 : Nat) : Int) * b - b
      rw [stp]; omega
    · obtain ⟨_, rfl⟩ := get hp
      obtain ⟨_, rfl⟩ := get hq
      cases wd
      · exact absurd rfl e
      · cases i with
        | zero =>
          show (b - 1) / b ≠ ((0 + 1 : Nat) : Int) * b / b
          rw [cancel, Int.ediv_eq_zero_of_lt (by omega) (by omega)]
          decide
        | succ i =>
          show ((i + 1 : Nat) : Int) * b / b ≠ ((i + 1 + 1 : Nat) : Int) * b / b
          rw [cancel, cancel]; omega
      · show (i : Int) * b / b ≠ ((i + 1 : Nat) : Int) * b / b
        rw [cancel, cancel]; omega
      · exact absurd rfl hw
    · subst e
      obtain ⟨_, rfl⟩ := get hp
      rfl
    · subst e
      obtain ⟨_, rfl⟩ := get hp
      obtain ⟨_, rfl⟩ := get hq
      refine ⟨?_, rfl⟩
      show ((i + 1 : Nat) : Int) * b - (i : Int) * b = b
      rw [stp]; omega
  · subst hw
    refine ⟨costs_gap fun p hp => ?_, fun i p q hp hq => ?_⟩
    · obtain ⟨i, hi⟩ := List.getElem?_of_mem hp
      obtain ⟨_, rfl⟩ := get hi
      rfl
    · obtain ⟨_, rfl⟩ := get hp
      obtain ⟨_, rfl⟩ := get hq
      show b ≤ ((i + 1 : Nat) : Int) * b - (i : Int) * b
      rw [stp]; omega
end Toy

namespace Toy
open PySem PyProof.Rows L2 Pf
section
variable {P : Program} {w : World} {K : PySem.W.Frag} {mg : Str → Option Value} {base : Heap}
theorem jpI {X : Cx} {e : Expr} {ρ : Rho} {P1 P2 : D → Prop} (h : JP X e ρ P1) (k : ∀ d, P1 d → P2 d) : JP X e ρ P2 := ⟨fun W σ H ex hV Q g => h.run W σ H ex hV Q fun d hd => g d (k d hd)⟩
abbrev sLaw : Stmt := top 40
abbrev nLaw : List Str := ["script", "numbers", "word", "limit", "moments", "most", "row"]
theorem scLaw : FnScope nLaw ["script"] (defScope sLaw) := ⟨rfl, rfl, rfl, by decide +kernel, rfl, by decide +kernel, by decide +kernel⟩
def gLaw : List D → (D → Prop) → Prop := fun ds P => ∃ (ns : List Int), ds = [.scr ns] ∧ ns.length ≤ 63 ∧ P = fun d => d = .bl true
def LimOk (d : D) : Prop := (∃ x, isFlow2 x d) ∨ isHeld d ∨ isPool2 d
theorem tooFit : fitD 3 tooD = true := by decide +kernel
theorem ok_law {f : Addr} {fd : FuncData} (F : Fun K "law" "law" sLaw f fd) (T : Bt mg) (cN : PFn P w K mg base 2 "_law_numbers" 2 gNumbers) (cL : PFn P w K mg base 3 "_law_limit" 3 gLimit) (cLF : PFn P w K mg base 1 "_law_larger" 3 gLaF) (cLH : PFn P w K mg base 1 "_law_larger" 3 gLaH) (cLP : PFn P w K mg base 1 "_law_larger" 3 gLaP)
    (cM : PFn P w K mg base 3 "most_within" 2 gMost) (cMd : PFn P w K mg base 5 "_law_made" 2 gMd) (cRi : PFn P w K mg base 7 "_law_right" 4 gRi) : FnOk P w K mg base CX0 8 f fd ["script"] (spP K 1 gLaw) := by
  refine fn_pure F scLaw (by rintro ds Pd ⟨_, rfl, _⟩; rfl) fun cdv A outer s H E ds Pd hr hG => ?_
  obtain ⟨sc, rfl, hsc, rfl⟩ := hG
  have nd := scLaw.nd
  refine jss_cons (js_setP (i := 1) (jp_call cN hr (ja_cons (jv 0 rfl) (ja_cons j_int ja_nil)) ⟨sc, 16, rfl, hsc, by decide, rfl⟩) ?_ nd)
  rintro _ ⟨ns, rfl, hl, hb⟩
  have hx : ∀ i : Nat, i < 16 → 0 ≤ ns.getD i 0 ∧ ns.getD i 0 < 1009 := fun i hi => hb _ (getD_mem (by omega))
  obtain ⟨dw, hdw, hmw⟩ := atI_mem (L := [D.str "window", D.str "span", D.str "bucket", D.str "gap", D.str "held", D.str "pool"]) (i := ns.getD (6 : Int).toNat 0 % 6) (by omega) (by simp only [List.length_cons, List.length_nil]; omega)
  have hw : ∃ wd : Str, dw = .str wd ∧ ((∃ x : Wd, wd = x.s) ∨ wd = "held" ∨ wd = "pool") := by
    simp only [List.mem_cons, List.not_mem_nil, or_false] at hmw
    rcases hmw with h | h | h | h | h | h
    · exact ⟨_, h, .inl ⟨.win, rfl⟩⟩
    · exact ⟨_, h, .inl ⟨.spn, rfl⟩⟩
    · exact ⟨_, h, .inl ⟨.buc, rfl⟩⟩
    · exact ⟨_, h, .inl ⟨.gap, rfl⟩⟩
    · exact ⟨_, h, .inr (.inl rfl)⟩
    · exact ⟨_, h, .inr (.inr rfl)⟩
  obtain ⟨wd, rfl, hw⟩ := hw
  refine jss_cons (js_set (i := 2) (j_ix (j_lst (ja_cons j_str (ja_cons j_str (ja_cons j_str (ja_cons j_str (ja_cons j_str (ja_cons j_str ja_nil))))))) (j_bin (jb_int T (ja_cons (j_ix (jv 1 rfl) j_int (ixd_I (by omega) (by omega))) ja_nil)) j_int (od_modI (by decide))) (ixd_L hdw)) ?_ nd)
  refine jss_cons (js_setP (i := 3) (P := LimOk) ?_ ?_ nd)
  · rcases hw with ⟨x, rfl⟩ | rfl | rfl
    · exact jpI (jp_call1 cLF hr (jp_call cL hr (ja_cons (jv 1 rfl) (ja_cons j_int (ja_cons (jv 2 rfl) ja_nil))) ⟨ns, x.s, rfl, hl, .inl ⟨x, rfl, rfl⟩⟩) (ja_cons (jv 1 rfl) (ja_cons j_int ja_nil)) (fun d ⟨gs, a, b, e, hgs, h1, h2, h3, h4⟩ => ⟨x, gs, a, b, ns, by rw [e], hgs, h1, h2, h3, h4, hl, hb, rfl⟩)) fun d h => .inl ⟨x, h⟩
    · exact jpI (jp_call1 cLH hr (jp_call cL hr (ja_cons (jv 1 rfl) (ja_cons j_int (ja_cons (jv 2 rfl) ja_nil))) ⟨ns, "held", rfl, hl, .inr (.inl ⟨rfl, rfl⟩)⟩) (ja_cons (jv 1 rfl) (ja_cons j_int ja_nil)) (fun d ⟨gs, a, e, hgs, h1⟩ => ⟨gs, a, ns, by rw [e], hgs, h1, hl, hb, rfl⟩)) fun d h => .inr (.inl h)
    · exact jpI (jp_call1 cLP hr (jp_call cL hr (ja_cons (jv 1 rfl) (ja_cons j_int (ja_cons (jv 2 rfl) ja_nil))) ⟨ns, "pool", rfl, hl, .inr (.inr ⟨rfl, rfl⟩)⟩) (ja_cons (jv 1 rfl) (ja_cons j_int ja_nil)) (fun d ⟨shs, a, e, h1, _, _⟩ => ⟨shs, a, ns, by rw [e], h1, hl, hb, rfl⟩)) fun d h => .inr (.inr h)
  intro lim hlim
  have h8 : 0 ≤ ns.getD (8 : Int).toNat 0 ∧ ns.getD (8 : Int).toNat 0 < 1009 := hx 8 (by omega)
  have i8 : IxD (.lst (ns.map D.int)) (.int 8) (.int (ns.getD (8 : Int).toNat 0)) := ixd_I (by omega) (by omega)
  generalize ns.getD (8 : Int).toNat 0 = n8 at h8 i8
  refine jss_cons (js_set (i := 4) (j_bin j_int (j_bin (jb_int T (ja_cons (j_ix (jv 1 rfl) j_int i8) ja_nil)) j_int (od_modI (by decide))) od_addI) ?_ nd)
  have i9 : IxD (.lst (ns.map D.int)) (.int 9) (.int (ns.getD (9 : Int).toNat 0)) := ixd_I (by omega) (by omega)
  generalize ns.getD (9 : Int).toNat 0 = n9 at i9
  refine jss_mid (fun ρ => ∃ M : Int, ρ = [some (.fz (.scr sc)), some (.fz (.lst (ns.map D.int))), some (.fz (.str wd)), some (.fz lim), some (.fz (.int M)), none, none] ∧ 1 ≤ M ∧ M ≤ 1000000) (js_if (jt_cm (j_bin (jb_int T (ja_cons (j_ix (jv 1 rfl) j_int i9) ja_nil)) j_int (od_modI (by decide))) j_int cd_eqI) (fun _ => ?_) (fun _ => jss_nil ⟨_, rfl, _, rfl, by omega, by omega⟩)) ?_
  · obtain ⟨v, hv, hv1, hv2⟩ : ∃ v : Int, atI [D.int 7, D.int 991] (n9 / 3 % 2) = some (.int v) ∧ 0 ≤ v ∧ v ≤ 991 := by
      rcases Int.emod_two_eq (n9 / 3) with e | e
      · exact ⟨7, by rw [e]; rfl, by decide, by decide⟩
      · exact ⟨991, by rw [e]; rfl, by decide, by decide⟩
    have b1 := Int.mul_nonneg h8.1 hv1
    have b2 := Int.mul_le_mul (show n8 ≤ 1008 by omega) hv2 hv1 (by decide)
    exact jss_cons (js_set (i := 4) (j_bin j_int (j_bin (jb_int T (ja_cons (j_ix (jv 1 rfl) j_int i8) ja_nil)) (j_ix (j_lst (ja_cons j_int (ja_cons j_int ja_nil))) (j_bin (j_bin (jb_int T (ja_cons (j_ix (jv 1 rfl) j_int i9) ja_nil)) j_int (od_fdivI ⟨by decide, by decide⟩)) j_int (od_modI (by decide))) (ixd_L hv)) (od_mulI (cmulL (by omega) (by omega)))) od_addI) (jss_nil ⟨_, rfl, _, rfl, by omega, by omega⟩) nd)
  rintro _ ⟨M, rfl, hM1, hM2⟩
  rcases hlim with ⟨x, gs, a, b, rfl, hgs, a1, a2, b1, b2⟩ | ⟨gs, a, rfl, hgs, a1⟩ | ⟨shs, a, rfl, h8s⟩
  · refine jss_cons (js_set (i := 5) (j_call cM hr (ja_cons (jv 3 rfl) (ja_cons (jv 4 rfl) ja_nil)) (.inl ⟨x, gs, a, b, M, rfl, a1, by omega, b1, by omega, rfl⟩) (by intro _ h; exact h)) ?_ nd)
    by_cases hbig : 10000 < mostW x a b M
    · refine jss_cons (js_set (i := 6) (d := tooD) (j_call cMd hr (ja_cons (jv 3 rfl) (ja_cons (jv 4 rfl) ja_nil)) (.inl ⟨.inl ⟨x, gs, a, b, M, rfl, a1, a2, b1, b2, hM1, hM2, hbig⟩, rfl⟩) (by intro _ h; exact h)) ?_ nd)
      refine jss_cons (js_ifT (jt_w (jw_or (t := false) (u := true) (JT.to (jt_cm (jv 5 rfl) j_non cd_isN) rfl) (fun _ => jw_or1 (JT.to (jt_cm (jv 5 rfl) j_int cd_gtI) (decide_eq_true (by omega)))))) ?_)
      exact jss_cons (js_ret (J.to (j_cm (jv 6 rfl) (j_tup (ja_cons j_str (ja_cons j_bl ja_nil))) (cd_eqF 3 hr.units tooFit tooFit)) (congrArg D.bl (eqvD_refl 3 _ tooFit))) rfl)
    · refine jss_cons (js_set (i := 6) (d := .lst ((rowW x gs a b M).map D.tup)) (j_call cMd hr (ja_cons (jv 3 rfl) (ja_cons (jv 4 rfl) ja_nil)) (.inr (.inl ⟨x, gs, a, b, M, rfl, a1, a2, b1, b2, hM1, hM2, by omega, rfl⟩)) (by intro _ h; exact h)) ?_ nd)
      refine jss_cons (js_ifF (jt_w (jw_or (t := false) (u := false) (JT.to (jt_cm (jv 5 rfl) j_non cd_isN) rfl) (fun _ => jw_or1 (JT.to (jt_cm (jv 5 rfl) j_int cd_gtI) (decide_eq_false (by omega)))))) (jss_nil ?_))
      refine jss_cons (js_ret (j_and (t := true) (u := true) (jb_isi (b := true) T (ja_cons (jv 6 rfl) (ja_cons (j_ty (T := "list") T.list (by decide +kernel)) ja_nil)) rfl (by rfl)) (fun _ => j_one (j_call (d := .bl true) cRi hr (ja_cons (jv 3 rfl) (ja_cons (jv 6 rfl) (ja_cons (jv 4 rfl) (ja_cons (jv 5 rfl) ja_nil)))) (P := fun d => d = .bl true) ⟨?_, rfl⟩ (by intro _ h; exact h)))) rfl)
      by_cases hz : mostW x a b M = 0
      · refine .inl ⟨limW x gs a b, M, ?_⟩
        unfold rowW
        rw [if_pos hz, hz]; rfl
      · refine .inr ⟨x, gs, a, b, M, mostW x a b M, sumsK x a b M, ?_, right_of hgs a1 a2 b1 b2 hM1 hM2 hz (by omega)⟩
        unfold rowW
        rw [if_neg hz]; rfl
  · by_cases ha : 0 < a
    · have e : optI (if decide (0 < a) = true then none else some 0) = .non := by rw [if_pos (decide_eq_true ha)]; rfl
      refine jss_cons (js_set (i := 5) (d := .non) (j_call cM hr (ja_cons (jv 3 rfl) (ja_cons (jv 4 rfl) ja_nil)) (.inr (.inl ⟨gs, a, M, rfl, rfl⟩)) (by intro _ h; rw [e] at h; exact h)) ?_ nd)
      refine jss_cons (js_set (i := 6) (d := tooD) (j_call cMd hr (ja_cons (jv 3 rfl) (ja_cons (jv 4 rfl) ja_nil)) (.inl ⟨.inr (.inl ⟨gs, a, M, rfl, ha⟩), rfl⟩) (by intro _ h; exact h)) ?_ nd)
      refine jss_cons (js_ifT (jt_w (jw_or (t := true) (u := true) (JT.to (jt_cm (jv 5 rfl) j_non cd_isN) rfl) (fun h => by cases h))) ?_)
      exact jss_cons (js_ret (J.to (j_cm (jv 6 rfl) (j_tup (ja_cons j_str (ja_cons j_bl ja_nil))) (cd_eqF 3 hr.units tooFit tooFit)) (congrArg D.bl (eqvD_refl 3 _ tooFit))) rfl)
    · have e : optI (if decide (0 < a) = true then none else some 0) = .int 0 := by rw [if_neg (by simpa using ha)]; rfl
      refine jss_cons (js_set (i := 5) (d := .int 0) (j_call cM hr (ja_cons (jv 3 rfl) (ja_cons (jv 4 rfl) ja_nil)) (.inr (.inl ⟨gs, a, M, rfl, rfl⟩)) (by intro _ h; rw [e] at h; exact h)) ?_ nd)
      refine jss_cons (js_set (i := 6) (d := .lst []) (j_call cMd hr (ja_cons (jv 3 rfl) (ja_cons (jv 4 rfl) ja_nil)) (.inr (.inr (.inl ⟨gs, a, M, rfl, by omega, rfl⟩))) (by intro _ h; exact h)) ?_ nd)
      refine jss_cons (js_ifF (jt_w (jw_or (t := false) (u := false) (JT.to (jt_cm (jv 5 rfl) j_non cd_isN) rfl) (fun _ => jw_or1 (JT.to (jt_cm (jv 5 rfl) j_int cd_gtI) (by decide))))) (jss_nil ?_))
      exact jss_cons (js_ret (j_and (t := true) (u := true) (jb_isi (b := true) T (ja_cons (jv 6 rfl) (ja_cons (j_ty (T := "list") T.list (by decide +kernel)) ja_nil)) rfl (by rfl)) (fun _ => j_one (j_call (d := .bl true) cRi hr (ja_cons (jv 3 rfl) (ja_cons (jv 6 rfl) (ja_cons (jv 4 rfl) (ja_cons (jv 5 rfl) ja_nil)))) ⟨.inl ⟨_, M, rfl⟩, rfl⟩ (by intro _ h; exact h)))) rfl)
  · cases ha : shs.any (canSh (a - ownS shs)) with
    | true =>
      have e : optI (if shs.any (canSh (a - ownS shs)) = true then none else some 0) = .non := by rw [if_pos ha]; rfl
      refine jss_cons (js_set (i := 5) (d := .non) (j_call cM hr (ja_cons (jv 3 rfl) (ja_cons (jv 4 rfl) ja_nil)) (.inr (.inr ⟨shs, a, M, rfl, h8s, rfl⟩)) (by intro _ h; rw [e] at h; exact h)) ?_ nd)
      refine jss_cons (js_set (i := 6) (d := tooD) (j_call cMd hr (ja_cons (jv 3 rfl) (ja_cons (jv 4 rfl) ja_nil)) (.inl ⟨.inr (.inr ⟨shs, a, M, rfl, h8s, ha⟩), rfl⟩) (by intro _ h; exact h)) ?_ nd)
      refine jss_cons (js_ifT (jt_w (jw_or (t := true) (u := true) (JT.to (jt_cm (jv 5 rfl) j_non cd_isN) rfl) (fun h => by cases h))) ?_)
      exact jss_cons (js_ret (J.to (j_cm (jv 6 rfl) (j_tup (ja_cons j_str (ja_cons j_bl ja_nil))) (cd_eqF 3 hr.units tooFit tooFit)) (congrArg D.bl (eqvD_refl 3 _ tooFit))) rfl)
    | false =>
      have e : optI (if shs.any (canSh (a - ownS shs)) = true then none else some 0) = .int 0 := by rw [if_neg (by rw [ha]; decide)]; rfl
      refine jss_cons (js_set (i := 5) (d := .int 0) (j_call cM hr (ja_cons (jv 3 rfl) (ja_cons (jv 4 rfl) ja_nil)) (.inr (.inr ⟨shs, a, M, rfl, h8s, rfl⟩)) (by intro _ h; rw [e] at h; exact h)) ?_ nd)
      refine jss_cons (js_set (i := 6) (d := .lst []) (j_call cMd hr (ja_cons (jv 3 rfl) (ja_cons (jv 4 rfl) ja_nil)) (.inr (.inr (.inr ⟨shs, a, M, rfl, h8s, ha, rfl⟩))) (by intro _ h; exact h)) ?_ nd)
      refine jss_cons (js_ifF (jt_w (jw_or (t := false) (u := false) (JT.to (jt_cm (jv 5 rfl) j_non cd_isN) rfl) (fun _ => jw_or1 (JT.to (jt_cm (jv 5 rfl) j_int cd_gtI) (by decide))))) (jss_nil ?_))
      exact jss_cons (js_ret (j_and (t := true) (u := true) (jb_isi (b := true) T (ja_cons (jv 6 rfl) (ja_cons (j_ty (T := "list") T.list (by decide +kernel)) ja_nil)) rfl (by rfl)) (fun _ => j_one (j_call (d := .bl true) cRi hr (ja_cons (jv 3 rfl) (ja_cons (jv 6 rfl) (ja_cons (jv 4 rfl) (ja_cons (jv 5 rfl) ja_nil)))) ⟨.inl ⟨_, M, rfl⟩, rfl⟩ (by intro _ h; exact h)))) rfl)
end
end Toy

namespace Toy
open PySem PyProof.Rows L2 Pf
abbrev sName : Stmt := top 10
abbrev sKey : Stmt := top 11
abbrev sIn : Stmt := top 12
abbrev sMo : Stmt := top 13
abbrev sRq : Stmt := top 14
abbrev sEnt : Stmt := top 15
abbrev sGo2 : Stmt := top 16
abbrev sChk : Stmt := top 17
abbrev sIni : Stmt := inClass (top 3) 0
theorem ok_ini {P : Program} {w : World} {K : PySem.W.Frag} {mg : Str → Option Value} {base : Heap} {C cc c f : Addr} {oc : Value} {od an : Option Addr} {osl : Array (Option Value)} {kV doc pm ct : Value} (SK : SupK P K mg C cc c) (lk : K.lookup f = some ⟨oc, od, .func (PySem.W.fnX "__init__" "InvalidEntry.__init__" (defArgs sIni) (defBody sIni) (defScope sIni) [("__class__", cc)] .none kV doc pm an (.ref c) ct), osl⟩)
    (hcd : PySem.W.codeIn K (.ref c) "InvalidEntry.__init__" = true) (hno : PySem.W.findIn K (.ref C) "number" = some none) : FnOk P w K mg base CX0 1 f (PySem.W.fnX "__init__" "InvalidEntry.__init__" (defArgs sIni) (defBody sIni) (defScope sIni) [("__class__", cc)] .none kV doc pm an (.ref c) ct) ["self", "number"] (spSup K C "number" C8.GNum) := by
  refine fn_sup (k := 0) SK lk rfl hcd rfl (NdefX.nscope_by (by decide +kernel)) (by decide +kernel) (by decide +kernel) ⟨_, rfl, rfl⟩ hno (by decide) ?_ (fun env => ⟨_, rfl⟩) (fun env => rfl) (fun env => rfl)
  rintro A outer s H E d ⟨i, rfl, h0, h1⟩
  have hs := nT_ok (i := i) h0 (by omega)
  refine ⟨_, j_fs (.cons j_str (.cons (j_fmtI (jv 1 rfl) hs.2) (.cons j_str .nil))) rfl ?_⟩
  unfold joinS joinS joinS joinS
  rw [app_len, app_len, app_len]
  have a1 : (Str.empty).length + ("entry " : Str).length ≤ 100 := by decide +kernel
  have a2 : (" is wrong" : Str).length ≤ 100 := by decide +kernel
  have a3 := hs.1
  unfold nT at a3
  exact le_size (by omega)
end Toy

namespace Toy
open PySem PyProof.Rows L2 Pf
def spLaw (K : PySem.W.Frag) : Sp := fun args H Q _ =>
  ∃ (ns : List Int) (a : Addr), args = [.ref a] ∧ ns.length ≤ 63 ∧ SqL K H a (ns.map V.int) ∧ (∀ H', Q (.bl true) H')
theorem law_of {K : PySem.W.Frag} (vs : List V) (H : Hp) (Q : VK) (E : XK) (h : spLaw K vs H Q E) : spP K 1 gLaw vs H Q E := by
  obtain ⟨ns, a, rfl, hl, hS, q⟩ := h
  refine ⟨rfl, H, [.scr ns], _, .refl _, .cons (.scr hS) .nil, ⟨ns, rfl, hl, rfl⟩, ?_⟩
  rintro _ rfl v W' H' _ r
  cases r
  exact q H'
theorem all_mk {l : PySem.W.OpenLaw} {w : World} {K : PySem.W.Frag} {h : Heap} {mg : Str → Option Value} {fa f0 f1 f2 f3 f4 f5 f6 f7 f8 f9 f10 f11 f12 f13 f14 f15 f16 f17 f18 f19 f20 f21 f22 f23 f24 f25 f26 : Addr} (X : K.In h) (G : h.Ns mainGlobals mg) (hfa : mg "law" = some (.ref fa))
    {tg0 tg1 tg2 tg3 tg4 tg5 t1h t2h : Tok} {h0 LE : Addr} {odh : Option Addr} {nh : Nat} {slh : Array (Option Value)} {X0 xcc0 xc0 xf0 xN0 X1 : Addr} {xnm0 xq0 : Str} {xbs0 xbm0 xsu0 : List Value} {xsn0 : List Str} {xab0 : Bool} {xcol0 : Option Bool} {xdd0 xcld0 xcdd0 xod0 xan0 : Option Addr} {xk00 xk10 xk20 xk30 xk50 : Option Value} {xcl0 xccl0 xoc0 xkV0 xdc0 xpm0 xct0 : Value} {xcsl0 xccs0 xosl0 : Array (Option Value)} {xvs0 : Array Value} {xfl0 : Str} {xtf0 : Tok} {xcd0 : ClassData}
    (a0 : PySem.W.nsIn K mainGlobals "is_name" = some (some (.ref f0)))
    (q0 : HX.FnIn K f0 "is_name" "is_name" sName)
    (a1 : PySem.W.nsIn K mainGlobals "is_key" = some (some (.ref f1)))
    (q1 : HX.FnIn K f1 "is_key" "is_key" sKey)
    (a2 : PySem.W.nsIn K mainGlobals "is_within" = some (some (.ref f2)))
    (q2 : HX.FnIn K f2 "is_within" "is_within" sIn)
    (a3 : PySem.W.nsIn K mainGlobals "is_moment" = some (some (.ref f3)))
    (q3 : HX.FnIn K f3 "is_moment" "is_moment" sMo)
    (a4 : PySem.W.nsIn K mainGlobals "is_request" = some (some (.ref f4)))
    (q4 : HX.FnIn K f4 "is_request" "is_request" sRq)
    (a5 : PySem.W.nsIn K mainGlobals "is_entry" = some (some (.ref f5)))
    (q5 : HX.FnIn K f5 "is_entry" "is_entry" sEnt)
    (a6 : PySem.W.nsIn K mainGlobals "goes_on" = some (some (.ref f6)))
    (q6 : HX.FnIn K f6 "goes_on" "goes_on" sGo2)
    (a7 : PySem.W.nsIn K mainGlobals "check_entries" = some (some (.ref f7)))
    (q7 : HX.FnIn K f7 "check_entries" "check_entries" sChk)
    (a8 : PySem.W.nsIn K mainGlobals "parts_of" = some (some (.ref f8)))
    (q8 : HX.FnIn K f8 "parts_of" "parts_of" sParts)
    (a9 : PySem.W.nsIn K mainGlobals "spans_touched" = some (some (.ref f9)))
    (q9 : HX.FnIn K f9 "spans_touched" "spans_touched" sSpans)
    (a10 : PySem.W.nsIn K mainGlobals "can_hold" = some (some (.ref f10)))
    (q10 : HX.FnIn K f10 "can_hold" "can_hold" sCan)
    (a11 : PySem.W.nsIn K mainGlobals "most_within" = some (some (.ref f11)))
    (q11 : HX.FnIn K f11 "most_within" "most_within" sMost)
    (a12 : PySem.W.nsIn K mainGlobals "fullest_sums" = some (some (.ref f12)))
    (q12 : HX.FnIn K f12 "fullest_sums" "fullest_sums" sFs)
    (a13 : PySem.W.nsIn K mainGlobals "split_cost" = some (some (.ref f13)))
    (q13 : HX.FnIn K f13 "split_cost" "split_cost" sSc)
    (a14 : PySem.W.nsIn K mainGlobals "fullest_row" = some (some (.ref f14)))
    (q14 : HX.FnIn K f14 "fullest_row" "fullest_row" sFr)
    (a15 : PySem.W.nsIn K mainGlobals "_law_row" = some (some (.ref f15)))
    (q15 : HX.FnIn K f15 "_law_row" "_law_row" sRow)
    (a16 : PySem.W.nsIn K mainGlobals "_law_numbers" = some (some (.ref f16)))
    (q16 : HX.FnIn K f16 "_law_numbers" "_law_numbers" sNumbers)
    (a17 : PySem.W.nsIn K mainGlobals "_law_groups" = some (some (.ref f17)))
    (q17 : HX.FnIn K f17 "_law_groups" "_law_groups" sGroups)
    (a18 : PySem.W.nsIn K mainGlobals "_law_pool" = some (some (.ref f18)))
    (q18 : HX.FnIn K f18 "_law_pool" "_law_pool" sPool)
    (a19 : PySem.W.nsIn K mainGlobals "_law_limit" = some (some (.ref f19)))
    (q19 : HX.FnIn K f19 "_law_limit" "_law_limit" sLimit)
    (a20 : PySem.W.nsIn K mainGlobals "_law_sees" = some (some (.ref f20)))
    (q20 : HX.FnIn K f20 "_law_sees" "_law_sees" sSees)
    (a21 : PySem.W.nsIn K mainGlobals "_law_larger" = some (some (.ref f21)))
    (q21 : HX.FnIn K f21 "_law_larger" "_law_larger" sLarger)
    (a22 : PySem.W.nsIn K mainGlobals "_law_made" = some (some (.ref f22)))
    (q22 : HX.FnIn K f22 "_law_made" "_law_made" sMd)
    (a23 : PySem.W.nsIn K mainGlobals "_law_is_row" = some (some (.ref f23)))
    (q23 : HX.FnIn K f23 "_law_is_row" "_law_is_row" sIr)
    (a24 : PySem.W.nsIn K mainGlobals "_law_keeps" = some (some (.ref f24)))
    (q24 : HX.FnIn K f24 "_law_keeps" "_law_keeps" sKp)
    (a25 : PySem.W.nsIn K mainGlobals "_law_right" = some (some (.ref f25)))
    (q25 : HX.FnIn K f25 "_law_right" "_law_right" sRi)
    (a26 : PySem.W.nsIn K mainGlobals "law" = some (some (.ref f26)))
    (q26 : HX.FnIn K f26 "law" "law" sLaw)
    (z0 : PySem.W.nsIn K mainGlobals "len" = some none)
    (z1 : PySem.W.nsIn K mainGlobals "int" = some none)
    (z2 : PySem.W.nsIn K mainGlobals "abs" = some none)
    (z3 : PySem.W.nsIn K mainGlobals "range" = some none)
    (z4 : PySem.W.nsIn K mainGlobals "tuple" = some none)
    (z5 : PySem.W.nsIn K mainGlobals "list" = some none)
    (z6 : PySem.W.nsIn K mainGlobals "sorted" = some none)
    (z7 : PySem.W.nsIn K mainGlobals "set" = some none)
    (z8 : PySem.W.nsIn K mainGlobals "isinstance" = some none)
    (z9 : PySem.W.nsIn K mainGlobals "bool" = some none)
    (z10 : PySem.W.nsIn K mainGlobals "min" = some none)
    (z11 : PySem.W.nsIn K mainGlobals "max" = some none)
    (z12 : PySem.W.nsIn K mainGlobals "sum" = some none)
    (z13 : PySem.W.nsIn K mainGlobals "all" = some none)
    (z14 : PySem.W.nsIn K mainGlobals "any" = some none)
    (z15 : PySem.W.nsIn K mainGlobals "str" = some none)
    (z16 : PySem.W.nsIn K mainGlobals "zip" = some none)
    (z17 : PySem.W.nsIn K mainGlobals "enumerate" = some none)
    (zg0 : PySem.W.nsIn K mainGlobals "NAME_SIGNS" = some (some (.str "abcdefghijklmnopqrstuvwxyz0123456789" tg0)))
    (zg1 : PySem.W.nsIn K mainGlobals "KEY_SIGNS" = some (some (.str "abcdefghijklmnopqrstuvwxyz0123456789-" tg1)))
    (zg2 : PySem.W.nsIn K mainGlobals "GREATEST_MOMENT" = some (some (.int 1000000000 tg2)))
    (zg3 : PySem.W.nsIn K mainGlobals "GREATEST_COST" = some (some (.int 1000 tg3)))
    (zg4 : PySem.W.nsIn K mainGlobals "MOST_ROW_COST" = some (some (.int 10000 tg4)))
    (zg5 : PySem.W.nsIn K mainGlobals "A_GROUP" = some (some (.str "any" tg5)))
    (zh : PySem.W.nsIn K mainGlobals "HOLDING" = some (some (.ref h0)))
    (lh : K.lookup h0 = some ⟨.type "tuple", odh, .seq #[.str "held" t1h, .str "pool" t2h] nh, slh⟩)
    (zdm : PySem.W.nsIn K mainGlobals "divmod" = some none)
    (xz0 : PySem.W.nsIn K mainGlobals "InvalidEntry" = some (some (.ref X0)))
    (xsub0 : PySem.W.subIn K (.ref X0) (.type "BaseException") = some true)
    (xty0 : PySem.W.typeIn K (.ref X0) = some (.type "type"))
    (xkp0 : PySem.W.keepIn K (.ref X0) = true)
    (xo0 : K.lookup X0 = some (excClassObj xnm0 xq0 X0 xN0 xbs0 xbm0 true xsn0 xsu0 xab0 xcol0 xdd0 xk00 xk10 xk20 xk30 xk50 "ValueError.__new__"))
    (xr0 : PySem.HandSPX.refsVE xbm0 = true)
    (xsa0 : PySem.W.findIn K (.ref X0) "__setattr__" = some (some (.builtin "object.__setattr__")))
    (xin0 : PySem.W.findIn K (.ref X0) "__init__" = some (some (.ref xf0)))
    (xit0 : PySem.W.typeIn K (.ref xf0) = some (.type "function"))
    (xl0 : K.lookup xf0 = some ⟨xoc0, xod0, .func (PySem.W.fnX "__init__" "InvalidEntry.__init__" (defArgs sIni) (defBody sIni) (defScope sIni) [("__class__", xcc0)] .none xkV0 xdc0 xpm0 xan0 (.ref xc0) xct0), xosl0⟩)
    (xcdi0 : PySem.W.codeIn K (.ref xc0) "InvalidEntry.__init__" = true)
    (xce0 : K.lookup xcc0 = some ⟨xcl0, xcld0, .cell (some (.ref X0)), xcsl0⟩)
    (xco0 : K.lookup xc0 = some ⟨xccl0, xcdd0, .fields xvs0, xccs0⟩)
    (xvf0 : xvs0[2]? = some (.str xfl0 xtf0))
    (xfile0 : ((l.prog.main.file : Str) == xfl0) = true)
    (xcls0 : PySem.W.clsIn K X0 = some xcd0)
    (xself0 : PySem.W.mroIn K X0 (.ref X0) = some true)
    (xini0 : PySem.W.ks_superIn K X0 X0 "__init__" = some (some (.builtin "ValueError.__init__")))
    (xve0 : PySem.W.subIn K (.ref X0) (.type "ValueError") = some true)
    (xno0 : PySem.W.findIn K (.ref X0) "number" = some none)
    (xga0 : PySem.W.findIn K (.ref X0) "__getattribute__" = some (some (.builtin "BaseException.__getattribute__")))
    (xgg0 : PySem.W.findIn K (.ref X0) "__getattr__" = some none)
    (xhd0 : PySem.W.hasDictIn K X0 = true)
    (xz1 : PySem.W.nsIn K mainGlobals "TooLarge" = some (some (.ref X1)))
    (xsub1 : PySem.W.subIn K (.ref X1) (.type "BaseException") = some true)
    (xty1 : PySem.W.typeIn K (.ref X1) = some (.type "type"))
    (xkp1 : PySem.W.keepIn K (.ref X1) = true)
    (xei1 : PySem.W.excIn K X1 [.type "ValueError", .type "Exception", .type "BaseException", .type "object"] "ValueError.__new__" = true)
    (xe1_1 : PySem.W.exmOne K (.ref X1) (.ref X1) = some true)
    (xsup : PySem.W.nsIn K mainGlobals "super" = some none)
    (xopq : PySem.W.nsIn K cStatics "thirdparty.any" = some none)
    (xtop : (l.prog.main.scope.names.lookup ("super" : Str)).isSome = false)
    (yin : PySem.W.specialIn K (.builtin "object.__class__") "__get__" = some (some (.builtin "getset_descriptor.__get__")))
    (yit : PySem.W.takesIn K (.builtin "object.__class__") = some true)
    (yle : PySem.W.nsIn K mainGlobals "LimitError" = some (some (.ref LE)))
    (yga1 : PySem.W.findIn K (.ref X1) "__getattribute__" = some (some (.builtin "BaseException.__getattribute__")))
    (ygg1 : PySem.W.findIn K (.ref X1) "__getattr__" = some none)
    (yhd1 : PySem.W.hasDictIn K X1 = true)
    (yc1 : PySem.W.findIn K (.ref X1) "__class__" = some (some (.builtin "object.__class__")))
    (ym1 : PySem.W.mroIn K X1 (.type "object") = some true)
    (ykE1 : PySem.W.kitOne K (.ref X1) (.ref LE) = some true) :
    ∃ fn : FuncData, (∀ (s : Shared) (v : Value), BindsTo s fn ⟨[v], []⟩ [("script", v)]) ∧ ∀ base : Heap, K.In base → base.Ns mainGlobals mg → FnOk l.prog w K mg base CX0 8 fa fn ["script"] (spLaw K) := by
  obtain ⟨oc0, od0, kV0, dc0, pm0, an0, cd0, ct0, sl0, l0, c0, k0⟩ := q0
  obtain ⟨oc1, od1, kV1, dc1, pm1, an1, cd1, ct1, sl1, l1, c1, k1⟩ := q1
  obtain ⟨oc2, od2, kV2, dc2, pm2, an2, cd2, ct2, sl2, l2, c2, k2⟩ := q2
  obtain ⟨oc3, od3, kV3, dc3, pm3, an3, cd3, ct3, sl3, l3, c3, k3⟩ := q3
  obtain ⟨oc4, od4, kV4, dc4, pm4, an4, cd4, ct4, sl4, l4, c4, k4⟩ := q4
  obtain ⟨oc5, od5, kV5, dc5, pm5, an5, cd5, ct5, sl5, l5, c5, k5⟩ := q5
  obtain ⟨oc6, od6, kV6, dc6, pm6, an6, cd6, ct6, sl6, l6, c6, k6⟩ := q6
  obtain ⟨oc7, od7, kV7, dc7, pm7, an7, cd7, ct7, sl7, l7, c7, k7⟩ := q7
  obtain ⟨oc8, od8, kV8, dc8, pm8, an8, cd8, ct8, sl8, l8, c8, k8⟩ := q8
  obtain ⟨oc9, od9, kV9, dc9, pm9, an9, cd9, ct9, sl9, l9, c9, k9⟩ := q9
  obtain ⟨oc10, od10, kV10, dc10, pm10, an10, cd10, ct10, sl10, l10, c10, k10⟩ := q10
  obtain ⟨oc11, od11, kV11, dc11, pm11, an11, cd11, ct11, sl11, l11, c11, k11⟩ := q11
  obtain ⟨oc12, od12, kV12, dc12, pm12, an12, cd12, ct12, sl12, l12, c12, k12⟩ := q12
  obtain ⟨oc13, od13, kV13, dc13, pm13, an13, cd13, ct13, sl13, l13, c13, k13⟩ := q13
  obtain ⟨oc14, od14, kV14, dc14, pm14, an14, cd14, ct14, sl14, l14, c14, k14⟩ := q14
  obtain ⟨oc15, od15, kV15, dc15, pm15, an15, cd15, ct15, sl15, l15, c15, k15⟩ := q15
  obtain ⟨oc16, od16, kV16, dc16, pm16, an16, cd16, ct16, sl16, l16, c16, k16⟩ := q16
  obtain ⟨oc17, od17, kV17, dc17, pm17, an17, cd17, ct17, sl17, l17, c17, k17⟩ := q17
  obtain ⟨oc18, od18, kV18, dc18, pm18, an18, cd18, ct18, sl18, l18, c18, k18⟩ := q18
  obtain ⟨oc19, od19, kV19, dc19, pm19, an19, cd19, ct19, sl19, l19, c19, k19⟩ := q19
  obtain ⟨oc20, od20, kV20, dc20, pm20, an20, cd20, ct20, sl20, l20, c20, k20⟩ := q20
  obtain ⟨oc21, od21, kV21, dc21, pm21, an21, cd21, ct21, sl21, l21, c21, k21⟩ := q21
  obtain ⟨oc22, od22, kV22, dc22, pm22, an22, cd22, ct22, sl22, l22, c22, k22⟩ := q22
  obtain ⟨oc23, od23, kV23, dc23, pm23, an23, cd23, ct23, sl23, l23, c23, k23⟩ := q23
  obtain ⟨oc24, od24, kV24, dc24, pm24, an24, cd24, ct24, sl24, l24, c24, k24⟩ := q24
  obtain ⟨oc25, od25, kV25, dc25, pm25, an25, cd25, ct25, sl25, l25, c25, k25⟩ := q25
  obtain ⟨oc26, od26, kV26, dc26, pm26, an26, cd26, ct26, sl26, l26, c26, k26⟩ := q26
  have e := hfa.symm.trans (PySem.W.mg_of X G a26)
  cases e
  have T : Bt mg := ⟨PySem.W.mg_none_of X G z0, PySem.W.mg_none_of X G z1, PySem.W.mg_none_of X G z2, PySem.W.mg_none_of X G z3, PySem.W.mg_none_of X G z4, PySem.W.mg_none_of X G z5, PySem.W.mg_none_of X G z6, PySem.W.mg_none_of X G z7, PySem.W.mg_none_of X G z8, PySem.W.mg_none_of X G z9, PySem.W.mg_none_of X G z10, PySem.W.mg_none_of X G z11, PySem.W.mg_none_of X G z12, PySem.W.mg_none_of X G z13, PySem.W.mg_none_of X G z14, PySem.W.mg_none_of X G z15, PySem.W.mg_none_of X G z16, PySem.W.mg_none_of X G z17⟩
  have F0 := fun_mk (st := sName) l0 c0 k0
  have b0 := F0.binds (ps := ["text"]) fun _ _ _ _ _ _ us hl => match us, hl with | [_], _ => rfl
  have F1 := fun_mk (st := sKey) l1 c1 k1
  have b1 := F1.binds (ps := ["text"]) fun _ _ _ _ _ _ us hl => match us, hl with | [_], _ => rfl
  have F2 := fun_mk (st := sIn) l2 c2 k2
  have b2 := F2.binds (ps := ["number", "least", "greatest"]) fun _ _ _ _ _ _ us hl => match us, hl with | [_, _, _], _ => rfl
  have F3 := fun_mk (st := sMo) l3 c3 k3
  have b3 := F3.binds (ps := ["moment"]) fun _ _ _ _ _ _ us hl => match us, hl with | [_], _ => rfl
  have F4 := fun_mk (st := sRq) l4 c4 k4
  have b4 := F4.binds (ps := ["key", "group", "cost"]) fun _ _ _ _ _ _ us hl => match us, hl with | [_, _, _], _ => rfl
  have F5 := fun_mk (st := sEnt) l5 c5 k5
  have b5 := F5.binds (ps := ["entry"]) fun _ _ _ _ _ _ us hl => match us, hl with | [_], _ => rfl
  have F6 := fun_mk (st := sGo2) l6 c6 k6
  have b6 := F6.binds (ps := ["entry", "moment", "asked"]) fun _ _ _ _ _ _ us hl => match us, hl with | [_, _, _], _ => rfl
  have F7 := fun_mk (st := sChk) l7 c7 k7
  have b7 := F7.binds (ps := ["entries"]) fun _ _ _ _ _ _ us hl => match us, hl with | [_], _ => rfl
  have F8 := fun_mk (st := sParts) l8 c8 k8
  have b8 := F8.binds (ps := ["moments", "length"]) fun _ _ _ _ _ _ us hl => match us, hl with | [_, _], _ => rfl
  have F9 := fun_mk (st := sSpans) l9 c9 k9
  have b9 := F9.binds (ps := ["moments", "length"]) fun _ _ _ _ _ _ us hl => match us, hl with | [_, _], _ => rfl
  have F10 := fun_mk (st := sCan) l10 c10 k10
  have b10 := F10.binds (ps := ["limit"]) fun _ _ _ _ _ _ us hl => match us, hl with | [_], _ => rfl
  have F11 := fun_mk (st := sMost) l11 c11 k11
  have b11 := F11.binds (ps := ["limit", "moments"]) fun _ _ _ _ _ _ us hl => match us, hl with | [_, _], _ => rfl
  have F12 := fun_mk (st := sFs) l12 c12 k12
  have b12 := F12.binds (ps := ["limit", "moments"]) fun _ _ _ _ _ _ us hl => match us, hl with | [_, _], _ => rfl
  have F13 := fun_mk (st := sSc) l13 c13 k13
  have b13 := F13.binds (ps := ["total"]) fun _ _ _ _ _ _ us hl => match us, hl with | [_], _ => rfl
  have F14 := fun_mk (st := sFr) l14 c14 k14
  have b14 := F14.binds (ps := ["limit", "moments"]) fun _ _ _ _ _ _ us hl => match us, hl with | [_, _], _ => rfl
  have F15 := fun_mk (st := sRow) l15 c15 k15
  have b15 := F15.binds (ps := ["cell", "many"]) fun _ _ _ _ _ _ us hl => match us, hl with | [_, _], _ => rfl
  have F16 := fun_mk (st := sNumbers) l16 c16 k16
  have b16 := F16.binds (ps := ["script", "many"]) fun _ _ _ _ _ _ us hl => match us, hl with | [_, _], _ => rfl
  have F17 := fun_mk (st := sGroups) l17 c17 k17
  have b17 := F17.binds (ps := ["number"]) fun _ _ _ _ _ _ us hl => match us, hl with | [_], _ => rfl
  have F18 := fun_mk (st := sPool) l18 c18 k18
  have b18 := F18.binds (ps := ["numbers", "at"]) fun _ _ _ _ _ _ us hl => match us, hl with | [_, _], _ => rfl
  have F19 := fun_mk (st := sLimit) l19 c19 k19
  have b19 := F19.binds (ps := ["numbers", "at", "word"]) fun _ _ _ _ _ _ us hl => match us, hl with | [_, _, _], _ => rfl
  have F20 := fun_mk (st := sSees) l20 c20 k20
  have b20 := F20.binds (ps := ["limit", "group"]) fun _ _ _ _ _ _ us hl => match us, hl with | [_, _], _ => rfl
  have F21 := fun_mk (st := sLarger) l21 c21 k21
  have b21 := F21.binds (ps := ["limit", "numbers", "at"]) fun _ _ _ _ _ _ us hl => match us, hl with | [_, _, _], _ => rfl
  have F22 := fun_mk (st := sMd) l22 c22 k22
  have b22 := F22.binds (ps := ["limit", "moments"]) fun _ _ _ _ _ _ us hl => match us, hl with | [_, _], _ => rfl
  have F23 := fun_mk (st := sIr) l23 c23 k23
  have b23 := F23.binds (ps := ["row"]) fun _ _ _ _ _ _ us hl => match us, hl with | [_], _ => rfl
  have F24 := fun_mk (st := sKp) l24 c24 k24
  have b24 := F24.binds (ps := ["limit", "lets"]) fun _ _ _ _ _ _ us hl => match us, hl with | [_, _], _ => rfl
  have F25 := fun_mk (st := sRi) l25 c25 k25
  have b25 := F25.binds (ps := ["limit", "row", "moments", "most"]) fun _ _ _ _ _ _ us hl => match us, hl with | [_, _, _, _], _ => rfl
  have F26 := fun_mk (st := sLaw) l26 c26 k26
  have m0 := PySem.W.mg_of X G a0
  have m1 := PySem.W.mg_of X G a1
  have m2 := PySem.W.mg_of X G a2
  have m3 := PySem.W.mg_of X G a3
  have m4 := PySem.W.mg_of X G a4
  have m5 := PySem.W.mg_of X G a5
  have m6 := PySem.W.mg_of X G a6
  have m7 := PySem.W.mg_of X G a7
  have m8 := PySem.W.mg_of X G a8
  have m9 := PySem.W.mg_of X G a9
  have m10 := PySem.W.mg_of X G a10
  have m11 := PySem.W.mg_of X G a11
  have m12 := PySem.W.mg_of X G a12
  have m13 := PySem.W.mg_of X G a13
  have m14 := PySem.W.mg_of X G a14
  have m15 := PySem.W.mg_of X G a15
  have m16 := PySem.W.mg_of X G a16
  have m17 := PySem.W.mg_of X G a17
  have m18 := PySem.W.mg_of X G a18
  have m19 := PySem.W.mg_of X G a19
  have m20 := PySem.W.mg_of X G a20
  have m21 := PySem.W.mg_of X G a21
  have m22 := PySem.W.mg_of X G a22
  have m23 := PySem.W.mg_of X G a23
  have m24 := PySem.W.mg_of X G a24
  have m25 := PySem.W.mg_of X G a25
  have G18 : Gb K mg := ⟨⟨_, PySem.W.mg_of X G zg3⟩, ⟨_, _, _, _, _, _, PySem.W.mg_of X G zh, lh⟩⟩
  have GR : Gr K mg := ⟨G18, ⟨_, PySem.W.mg_of X G zg4⟩, ⟨_, PySem.W.mg_of X G zg5⟩⟩
  have G8 : Toy.C8.Gb mg := ⟨⟨_, PySem.W.mg_of X G zg0⟩, ⟨_, PySem.W.mg_of X G zg1⟩, ⟨_, PySem.W.mg_of X G zg2⟩, ⟨_, PySem.W.mg_of X G zg3⟩⟩
  have HDM : mg "divmod" = none := PySem.W.mg_none_of X G zdm
  have LT : Lt K mg X1 LE := ⟨PySem.W.mg_of X G xz1, PySem.W.mg_of X G yle, xe1_1, ⟨yga1, ygg1, xsub1, yhd1, yc1, yin, yit, ym1⟩, ykE1⟩
  refine ⟨PySem.W.fnOf "law" "law" (defArgs sLaw) (defBody sLaw) (defScope sLaw) .none kV26 dc26 pm26 an26 cd26 ct26, fun s v => .of_eq rfl, fun base _ _ => ?_⟩
  have SK0 : SupK l.prog K mg X0 xcc0 xc0 := sup_k X G xo0 xr0 xsa0 xsub0 xty0 xkp0 xsup xce0 xco0 xvf0 xfile0 xtop xcls0 xopq xself0 xini0 xve0
  have SE0 : SupErr l.prog w K mg base 1 "InvalidEntry" X0 "number" Toy.C8.GNum := sup_e SK0 (PySem.W.mg_of X G xz0) xin0 xit0 (ok_ini SK0 xl0 xcdi0 xno0) (.all fun us hl => match us, hl with | [_, _], _ => rfl)
  have OE1 : OwnErr K mg "TooLarge" X1 := own_e (h := h) (PySem.W.mg_of X G xz1) xei1 xkp1 xsub1 xty1
  have cN8 : PFn l.prog w K mg base 1 "is_name" 1 Toy.C8.gName := ⟨_, _, _, Toy.C8.ok_name F0 T G8, m0, k0, b0⟩
  have cK8 : PFn l.prog w K mg base 1 "is_key" 1 Toy.C8.gKey := ⟨_, _, _, Toy.C8.ok_key F1 T G8, m1, k1, b1⟩
  have cI8 : PFn l.prog w K mg base 1 "is_within" 3 Toy.C8.gIn := ⟨_, _, _, Toy.C8.ok_in F2 T, m2, k2, b2⟩
  have cM8 : PFn l.prog w K mg base 2 "is_moment" 1 Toy.C8.gMo := ⟨_, _, _, Toy.C8.ok_mo F3 G8 cI8, m3, k3, b3⟩
  have cR8 : PFn l.prog w K mg base 2 "is_request" 3 Toy.C8.gRq := ⟨_, _, _, Toy.C8.ok_rq F4 G8 cN8 cK8 cI8, m4, k4, b4⟩
  have cE8 : PFn l.prog w K mg base 3 "is_entry" 1 Toy.C8.gEnt := ⟨_, _, _, Toy.C8.ok_ent F5 T cK8 cM8 cR8, m5, k5, b5⟩
  have cG8 : PFn l.prog w K mg base 4 "goes_on" 3 Toy.C8.gGo := ⟨_, _, _, Toy.C8.ok_go F6 T cE8, m6, k6, b6⟩
  have cC8 : EFn l.prog w K mg base 5 "check_entries" 1 (Toy.C8.gChk X0) := ⟨_, _, _, Toy.C8.ok_chk F7 T cG8 SE0, m7, k7, b7⟩
  have cPa : PFn l.prog w K mg base 1 "parts_of" 2 gParts := ⟨_, _, _, ok_parts F8, m8, k8, b8⟩
  have cSp : PFn l.prog w K mg base 2 "spans_touched" 2 gSpans := ⟨_, _, _, ok_spans F9 cPa, m9, k9, b9⟩
  have cCa : PFn l.prog w K mg base 1 "can_hold" 1 gCan := ⟨_, _, _, ok_can F10 T, m10, k10, b10⟩
  have cM : PFn l.prog w K mg base 3 "most_within" 2 gMost := ⟨_, _, _, ok_most F11 T G18 cCa cPa cSp, m11, k11, b11⟩
  have cFs : PFn l.prog w K mg base 3 "fullest_sums" 2 gFs := ⟨_, _, _, ok_fs F12 T G18 cPa cSp, m12, k12, b12⟩
  have cSc : PFn l.prog w K mg base 1 "split_cost" 1 gSc := ⟨_, _, _, ok_sc F13 HDM G18, m13, k13, b13⟩
  have cFr : PFn l.prog w K mg base 4 "fullest_row" 2 gFr := ⟨_, _, _, ok_fr F14 T GR cM cFs cSc, m14, k14, b14⟩
  have cFrT : EFn l.prog w K mg base 4 "fullest_row" 2 (gFrT X1) := ⟨_, _, _, ok_frT F14 T GR OE1 cM, m14, k14, b14⟩
  have cRow : PFn l.prog w K mg base 1 "_law_row" 2 gRow := ⟨_, _, _, ok_row F15 T, m15, k15, b15⟩
  have cNum : PFn l.prog w K mg base 2 "_law_numbers" 2 gNumbers := ⟨_, _, _, ok_numbers F16 T cRow, m16, k16, b16⟩
  have cGr : PFn l.prog w K mg base 1 "_law_groups" 1 gGroups := ⟨_, _, _, ok_groups F17 T, m17, k17, b17⟩
  have cPool : PFn l.prog w K mg base 2 "_law_pool" 2 gPool := ⟨_, _, _, ok_pool F18 T cGr, m18, k18, b18⟩
  have cL : PFn l.prog w K mg base 3 "_law_limit" 3 gLimit := ⟨_, _, _, ok_limit F19 T cGr cPool, m19, k19, b19⟩
  have cSees : PFn l.prog w K mg base 1 "_law_sees" 2 gLooks := ⟨_, _, _, ok_sees F20 T, m20, k20, b20⟩
  have cLF : PFn l.prog w K mg base 1 "_law_larger" 3 gLaF := ⟨_, _, _, ok_laF F21 T, m21, k21, b21⟩
  have cLH : PFn l.prog w K mg base 1 "_law_larger" 3 gLaH := ⟨_, _, _, ok_laH F21 T, m21, k21, b21⟩
  have cLP : PFn l.prog w K mg base 1 "_law_larger" 3 gLaP := ⟨_, _, _, ok_laP F21 T, m21, k21, b21⟩
  have cMd : PFn l.prog w K mg base 5 "_law_made" 2 gMd := ⟨_, _, _, ok_md F22 T LT cFr cFrT, m22, k22, b22⟩
  have cIr : PFn l.prog w K mg base 6 "_law_is_row" 1 gIr := ⟨_, _, _, ok_ir F23 cC8, m23, k23, b23⟩
  have cKp : PFn l.prog w K mg base 1 "_law_keeps" 2 gKp := ⟨_, _, _, ok_kp F24 T, m24, k24, b24⟩
  have cKg : PFn l.prog w K mg base 1 "_law_keeps" 2 gKpG := ⟨_, _, _, ok_kpG F24 T, m24, k24, b24⟩
  have cRi : PFn l.prog w K mg base 7 "_law_right" 4 gRi := ⟨_, _, _, ok_ri F25 T cSees cIr cKp cKg, m25, k25, b25⟩
  exact (ok_law F26 T cNum cL cLF cLH cLP cM cMd cRi).imp (law_of (K := K))
end Toy

open PySem.W PyProof.Rows PySem
set_option maxRecDepth 90000 in
set_option maxHeartbeats 0 in
theorem PySem.Challenge.cw_limitweave_k19_fullest_rows_holds : PySem.Challenge.rw_limitweave_k19_fullest_rows.Holds := by
  refine Hd.head ?_
  refine L2.walk_ofE (l := PySem.Challenge.rw_limitweave_k19_fullest_rows) (n := 63) (k := 8) (x := "script") (CX := L2.CX0) rfl (by decide) (by kernel_rfl) ⟨rfl, by decide, by decide⟩ ?F (fun _ _ _ _ z => z)
  intro w mg fa h Y G hmg0
  obtain ⟨K, KX, S⟩ := Y
  have hmg : mg ("law" : PySem.Str) = some (.ref fa) := by
    have e : (HandSHeadRun.topDef Hd.R.prog 40).name = ("law" : PySem.Str) := by kernel_rfl
    rw [← e]
    exact hmg0
  have a0 : PySem.W.nsIn K mainGlobals "is_name" = some (some (.ref (He.ga K "is_name"))) := of_decide_eq_true (S.b 0 0 rfl rfl)
  have q0 : HX.FnIn K (He.ga K "is_name") "is_name" "is_name" Toy.sName := S.fn 0 rfl rfl
  have a1 : PySem.W.nsIn K mainGlobals "is_key" = some (some (.ref (He.ga K "is_key"))) := of_decide_eq_true (S.b 0 1 rfl rfl)
  have q1 : HX.FnIn K (He.ga K "is_key") "is_key" "is_key" Toy.sKey := S.fn 1 rfl rfl
  have a2 : PySem.W.nsIn K mainGlobals "is_within" = some (some (.ref (He.ga K "is_within"))) := of_decide_eq_true (S.b 0 2 rfl rfl)
  have q2 : HX.FnIn K (He.ga K "is_within") "is_within" "is_within" Toy.sIn := S.fn 2 rfl rfl
  have a3 : PySem.W.nsIn K mainGlobals "is_moment" = some (some (.ref (He.ga K "is_moment"))) := of_decide_eq_true (S.b 0 3 rfl rfl)
  have q3 : HX.FnIn K (He.ga K "is_moment") "is_moment" "is_moment" Toy.sMo := S.fn 3 rfl rfl
  have a4 : PySem.W.nsIn K mainGlobals "is_request" = some (some (.ref (He.ga K "is_request"))) := of_decide_eq_true (S.b 0 4 rfl rfl)
  have q4 : HX.FnIn K (He.ga K "is_request") "is_request" "is_request" Toy.sRq := S.fn 4 rfl rfl
  have a5 : PySem.W.nsIn K mainGlobals "is_entry" = some (some (.ref (He.ga K "is_entry"))) := of_decide_eq_true (S.b 0 5 rfl rfl)
  have q5 : HX.FnIn K (He.ga K "is_entry") "is_entry" "is_entry" Toy.sEnt := S.fn 5 rfl rfl
  have a6 : PySem.W.nsIn K mainGlobals "goes_on" = some (some (.ref (He.ga K "goes_on"))) := of_decide_eq_true (S.b 0 6 rfl rfl)
  have q6 : HX.FnIn K (He.ga K "goes_on") "goes_on" "goes_on" Toy.sGo2 := S.fn 6 rfl rfl
  have a7 : PySem.W.nsIn K mainGlobals "check_entries" = some (some (.ref (He.ga K "check_entries"))) := of_decide_eq_true (S.b 0 7 rfl rfl)
  have q7 : HX.FnIn K (He.ga K "check_entries") "check_entries" "check_entries" Toy.sChk := S.fn 7 rfl rfl
  have a8 : PySem.W.nsIn K mainGlobals "parts_of" = some (some (.ref (He.ga K "parts_of"))) := of_decide_eq_true (S.b 0 8 rfl rfl)
  have q8 : HX.FnIn K (He.ga K "parts_of") "parts_of" "parts_of" Toy.sParts := S.fn 8 rfl rfl
  have a9 : PySem.W.nsIn K mainGlobals "spans_touched" = some (some (.ref (He.ga K "spans_touched"))) := of_decide_eq_true (S.b 0 9 rfl rfl)
  have q9 : HX.FnIn K (He.ga K "spans_touched") "spans_touched" "spans_touched" Toy.sSpans := S.fn 9 rfl rfl
  have a10 : PySem.W.nsIn K mainGlobals "can_hold" = some (some (.ref (He.ga K "can_hold"))) := of_decide_eq_true (S.b 0 10 rfl rfl)
  have q10 : HX.FnIn K (He.ga K "can_hold") "can_hold" "can_hold" Toy.sCan := S.fn 10 rfl rfl
  have a11 : PySem.W.nsIn K mainGlobals "most_within" = some (some (.ref (He.ga K "most_within"))) := of_decide_eq_true (S.b 0 11 rfl rfl)
  have q11 : HX.FnIn K (He.ga K "most_within") "most_within" "most_within" Toy.sMost := S.fn 11 rfl rfl
  have a12 : PySem.W.nsIn K mainGlobals "fullest_sums" = some (some (.ref (He.ga K "fullest_sums"))) := of_decide_eq_true (S.b 0 12 rfl rfl)
  have q12 : HX.FnIn K (He.ga K "fullest_sums") "fullest_sums" "fullest_sums" Toy.sFs := S.fn 12 rfl rfl
  have a13 : PySem.W.nsIn K mainGlobals "split_cost" = some (some (.ref (He.ga K "split_cost"))) := of_decide_eq_true (S.b 0 13 rfl rfl)
  have q13 : HX.FnIn K (He.ga K "split_cost") "split_cost" "split_cost" Toy.sSc := S.fn 13 rfl rfl
  have a14 : PySem.W.nsIn K mainGlobals "fullest_row" = some (some (.ref (He.ga K "fullest_row"))) := of_decide_eq_true (S.b 0 14 rfl rfl)
  have q14 : HX.FnIn K (He.ga K "fullest_row") "fullest_row" "fullest_row" Toy.sFr := S.fn 14 rfl rfl
  have a15 : PySem.W.nsIn K mainGlobals "_law_row" = some (some (.ref (He.ga K "_law_row"))) := of_decide_eq_true (S.b 0 15 rfl rfl)
  have q15 : HX.FnIn K (He.ga K "_law_row") "_law_row" "_law_row" Toy.sRow := S.fn 15 rfl rfl
  have a16 : PySem.W.nsIn K mainGlobals "_law_numbers" = some (some (.ref (He.ga K "_law_numbers"))) := of_decide_eq_true (S.b 0 16 rfl rfl)
  have q16 : HX.FnIn K (He.ga K "_law_numbers") "_law_numbers" "_law_numbers" Toy.sNumbers := S.fn 16 rfl rfl
  have a17 : PySem.W.nsIn K mainGlobals "_law_groups" = some (some (.ref (He.ga K "_law_groups"))) := of_decide_eq_true (S.b 0 17 rfl rfl)
  have q17 : HX.FnIn K (He.ga K "_law_groups") "_law_groups" "_law_groups" Toy.sGroups := S.fn 17 rfl rfl
  have a18 : PySem.W.nsIn K mainGlobals "_law_pool" = some (some (.ref (He.ga K "_law_pool"))) := of_decide_eq_true (S.b 0 18 rfl rfl)
  have q18 : HX.FnIn K (He.ga K "_law_pool") "_law_pool" "_law_pool" Toy.sPool := S.fn 18 rfl rfl
  have a19 : PySem.W.nsIn K mainGlobals "_law_limit" = some (some (.ref (He.ga K "_law_limit"))) := of_decide_eq_true (S.b 0 19 rfl rfl)
  have q19 : HX.FnIn K (He.ga K "_law_limit") "_law_limit" "_law_limit" Toy.sLimit := S.fn 19 rfl rfl
  have a20 : PySem.W.nsIn K mainGlobals "_law_sees" = some (some (.ref (He.ga K "_law_sees"))) := of_decide_eq_true (S.b 0 20 rfl rfl)
  have q20 : HX.FnIn K (He.ga K "_law_sees") "_law_sees" "_law_sees" Toy.sSees := S.fn 20 rfl rfl
  have a21 : PySem.W.nsIn K mainGlobals "_law_larger" = some (some (.ref (He.ga K "_law_larger"))) := of_decide_eq_true (S.b 0 21 rfl rfl)
  have q21 : HX.FnIn K (He.ga K "_law_larger") "_law_larger" "_law_larger" Toy.sLarger := S.fn 21 rfl rfl
  have a22 : PySem.W.nsIn K mainGlobals "_law_made" = some (some (.ref (He.ga K "_law_made"))) := of_decide_eq_true (S.b 0 22 rfl rfl)
  have q22 : HX.FnIn K (He.ga K "_law_made") "_law_made" "_law_made" Toy.sMd := S.fn 22 rfl rfl
  have a23 : PySem.W.nsIn K mainGlobals "_law_is_row" = some (some (.ref (He.ga K "_law_is_row"))) := of_decide_eq_true (S.b 0 23 rfl rfl)
  have q23 : HX.FnIn K (He.ga K "_law_is_row") "_law_is_row" "_law_is_row" Toy.sIr := S.fn 23 rfl rfl
  have a24 : PySem.W.nsIn K mainGlobals "_law_keeps" = some (some (.ref (He.ga K "_law_keeps"))) := of_decide_eq_true (S.b 0 24 rfl rfl)
  have q24 : HX.FnIn K (He.ga K "_law_keeps") "_law_keeps" "_law_keeps" Toy.sKp := S.fn 24 rfl rfl
  have a25 : PySem.W.nsIn K mainGlobals "_law_right" = some (some (.ref (He.ga K "_law_right"))) := of_decide_eq_true (S.b 0 25 rfl rfl)
  have q25 : HX.FnIn K (He.ga K "_law_right") "_law_right" "_law_right" Toy.sRi := S.fn 25 rfl rfl
  have a26 : PySem.W.nsIn K mainGlobals "law" = some (some (.ref (He.ga K "law"))) := of_decide_eq_true (S.b 0 26 rfl rfl)
  have q26 : HX.FnIn K (He.ga K "law") "law" "law" Toy.sLaw := S.fn 26 rfl rfl
  have z0 : PySem.W.nsIn K mainGlobals "len" = some none := of_decide_eq_true (S.b 0 27 rfl rfl)
  have z1 : PySem.W.nsIn K mainGlobals "int" = some none := of_decide_eq_true (S.b 0 28 rfl rfl)
  have z2 : PySem.W.nsIn K mainGlobals "abs" = some none := of_decide_eq_true (S.b 0 29 rfl rfl)
  have z3 : PySem.W.nsIn K mainGlobals "range" = some none := of_decide_eq_true (S.b 1 0 rfl rfl)
  have z4 : PySem.W.nsIn K mainGlobals "tuple" = some none := of_decide_eq_true (S.b 1 1 rfl rfl)
  have z5 : PySem.W.nsIn K mainGlobals "list" = some none := of_decide_eq_true (S.b 1 2 rfl rfl)
  have z6 : PySem.W.nsIn K mainGlobals "sorted" = some none := of_decide_eq_true (S.b 1 3 rfl rfl)
  have z7 : PySem.W.nsIn K mainGlobals "set" = some none := of_decide_eq_true (S.b 1 4 rfl rfl)
  have z8 : PySem.W.nsIn K mainGlobals "isinstance" = some none := of_decide_eq_true (S.b 1 5 rfl rfl)
  have z9 : PySem.W.nsIn K mainGlobals "bool" = some none := of_decide_eq_true (S.b 1 6 rfl rfl)
  have z10 : PySem.W.nsIn K mainGlobals "min" = some none := of_decide_eq_true (S.b 1 7 rfl rfl)
  have z11 : PySem.W.nsIn K mainGlobals "max" = some none := of_decide_eq_true (S.b 1 8 rfl rfl)
  have z12 : PySem.W.nsIn K mainGlobals "sum" = some none := of_decide_eq_true (S.b 1 9 rfl rfl)
  have z13 : PySem.W.nsIn K mainGlobals "all" = some none := of_decide_eq_true (S.b 1 10 rfl rfl)
  have z14 : PySem.W.nsIn K mainGlobals "any" = some none := of_decide_eq_true (S.b 1 11 rfl rfl)
  have z15 : PySem.W.nsIn K mainGlobals "str" = some none := of_decide_eq_true (S.b 1 12 rfl rfl)
  have z16 : PySem.W.nsIn K mainGlobals "zip" = some none := of_decide_eq_true (S.b 1 13 rfl rfl)
  have z17 : PySem.W.nsIn K mainGlobals "enumerate" = some none := of_decide_eq_true (S.b 1 14 rfl rfl)
  have zg0 : PySem.W.nsIn K mainGlobals "NAME_SIGNS" = some (some (.str "abcdefghijklmnopqrstuvwxyz0123456789" (HX.tk K mainGlobals "NAME_SIGNS"))) := of_decide_eq_true (S.b 1 15 rfl rfl)
  have zg1 : PySem.W.nsIn K mainGlobals "KEY_SIGNS" = some (some (.str "abcdefghijklmnopqrstuvwxyz0123456789-" (HX.tk K mainGlobals "KEY_SIGNS"))) := of_decide_eq_true (S.b 1 16 rfl rfl)
  have zg2 : PySem.W.nsIn K mainGlobals "GREATEST_MOMENT" = some (some (.int 1000000000 (HX.tk K mainGlobals "GREATEST_MOMENT"))) := of_decide_eq_true (S.b 1 17 rfl rfl)
  have zg3 : PySem.W.nsIn K mainGlobals "GREATEST_COST" = some (some (.int 1000 (HX.tk K mainGlobals "GREATEST_COST"))) := of_decide_eq_true (S.b 1 18 rfl rfl)
  have zg4 : PySem.W.nsIn K mainGlobals "MOST_ROW_COST" = some (some (.int 10000 (HX.tk K mainGlobals "MOST_ROW_COST"))) := of_decide_eq_true (S.b 1 19 rfl rfl)
  have zg5 : PySem.W.nsIn K mainGlobals "A_GROUP" = some (some (.str "any" (HX.tk K mainGlobals "A_GROUP"))) := of_decide_eq_true (S.b 1 20 rfl rfl)
  have zh : PySem.W.nsIn K mainGlobals "HOLDING" = some (some (.ref (He.ga K "HOLDING"))) := of_decide_eq_true (S.b 1 21 rfl rfl)
  obtain ⟨_, _, _, _, _, lh⟩ := Toy.tupS2 (S.b 1 22 rfl rfl)
  have zdm : PySem.W.nsIn K mainGlobals "divmod" = some none := of_decide_eq_true (S.b 1 23 rfl rfl)
  have xz0 : PySem.W.nsIn K mainGlobals "InvalidEntry" = some (some (.ref (He.ga K "InvalidEntry"))) := of_decide_eq_true (S.b 1 24 rfl rfl)
  have xsub0 : PySem.W.subIn K (.ref (He.ga K "InvalidEntry")) (.type "BaseException") = some true := of_decide_eq_true (S.b 1 25 rfl rfl)
  have xty0 : PySem.W.typeIn K (.ref (He.ga K "InvalidEntry")) = some (.type "type") := of_decide_eq_true (S.b 1 26 rfl rfl)
  have xkp0 : PySem.W.keepIn K (.ref (He.ga K "InvalidEntry")) = true := of_decide_eq_true (S.b 1 27 rfl rfl)
  obtain ⟨_, _, _, _, _, _, _, _, _, _, _, _, _, _, _, _, xo0, xr0, xcls0⟩ := HX.exoB_ok (K := K) (X := (He.ga K "InvalidEntry")) (S.b 1 28 rfl rfl)
  have xsa0 : PySem.W.findIn K (.ref (He.ga K "InvalidEntry")) "__setattr__" = some (some (.builtin "object.__setattr__")) := of_decide_eq_true (S.b 1 29 rfl rfl)
  have xin0 : PySem.W.findIn K (.ref (He.ga K "InvalidEntry")) "__init__" = some (some (.ref (He.ma K (He.ga K "InvalidEntry") "__init__"))) := of_decide_eq_true (S.b 2 0 rfl rfl)
  have xit0 : PySem.W.typeIn K (.ref (He.ma K (He.ga K "InvalidEntry") "__init__")) = some (.type "function") := of_decide_eq_true (S.b 2 1 rfl rfl)
  obtain ⟨_, _, _, _, _, _, _, _, xl0, xcdi0, _⟩ := (S.fnX 27 rfl rfl : HX.FnXIn K (He.ma K (He.ga K "InvalidEntry") "__init__") "__init__" "InvalidEntry.__init__" Toy.sIni)
  obtain ⟨_, _, _, xce0⟩ := HX.cellB_ok (K := K) (c := (HX.ccOf K (He.ma K (He.ga K "InvalidEntry") "__init__"))) (X := (He.ga K "InvalidEntry")) (S.b 2 2 rfl rfl)
  obtain ⟨_, _, _, _, _, _, xco0, xvf0, xfile0⟩ := HX.fileB_ok (K := K) (c := (HX.cdOf K (He.ma K (He.ga K "InvalidEntry") "__init__"))) (file := ((PySem.Challenge.rw_limitweave_k19_fullest_rows).prog.main.file)) (S.b 2 3 rfl rfl)
  have xself0 : PySem.W.mroIn K (He.ga K "InvalidEntry") (.ref (He.ga K "InvalidEntry")) = some true := of_decide_eq_true (S.b 2 4 rfl rfl)
  have xini0 : PySem.W.ks_superIn K (He.ga K "InvalidEntry") (He.ga K "InvalidEntry") "__init__" = some (some (.builtin "ValueError.__init__")) := of_decide_eq_true (S.b 2 5 rfl rfl)
  have xve0 : PySem.W.subIn K (.ref (He.ga K "InvalidEntry")) (.type "ValueError") = some true := of_decide_eq_true (S.b 2 6 rfl rfl)
  have xno0 : PySem.W.findIn K (.ref (He.ga K "InvalidEntry")) "number" = some none := of_decide_eq_true (S.b 2 7 rfl rfl)
  have xga0 : PySem.W.findIn K (.ref (He.ga K "InvalidEntry")) "__getattribute__" = some (some (.builtin "BaseException.__getattribute__")) := of_decide_eq_true (S.b 2 8 rfl rfl)
  have xgg0 : PySem.W.findIn K (.ref (He.ga K "InvalidEntry")) "__getattr__" = some none := of_decide_eq_true (S.b 2 9 rfl rfl)
  have xhd0 : PySem.W.hasDictIn K (He.ga K "InvalidEntry") = true := of_decide_eq_true (S.b 2 10 rfl rfl)
  have xz1 : PySem.W.nsIn K mainGlobals "TooLarge" = some (some (.ref (He.ga K "TooLarge"))) := of_decide_eq_true (S.b 2 11 rfl rfl)
  have xsub1 : PySem.W.subIn K (.ref (He.ga K "TooLarge")) (.type "BaseException") = some true := of_decide_eq_true (S.b 2 12 rfl rfl)
  have xty1 : PySem.W.typeIn K (.ref (He.ga K "TooLarge")) = some (.type "type") := of_decide_eq_true (S.b 2 13 rfl rfl)
  have xkp1 : PySem.W.keepIn K (.ref (He.ga K "TooLarge")) = true := of_decide_eq_true (S.b 2 14 rfl rfl)
  have xei1 : PySem.W.excIn K (He.ga K "TooLarge") [.type "ValueError", .type "Exception", .type "BaseException", .type "object"] "ValueError.__new__" = true := of_decide_eq_true (S.b 2 15 rfl rfl)
  have xe1_1 : PySem.W.exmOne K (.ref (He.ga K "TooLarge")) (.ref (He.ga K "TooLarge")) = some true := of_decide_eq_true (S.b 2 16 rfl rfl)
  have xsup : PySem.W.nsIn K mainGlobals "super" = some none := of_decide_eq_true (S.b 2 17 rfl rfl)
  have xopq : PySem.W.nsIn K cStatics "thirdparty.any" = some none := of_decide_eq_true (S.b 2 18 rfl rfl)
  have xtop : ((PySem.Challenge.rw_limitweave_k19_fullest_rows).prog.main.scope.names.lookup ("super" : PySem.Str)).isSome = false := by kernel_rfl
  have yin : PySem.W.specialIn K (.builtin "object.__class__") "__get__" = some (some (.builtin "getset_descriptor.__get__")) := of_decide_eq_true (S.b 2 19 rfl rfl)
  have yit : PySem.W.takesIn K (.builtin "object.__class__") = some true := of_decide_eq_true (S.b 2 20 rfl rfl)
  have yle : PySem.W.nsIn K mainGlobals "LimitError" = some (some (.ref (He.ga K "LimitError"))) := of_decide_eq_true (S.b 2 21 rfl rfl)
  have yga1 : PySem.W.findIn K (.ref (He.ga K "TooLarge")) "__getattribute__" = some (some (.builtin "BaseException.__getattribute__")) := of_decide_eq_true (S.b 2 22 rfl rfl)
  have ygg1 : PySem.W.findIn K (.ref (He.ga K "TooLarge")) "__getattr__" = some none := of_decide_eq_true (S.b 2 23 rfl rfl)
  have yhd1 : PySem.W.hasDictIn K (He.ga K "TooLarge") = true := of_decide_eq_true (S.b 2 24 rfl rfl)
  have yc1 : PySem.W.findIn K (.ref (He.ga K "TooLarge")) "__class__" = some (some (.builtin "object.__class__")) := of_decide_eq_true (S.b 2 25 rfl rfl)
  have ym1 : PySem.W.mroIn K (He.ga K "TooLarge") (.type "object") = some true := of_decide_eq_true (S.b 2 26 rfl rfl)
  have ykE1 : PySem.W.kitOne K (.ref (He.ga K "TooLarge")) (.ref (He.ga K "LimitError")) = some true := of_decide_eq_true (S.b 2 27 rfl rfl)
  obtain ⟨fn, hb, hF⟩ := Toy.all_mk (l := PySem.Challenge.rw_limitweave_k19_fullest_rows) KX G hmg a0 q0 a1 q1 a2 q2 a3 q3 a4 q4 a5 q5 a6 q6 a7 q7 a8 q8 a9 q9 a10 q10 a11 q11 a12 q12 a13 q13 a14 q14 a15 q15 a16 q16 a17 q17 a18 q18 a19 q19 a20 q20 a21 q21 a22 q22 a23 q23 a24 q24 a25 q25 a26 q26 z0 z1 z2 z3 z4 z5 z6 z7 z8 z9 z10 z11 z12 z13 z14 z15 z16 z17 zg0 zg1 zg2 zg3 zg4 zg5 zh lh zdm xz0 xsub0 xty0 xkp0 xo0 xr0 xsa0 xin0 xit0 xl0 xcdi0 xce0 xco0 xvf0 xfile0 xcls0 xself0 xini0 xve0 xno0 xga0 xgg0 xhd0 xz1 xsub1 xty1 xkp1 xei1 xe1_1 xsup xopq xtop yin yit yle yga1 ygg1 yhd1 yc1 ym1 ykE1
  exact ⟨K, fn, Toy.spLaw K, KX, hb, fun H a ns hl _ hS => ⟨ns, a, rfl, hl, hS, fun _ => rfl⟩, hF⟩


