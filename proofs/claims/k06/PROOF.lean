import PyProof.Rows.All
import Wide.All
import OpenK.AllK
import Wide.FinOn
import HandS.ForMost
import HandS.Evl
import HandS.IsInst
import HandS.TupAny
import HandS.SortInts
import HandS.Flow
import HandS.Wide
import HandS.Exc
import HandS.Style
import HandS.StrMore
import KE.SortData
import HandS.ListItems
import KE.KDictList
import HandS.DictTup
import KE.KDictWalk
import HandS.DictComp
import PyProof.ListRange
import HandS.Conv
import HandS.Iter
import KE.GoesEnumKw
import KE.KxField
import HandS.FStr
import HandS.StrSplit
import HandS.Text
import KE.KExcSuper
import HandS.ExcInit
import HandS.ExcOwn
import HandS.ExcField
import HandS.TryMany
import HandS.WordsExc
import HandS.RaiseMore
import HandS.Small
import HandS.Nested
import HandS.ExcSuper
import HandS.Strs
import HandS.Zip
import PyProof.StrLawsOcc
import PyProof.StrBlock2
import PyProof.StrLawsChain
import HandS.Set
import PyProof.Rows.SortShellAny
import HandS.ExcIs
import HandS.SortOrd
import HandS.Sort
import HandS.SortRule
import HandS.Deep
import HandS.TupLe
import HandS.Property
import HandS.TryOnly
import HandS.ExcCtx
import HandS.Hot
import HandS.HotCalls
import HandS.SuiteRaise
import HandS.RaiseFrom
import HandS.ExcInitHot
import HandS.NestedHot
import HandS.Replace
import PyProof.MeetsStr3
import PyProof.FitsReplace
import PyProof.StrCalls6
import KE.KTryMore
import PySem.Challenge.RW_limitweave_k06_book_texts_refused
set_option Elab.async false
set_option linter.all false
set_option maxRecDepth 100000
set_option maxHeartbeats 3900000
namespace Pf
open PySem L2
open Evl (Ex)

/-! ### data -/
inductive D where
  | non | bl (b : Bool) | int (i : Int) | str (x : Str)
  | lst (xs : List D) | tup (xs : List D) | dct (kvs : List (Key × D)) | ins (C : Addr) (fs : List (Str × D))
  /-- a list of ints that is read only (the script) -/
  | scr (ns : List Int)
  /-- a built-in class -/
  | ty (n : String)
  /-- an error that a handler has caught: where its attributes stand, and they -/
  | exc (a : Addr) (o : Option Addr) (fs : List (Str × D))
  /-- a tuple that is known to have no dict -/
  | ftup (xs : List D)

mutual
/-- v stands for d in H -/
inductive Rep (K : PySem.W.Frag) (H : Hp) : D → V → Prop
  | non : Rep K H .non .non
  | bl (b : Bool) : Rep K H (.bl b) (.bl b)
  | int (i : Int) : Rep K H (.int i) (.int i)
  | str (x : Str) : Rep K H (.str x) (.str x)
  | ty (n : String) : Rep K H (.ty n) (.ty n)
  | exc {a : Addr} {o : Option Addr} {fs : List (Str × V)} {fds : List (Str × D)} : (∀ dd, o = some dd → H dd = some (.xd fs)) → fs.map (·.1) = fds.map (·.1) → RepAll K H (fds.map (·.2)) (fs.map (·.2)) → Rep K H (.exc a o fds) (.ref a)
  | scr {a : Addr} {ns : List Int} : SqL K H a (ns.map V.int) → Rep K H (.scr ns) (.ref a)
  | lst {a : Addr} {vs : List V} {ds : List D} : H a = some (.lst vs) → RepAll K H ds vs → Rep K H (.lst ds) (.ref a)
  | tup {a : Addr} {vs : List V} {ds : List D} : SqT K H a vs → RepAll K H ds vs → Rep K H (.tup ds) (.ref a)
  | dct {a : Addr} {kvs : List (Key × V)} {kds : List (Key × D)} : H a = some (.dK kvs) → kvs.map (·.1) = kds.map (·.1) → RepAll K H (kds.map (·.2)) (kvs.map (·.2)) → Rep K H (.dct kds) (.ref a)
  | ins {a C dx : Addr} {fs : List (Str × V)} {fds : List (Str × D)} : H a = some (.ins C dx fs) → fs.map (·.1) = fds.map (·.1) → RepAll K H (fds.map (·.2)) (fs.map (·.2)) → Rep K H (.ins C fds) (.ref a)
  | ftup {a : Addr} {o : Obj} {vs : List V} {ds : List D} : H a = some (.frz o (.tup vs)) → o.dict = none → o.cls = .type "tuple" → RepAll K H ds vs → Rep K H (.ftup ds) (.ref a)
inductive RepAll (K : PySem.W.Frag) (H : Hp) : List D → List V → Prop
  | nil : RepAll K H [] []
  | cons {d : D} {v : V} {ds : List D} {vs : List V} : Rep K H d v → RepAll K H ds vs → RepAll K H (d :: ds) (v :: vs)
end

section
variable {K : PySem.W.Frag} {H H' : Hp}
theorem Rep.mono (e : Ex H H') {d : D} {v : V} (h : Rep K H d v) : Rep K H' d v := by
  refine Rep.rec (motive_1 := fun d v _ => Rep K H' d v) (motive_2 := fun ds vs _ => RepAll K H' ds vs) ?_ ?_ ?_ ?_ ?_ ?_ ?_ ?_ ?_ ?_ ?_ ?_ ?_ ?_ h
  · exact .non
  · exact fun b => .bl b
  · exact fun b => .int b
  · exact fun b => .str b
  · exact fun b => .ty b
  · exact fun h k _ ih => .exc (fun dd q => e _ _ (h dd q)) k ih
  · exact fun h => .scr (Evl.ex_l e h)
  · exact fun h _ ih => .lst (e _ _ h) ih
  · exact fun h _ ih => .tup (Evl.ex_t e h) ih
  · exact fun h k _ ih => .dct (e _ _ h) k ih
  · exact fun h k _ ih => .ins (e _ _ h) k ih
  · exact fun h k1 k2 _ ih => .ftup (e _ _ h) k1 k2 ih
  · exact .nil
  · exact fun _ _ a b => .cons a b
theorem RepAll.mono (e : Ex H H') : ∀ {ds : List D} {vs : List V}, RepAll K H ds vs → RepAll K H' ds vs
  | _, _, .nil => .nil
  | _, _, .cons a b => .cons (a.mono e) (RepAll.mono e b)
theorem RepAll.length : ∀ {ds : List D} {vs : List V}, RepAll K H ds vs → ds.length = vs.length
  | _, _, .nil => rfl
  | _, _, .cons _ b => congrArg (· + 1) (RepAll.length b)
theorem RepAll.get : ∀ {ds : List D} {vs : List V} {i : Nat} {d : D}, RepAll K H ds vs → ds[i]? = some d → ∃ v, vs[i]? = some v ∧ Rep K H d v
  | _, _, _, _, .nil, e => by simp at e
  | _, _, 0, _, .cons r _, e => by simp at e; subst e; exact ⟨_, rfl, r⟩
  | _, _, i + 1, d, .cons _ t, e => by
    obtain ⟨u, h1, h2⟩ := RepAll.get (i := i) (d := d) t (by simpa using e)
    exact ⟨u, by simpa using h1, h2⟩
theorem RepAll.getV : ∀ {ds : List D} {vs : List V} {i : Nat} {v : V}, RepAll K H ds vs → vs[i]? = some v → ∃ d, ds[i]? = some d ∧ Rep K H d v
  | _, _, _, _, .nil, e => by simp at e
  | _, _, 0, _, .cons r _, e => by simp at e; subst e; exact ⟨_, rfl, r⟩
  | _, _, i + 1, d, .cons _ t, e => by
    obtain ⟨u, h1, h2⟩ := RepAll.getV (i := i) (v := d) t (by simpa using e)
    exact ⟨u, by simpa using h1, h2⟩
theorem RepAll.append : ∀ {ds es : List D} {vs us : List V}, RepAll K H ds vs → RepAll K H es us → RepAll K H (ds ++ es) (vs ++ us)
  | _, _, _, _, .nil, s => s
  | _, _, _, _, .cons r t, s => .cons r (RepAll.append t s)
theorem RepAll.take : ∀ {ds : List D} {vs : List V} (n : Nat), RepAll K H ds vs → RepAll K H (ds.take n) (vs.take n)
  | _, _, 0, _ => .nil
  | _, _, _ + 1, .nil => .nil
  | _, _, n + 1, .cons r t => .cons r (RepAll.take n t)
theorem RepAll.drop : ∀ {ds : List D} {vs : List V} (n : Nat), RepAll K H ds vs → RepAll K H (ds.drop n) (vs.drop n)
  | _, _, 0, r => r
  | _, _, _ + 1, .nil => .nil
  | _, _, n + 1, .cons r t => RepAll.drop n t
theorem RepAll.reverse {ds : List D} {vs : List V} (h : RepAll K H ds vs) : RepAll K H ds.reverse vs.reverse := by
  induction ds generalizing vs with
  | nil => cases h; exact .nil
  | cons d ds ih =>
    cases h with
    | cons r t =>
      rw [List.reverse_cons, List.reverse_cons]
      exact (ih t).append (.cons r .nil)
theorem RepAll.ints : ∀ {ns : List Int} {vs : List V}, RepAll K H (ns.map D.int) vs → vs = ns.map V.int
  | [], _, .nil => rfl
  | n :: ns, _, .cons r t => by cases r; rw [RepAll.ints t]; rfl
theorem RepAll.toInts : ∀ (ns : List Int), RepAll K H (ns.map D.int) (ns.map V.int)
  | [] => .nil
  | n :: ns => .cons (.int n) (RepAll.toInts ns)
theorem RepAll.strs : ∀ {ns : List Str} {vs : List V}, RepAll K H (ns.map D.str) vs → vs = ns.map V.str
  | [], _, .nil => rfl
  | n :: ns, _, .cons r t => by cases r; rw [RepAll.strs t]; rfl
theorem RepAll.toStrs : ∀ (ns : List Str), RepAll K H (ns.map D.str) (ns.map V.str)
  | [] => .nil
  | n :: ns => .cons (.str n) (RepAll.toStrs ns)
theorem RepAll.bools : ∀ {ns : List Bool} {vs : List V}, RepAll K H (ns.map D.bl) vs → vs = ns.map V.bl
  | [], _, .nil => rfl
  | n :: ns, _, .cons r t => by cases r; rw [RepAll.bools t]; rfl
end

/-! ### an expression's value as data. W: the heap that the values' data stand in (a part of H) -/
def Fr (W W' H : Hp) : Prop := ∀ b, W' b ≠ none → W b = none → H b = none
structure Step (W H W' H' : Hp) : Prop where
  ww : Ex W W'
  wh : Ex W' H'
  hh : Ex H H'
  fr : Fr W W' H
theorem Step.refl {W H : Hp} (e : Ex W H) : Step W H W H := ⟨.refl _, e, .refl _, fun b h1 h2 => absurd h2 h1⟩
theorem Step.trans {W H W1 H1 W2 H2 : Hp} (a : Step W H W1 H1) (b : Step W1 H1 W2 H2) : Step W H W2 H2 :=
  ⟨a.ww.trans b.ww, b.wh, a.hh.trans b.hh, fun c h1 h2 => by
    by_cases e : W1 c = none
    · exact Evl.fresh_back a.hh (b.fr c h1 e)
    · exact a.fr c e h2⟩
theorem Step.new {W H : Hp} {p : Addr} {o : HO} (e : Ex W H) (hp : H p = none) : Step W H (upd W p o) (upd H p o) :=
  ⟨.new (Evl.fresh_back e hp), fun a u h => by
    by_cases ha : a = p
    · subst ha; rw [upd_same] at h ⊢; exact h
    · rw [upd_ne ha] at h ⊢; exact e a u h, .new hp, fun b h1 h2 => by
    by_cases ha : b = p
    · subst ha; exact hp
    · rw [upd_ne ha] at h1; exact absurd h2 h1⟩
/-- new in H alone -/
theorem Step.newH {W H : Hp} {p : Addr} {o : HO} (e : Ex W H) (hp : H p = none) : Step W H W (upd H p o) :=
  ⟨.refl _, e.trans (.new hp), .new hp, fun b h1 h2 => absurd h2 h1⟩

def GoodE (K : PySem.W.Frag) (W H : Hp) (d : D) (Q : VK) : Prop := ∀ v W' H', Step W H W' H' → Rep K W' d v → Q v H'
def GoodA (K : PySem.W.Frag) (W H : Hp) (ds : List D) (Q : List V → Hp → Prop) : Prop := ∀ vs W' H', Step W H W' H' → RepAll K W' ds vs → Q vs H'
def GoodT (W H : Hp) (b : Bool) (Q : Bool → Hp → Prop) : Prop := ∀ W' H', Step W H W' H' → Q b H'
theorem GoodE.step {K : PySem.W.Frag} {W H W1 H1 : Hp} {d : D} {Q : VK} (g : GoodE K W H d Q) (s : Step W H W1 H1) : GoodE K W1 H1 d Q := fun v W' H' t r => g v W' H' (s.trans t) r
theorem GoodE.now {K : PySem.W.Frag} {W H : Hp} {d : D} {v : V} {Q : VK} (g : GoodE K W H d Q) (e : Ex W H) (r : Rep K W d v) : Q v H := g v W H (.refl e) r
theorem GoodT.step {W H W1 H1 : Hp} {b : Bool} {Q : Bool → Hp → Prop} (g : GoodT W H b Q) (s : Step W H W1 H1) : GoodT W1 H1 b Q := fun W' H' t => g W' H' (s.trans t)
theorem GoodT.now {W H : Hp} {b : Bool} {Q : Bool → Hp → Prop} (g : GoodT W H b Q) (e : Ex W H) : Q b H := g W H (.refl e)
theorem GoodA.step {K : PySem.W.Frag} {W H W1 H1 : Hp} {d : List D} {Q : List V → Hp → Prop} (g : GoodA K W H d Q) (s : Step W H W1 H1) : GoodA K W1 H1 d Q := fun v W' H' t r => g v W' H' (s.trans t) r

abbrev Rho := List (Option D)
structure Vis (K : PySem.W.Frag) (ρ : Rho) (W : Hp) (σ : L2.St) : Prop where
  len : ρ.length = σ.length
  at_ : ∀ (i : Nat) (d : D), ρ[i]? = some (some d) → ∃ v, σ[i]? = some (some v) ∧ Rep K W d v
theorem Vis.mono {K : PySem.W.Frag} {ρ : Rho} {W W' : Hp} {σ : L2.St} (h : Vis K ρ W σ) (e : Ex W W') : Vis K ρ W' σ := ⟨h.len, fun i d q => by
  obtain ⟨v, h1, h2⟩ := h.at_ i d q
  exact ⟨v, h1, h2.mono e⟩⟩

/-! ### the readings that a piece of syntax has by itself -/
def wE (X : Cx) (e : Expr) : TE := fun σ H Q => ∀ (pins : List (Addr × Obj)) (s : Shared), Inv X pins σ H s → wpAny (model X.prog X.w) X.A (eval e X.env) (EP X pins σ Q) X.xe s
def wT (X : Cx) (e : Expr) : TT := fun σ H Q => ∀ (pins : List (Addr × Obj)) (s : Shared), Inv X pins σ H s → wpAny (model X.prog X.w) X.A (isTrue e X.env (eval e X.env)) (TP X pins σ Q) X.xe s
def wW (X : Cx) (e : Expr) : TT := fun σ H Q => ∀ (whole : Sem Value) (pins : List (Addr × Obj)) (s : Shared), Inv X pins σ H s → wpAny (model X.prog X.w) X.A (isTrue e X.env whole) (TP X pins σ Q) X.xe s
def wA (X : Cx) (es : List Expr) : TA := fun σ H Q => ∀ (pos : Pos) (pins : List (Addr × Obj)) (s : Shared), Inv X pins σ H s → wpAny (model X.prog X.w) X.A (spliced (backTo pos (starEach es X.env))) (AP X pins σ Q) X.xe s
def wS (X : Cx) (st : Stmt) : TS := fun D σ H => ∀ (pins : List (Addr × Obj)) (s : Shared), Inv X pins σ H s → wpAny (model X.prog X.w) X.A (exec st X.env) (SP X pins D) X.xe s
def wSs (X : Cx) (st : List Stmt) : TS := fun D σ H => ∀ (pins : List (Addr × Obj)) (s : Shared), Inv X pins σ H s → wpAny (model X.prog X.w) X.A (execs st X.env) (SP X pins D) X.xe s
section
variable {X : Cx} {e : Expr} {es : List Expr} {st : Stmt} {sts : List Stmt}
theorem pe_w : PE X e (wE X e) := ⟨fun pins s _ _ _ I h => h pins s I⟩
theorem pt_w : PT X e (wT X e) := ⟨fun pins s _ _ _ I h => h pins s I⟩
theorem pw_w : PW X e (wW X e) := ⟨fun w pins s _ _ _ I h => h w pins s I⟩
theorem pa_w : PA X es (wA X es) := ⟨fun pos pins s _ _ _ I h => h pos pins s I⟩
theorem ps_w : PS X st (wS X st) := ⟨fun pins s _ _ _ I h => h pins s I⟩
theorem pss_w : PSs X sts (wSs X sts) := ⟨fun pins s _ _ _ I h => h pins s I⟩
theorem wE.of {t : TE} (h : PE X e t) {σ : L2.St} {H : Hp} {Q : VK} (q : t σ H Q) : wE X e σ H Q := fun pins s I => h.run pins s σ H Q I q
theorem wT.of {t : TT} (h : PT X e t) {σ : L2.St} {H : Hp} {Q : Bool → Hp → Prop} (q : t σ H Q) : wT X e σ H Q := fun pins s I => h.run pins s σ H Q I q
theorem wW.of {t : TT} (h : PW X e t) {σ : L2.St} {H : Hp} {Q : Bool → Hp → Prop} (q : t σ H Q) : wW X e σ H Q := fun w pins s I => h.run w pins s σ H Q I q
theorem wA.of {t : TA} (h : PA X es t) {σ : L2.St} {H : Hp} {Q : List V → Hp → Prop} (q : t σ H Q) : wA X es σ H Q := fun pos pins s I => h.run pos pins s σ H Q I q
theorem wS.of {t : TS} (h : PS X st t) {σ : L2.St} {H : Hp} {D : Ends} (q : t D σ H) : wS X st D σ H := fun pins s I => h.run pins s σ H D I q
theorem wSs.of {t : TS} (h : PSs X sts t) {σ : L2.St} {H : Hp} {D : Ends} (q : t D σ H) : wSs X sts D σ H := fun pins s I => h.run pins s σ H D I q
end

/-! ### e is worth d where the names are worth ρ -/
structure J (X : Cx) (e : Expr) (ρ : Rho) (d : D) : Prop where
  run : ∀ W σ H, Ex W H → Vis X.K ρ W σ → ∀ Q : VK, GoodE X.K W H d Q → wE X e σ H Q
instance {X : Cx} {e : Expr} {ρ : Rho} {d : D} : CoeFun (J X e ρ d) (fun _ => ∀ W σ H, Ex W H → Vis X.K ρ W σ → ∀ Q : VK, GoodE X.K W H d Q → wE X e σ H Q) := ⟨J.run⟩
structure JT (X : Cx) (e : Expr) (ρ : Rho) (b : Bool) : Prop where
  run : ∀ W σ H, Ex W H → Vis X.K ρ W σ → ∀ Q : Bool → Hp → Prop, GoodT W H b Q → wT X e σ H Q
instance {X : Cx} {e : Expr} {ρ : Rho} {b : Bool} : CoeFun (JT X e ρ b) (fun _ => ∀ W σ H, Ex W H → Vis X.K ρ W σ → ∀ Q : Bool → Hp → Prop, GoodT W H b Q → wT X e σ H Q) := ⟨JT.run⟩
structure JW (X : Cx) (e : Expr) (ρ : Rho) (b : Bool) : Prop where
  run : ∀ W σ H, Ex W H → Vis X.K ρ W σ → ∀ Q : Bool → Hp → Prop, GoodT W H b Q → wW X e σ H Q
instance {X : Cx} {e : Expr} {ρ : Rho} {b : Bool} : CoeFun (JW X e ρ b) (fun _ => ∀ W σ H, Ex W H → Vis X.K ρ W σ → ∀ Q : Bool → Hp → Prop, GoodT W H b Q → wW X e σ H Q) := ⟨JW.run⟩
structure JA (X : Cx) (es : List Expr) (ρ : Rho) (ds : List D) : Prop where
  run : ∀ W σ H, Ex W H → Vis X.K ρ W σ → ∀ Q : List V → Hp → Prop, GoodA X.K W H ds Q → wA X es σ H Q
instance {X : Cx} {es : List Expr} {ρ : Rho} {ds : List D} : CoeFun (JA X es ρ ds) (fun _ => ∀ W σ H, Ex W H → Vis X.K ρ W σ → ∀ Q : List V → Hp → Prop, GoodA X.K W H ds Q → wA X es σ H Q) := ⟨JA.run⟩
/-- a rule over two values, over one, over several -/
def R2D (K : PySem.W.Frag) (r : R2) (x y z : D) : Prop := ∀ W H v u, Ex W H → Rep K W x v → Rep K W y u → ∀ Q : VK, GoodE K W H z Q → r v u H Q
def R1D (K : PySem.W.Frag) (r : V → Hp → VK → Prop) (x z : D) : Prop := ∀ W H v, Ex W H → Rep K W x v → ∀ Q : VK, GoodE K W H z Q → r v H Q
def RCD (K : PySem.W.Frag) (r : List V → Hp → VK → Prop) (xs : List D) (z : D) : Prop := ∀ W H vs, Ex W H → RepAll K W xs vs → ∀ Q : VK, GoodE K W H z Q → r vs H Q

section
variable {X : Cx} {a b c e : Expr} {es rest : List Expr} {ρ : Rho} {x y z d : D} {ds : List D} {pos p : Pos} {op op' : CmpOp} {bo : Operator} {t u : Bool}

theorem J.to {d' : D} (h : J X e ρ d) (q : d = d') : J X e ρ d' := q ▸ h
theorem JT.to (h : JT X e ρ t) (q : t = u) : JT X e ρ u := q ▸ h
theorem j_var {i : Nat} {n : Str} (hr : ρ[i]? = some (some d)) (hN : X.N[i]? = some n) (hv : L2.Vis X.env.scope n) (hd : (n == ("__debug__" : Str)) = false := by decide) (hcd : (n == ("__classdict__" : Str)) = false := by decide) : J X (.Name n pos) ρ d := ⟨fun W σ H e V Q g => by
  obtain ⟨v, h1, h2⟩ := V.at_ i d hr
  exact .of (pe_var hN hv hd hcd) ⟨v, h1, g.now e h2⟩⟩
theorem j_int {i : Int} {k} : J X (.Constant (.int i) k pos) ρ (.int i) := ⟨fun W σ H e V Q g => .of pe_int (g.now e (.int i))⟩
theorem j_bl {i : Bool} {k} : J X (.Constant (.bool i) k pos) ρ (.bl i) := ⟨fun W σ H e V Q g => .of pe_bl (g.now e (.bl i))⟩
theorem j_non {k} : J X (.Constant .none k pos) ρ .non := ⟨fun W σ H e V Q g => .of pe_non (g.now e .non)⟩
theorem j_str {i : Str} {k} : J X (.Constant (.str i) k pos) ρ (.str i) := ⟨fun W σ H e V Q g => .of pe_str (g.now e (.str i))⟩
theorem j_op {r : R2} (ho : OpR X (binaryOp bo) r) (ha : J X a ρ x) (hb : J X b ρ y) (hr : R2D X.K r x y z) : J X (.BinOp a bo b pos) ρ z := ⟨fun W σ H e V Q g =>
  .of (pe_op ho pe_w pe_w) (ha W σ H e V _ fun v W1 H1 s1 r1 => hb W1 σ H1 s1.wh (V.mono s1.ww) _ fun u W2 H2 s2 r2 => hr W2 H2 v u s2.wh (r1.mono s2.ww) r2 Q (g.step (s1.trans s2)))⟩
theorem j_un {uo : UnaryOp} {r : V → Hp → VK → Prop} (ho : UnR X (unaryOp uo) r) (ha : J X a ρ x) (hr : R1D X.K r x z) : J X (.UnaryOp uo a pos) ρ z := ⟨fun W σ H e V Q g =>
  .of (pe_un ho pe_w) (ha W σ H e V _ fun v W1 H1 s1 r1 => hr W1 H1 v s1.wh r1 Q (g.step s1))⟩
theorem j_cmp {r : R2} (ho : OpR X (compareOp op) r) (ha : J X a ρ x) (hb : J X b ρ y) (hr : R2D X.K r x y z) (hm : behindInMarks op b = false := by first | exact nobehind _ (by decide) (by decide) | rfl) : J X (.Compare a [op] [b] pos) ρ z := ⟨fun W σ H e V Q g =>
  .of (pe_cmpR ho pe_w pe_w hm) (ha W σ H e V _ fun v W1 H1 s1 r1 => hb W1 σ H1 s1.wh (V.mono s1.ww) _ fun u W2 H2 s2 r2 => hr W2 H2 v u s2.wh (r1.mono s2.ww) r2 Q (g.step (s1.trans s2)))⟩
theorem jt_cmp {r : R2} (ho : OpR X (compareOp op) r) (ha : J X a ρ x) (hb : J X b ρ y) (hr : R2D X.K r x y (.bl t)) (hm : behindInMarks op b = false := by first | exact nobehind _ (by decide) (by decide) | rfl) : JT X (.Compare a [op] [b] pos) ρ t := ⟨fun W σ H e V Q g =>
  .of (pt_cmpR ho pe_w pe_w hm) (ha W σ H e V _ fun v W1 H1 s1 r1 => hb W1 σ H1 s1.wh (V.mono s1.ww) _ fun u W2 H2 s2 r2 => hr W2 H2 v u s2.wh (r1.mono s2.ww) r2 _ fun v3 W3 H3 s3 r3 => by
    cases r3; exact ⟨t, rfl, g W3 H3 ((s1.trans s2).trans s3)⟩)⟩
theorem j_chain {r r' : R2} (ho : OpR X (compareOp op) r) (ho' : OpR X (compareOp op') r') (ha : J X a ρ x) (hb : J X b ρ y) (hc : t = true → J X c ρ z) (hr : R2D X.K r x y (.bl t)) (hr' : t = true → R2D X.K r' y z (.bl u))
    (hm : lastMarks [op, op'] [b, c] = false := by with_unfolding_all rfl) : J X (.Compare a [op, op'] [b, c] pos) ρ (.bl (t && u)) := ⟨fun W σ H e V Q g =>
  .of (pe_chain ho ho' pe_w pe_w pe_w hm) (ha W σ H e V _ fun v W1 H1 s1 r1 => hb W1 σ H1 s1.wh (V.mono s1.ww) _ fun w W2 H2 s2 r2 => hr W2 H2 v w s2.wh (r1.mono s2.ww) r2 _ fun v3 W3 H3 s3 r3 => by
    cases r3
    refine ⟨t, rfl, ?_⟩
    cases t with
    | false =>
      rw [if_neg Bool.false_ne_true]
      exact g _ W3 H3 ((s1.trans s2).trans s3) (.bl false)
    | true =>
      rw [if_pos rfl]
      exact hc rfl W3 σ H3 s3.wh (V.mono ((s1.trans s2).trans s3).ww) _ fun w3 W4 H4 s4 r4 => hr' rfl W4 H4 w w3 s4.wh (r2.mono (s3.trans s4).ww) r4 Q (g.step (((s1.trans s2).trans s3).trans s4)))⟩
theorem jt_chain {r r' : R2} (ho : OpR X (compareOp op) r) (ho' : OpR X (compareOp op') r') (ha : J X a ρ x) (hb : J X b ρ y) (hc : t = true → J X c ρ z) (hr : R2D X.K r x y (.bl t)) (hr' : t = true → R2D X.K r' y z (.bl u)) (hm : lastMarks [op, op'] [b, c] = false := by with_unfolding_all rfl) : JT X (.Compare a [op, op'] [b, c] pos) ρ (t && u) := ⟨fun W σ H e V Q g =>
  .of (pt_chain ho ho' pe_w pe_w pe_w hm) (ha W σ H e V _ fun v W1 H1 s1 r1 => hb W1 σ H1 s1.wh (V.mono s1.ww) _ fun w W2 H2 s2 r2 => hr W2 H2 v w s2.wh (r1.mono s2.ww) r2 _ fun v3 W3 H3 s3 r3 => by
    cases r3
    refine ⟨t, rfl, ?_⟩
    cases t with
    | false =>
      rw [if_neg Bool.false_ne_true]
      exact ⟨_, rfl, g W3 H3 ((s1.trans s2).trans s3)⟩
    | true =>
      rw [if_pos rfl]
      exact hc rfl W3 σ H3 s3.wh (V.mono ((s1.trans s2).trans s3).ww) _ fun w3 W4 H4 s4 r4 => hr' rfl W4 H4 w w3 s4.wh (r2.mono (s3.trans s4).ww) r4 _ fun v5 W5 H5 s5 r5 => by
        cases r5
        exact ⟨_, rfl, g W5 H5 ((((s1.trans s2).trans s3).trans s4).trans s5)⟩)⟩
/-! tests -/
theorem jt_val (h : J X e ρ (.bl t)) (he : ∀ whole, isTrue e X.env whole = (do let v ← whole; standAt e.pos; holding [v] (truthy v)) := by intro _; rfl) : JT X e ρ t := ⟨fun W σ H ex V Q g =>
  .of (pt_val pe_w he) (h W σ H ex V _ fun v W1 H1 s1 r1 => by cases r1; exact ⟨t, rfl, g W1 H1 s1⟩)⟩
def truth : D → Option Bool
  | .non => some false
  | .bl b => some b
  | .int i => some (i != 0)
  | .str x => if x.length ≤ sizeLine then some ((x.length : Int) != 0) else none
  | .lst xs => some (!xs.isEmpty)
  | .tup xs => some (!xs.isEmpty)
  | .dct kvs => some (!kvs.isEmpty)
  | .scr ns => some (!ns.isEmpty)
  | _ => none
theorem Rep.truth {K : PySem.W.Frag} {W H : Hp} {v : V} (e : Ex W H) (h : Rep K W d v) (q : truth d = some t) : TruV K v H t := by
  cases h with
  | non => cases q; rfl
  | bl b => cases q; rfl
  | int i => cases q; rfl
  | str x =>
    unfold Pf.truth at q
    dsimp only at q
    split at q
    · cases q; exact ⟨by assumption, rfl⟩
    · cases q
  | lst h1 h2 => cases q; exact .inl ⟨_, SqL.of (e _ _ h1), by cases h2 <;> rfl⟩
  | tup h1 h2 => cases q; exact .inr (.inl ⟨_, Evl.ex_t e h1, by cases h2 <;> rfl⟩)
  | @dct a kvs kds h1 h2 h3 =>
    cases q
    refine .inr (.inr ⟨kvs, e _ _ h1, ?_⟩)
    cases kvs <;> cases kds <;> simp at h2 ⊢
  | ins _ _ _ => cases q
  | ty _ => cases q
  | exc _ _ _ => cases q
  | ftup _ _ _ _ => cases q
  | @scr a ns h => cases q; exact .inl ⟨_, Evl.ex_l e h, by cases ns <;> rfl⟩
theorem jt_truth (h : J X e ρ d) (q : truth d = some t) (he : ∀ whole, isTrue e X.env whole = (do let v ← whole; standAt e.pos; holding [v] (truthy v)) := by intro _; rfl) : JT X e ρ t := ⟨fun W σ H ex V Q g =>
  .of (pt_truth pe_w he) (h W σ H ex V _ fun v W1 H1 s1 r1 => ⟨t, r1.truth s1.wh q, g W1 H1 s1⟩)⟩
theorem jt_not (h : JT X a ρ t) : JT X (.UnaryOp .Not a pos) ρ (!t) := ⟨fun W σ H ex V Q g =>
  .of (pt_not pt_w) (h W σ H ex V _ fun W1 H1 s1 => g W1 H1 s1)⟩
theorem jt_w (h : JW X e ρ t) : JT X e ρ t := ⟨fun W σ H ex V Q g => .of (PW.pt pw_w) (h W σ H ex V Q g)⟩
theorem jw_and1 (h : JT X a ρ t) : JW X (.BoolOp .And [a] pos) ρ t := ⟨fun W σ H ex V Q g => .of (pw_and1 pt_w) (h W σ H ex V Q g)⟩
theorem jw_or1 (h : JT X a ρ t) : JW X (.BoolOp .Or [a] pos) ρ t := ⟨fun W σ H ex V Q g => .of (pw_or1 pt_w) (h W σ H ex V Q g)⟩
theorem jw_and (h : JT X a ρ t) (h2 : t = true → JW X (.BoolOp .And (b :: rest) pos) ρ u) : JW X (.BoolOp .And (a :: b :: rest) pos) ρ (t && u) := ⟨fun W σ H ex V Q g =>
  .of (pw_and pt_w pw_w) (h W σ H ex V _ fun W1 H1 s1 => by
    cases t with
    | true => rw [if_pos rfl]; exact h2 rfl W1 σ H1 s1.wh (V.mono s1.ww) Q (g.step s1)
    | false => rw [if_neg Bool.false_ne_true]; exact g W1 H1 s1)⟩
theorem jw_or (h : JT X a ρ t) (h2 : t = false → JW X (.BoolOp .Or (b :: rest) pos) ρ u) : JW X (.BoolOp .Or (a :: b :: rest) pos) ρ (t || u) := ⟨fun W σ H ex V Q g =>
  .of (pw_or pt_w pw_w) (h W σ H ex V _ fun W1 H1 s1 => by
    cases t with
    | false => rw [if_neg Bool.false_ne_true]; exact h2 rfl W1 σ H1 s1.wh (V.mono s1.ww) Q (g.step s1)
    | true => rw [if_pos rfl]; exact g W1 H1 s1)⟩
/-! and, or, not as values of bools; by truth -/
theorem j_one {o} (h : J X a ρ d) : J X (.BoolOp o [a] pos) ρ d := ⟨fun W σ H ex V Q g => .of (pe_one pe_w) (h W σ H ex V Q g)⟩
end
end Pf

namespace Pf
open PySem L2
open Evl (Ex)

section
variable {X : Cx} {K : PySem.W.Frag} {a b c e e2 : Expr} {es rest : List Expr} {ρ : Rho} {x y z d d1 d2 : D} {ds : List D} {pos p p2 : Pos} {op op' : CmpOp} {bo : Operator} {t u : Bool}

theorem j_and (h : J X a ρ (.bl t)) (h2 : t = true → J X (.BoolOp .And (b :: rest) pos) ρ (.bl u)) : J X (.BoolOp .And (a :: b :: rest) pos) ρ (.bl (t && u)) := ⟨fun W σ H ex hV Q g =>
  .of (pe_and pe_w pe_w) (h W σ H ex hV _ fun v W1 H1 s1 r1 => by
    cases r1
    refine ⟨t, rfl, ?_⟩
    cases t with
    | true => rw [if_pos rfl]; exact h2 rfl W1 σ H1 s1.wh (hV.mono s1.ww) Q (g.step s1)
    | false => rw [if_neg Bool.false_ne_true]; exact g _ W1 H1 s1 (.bl false))⟩
theorem j_or (h : J X a ρ (.bl t)) (h2 : t = false → J X (.BoolOp .Or (b :: rest) pos) ρ (.bl u)) : J X (.BoolOp .Or (a :: b :: rest) pos) ρ (.bl (t || u)) := ⟨fun W σ H ex hV Q g =>
  .of (pe_or pe_w pe_w) (h W σ H ex hV _ fun v W1 H1 s1 r1 => by
    cases r1
    refine ⟨t, rfl, ?_⟩
    cases t with
    | false => rw [if_neg Bool.false_ne_true]; exact h2 rfl W1 σ H1 s1.wh (hV.mono s1.ww) Q (g.step s1)
    | true => rw [if_pos rfl]; exact g _ W1 H1 s1 (.bl true))⟩
theorem j_not (h : J X a ρ (.bl t)) : J X (.UnaryOp .Not a pos) ρ (.bl (!t)) := ⟨fun W σ H ex hV Q g =>
  .of (pe_not pe_w) (h W σ H ex hV _ fun v W1 H1 s1 r1 => by cases r1; exact ⟨t, rfl, g _ W1 H1 s1 (.bl _)⟩)⟩
/-- x or y, x and y by truth -/
theorem j_orT (h : J X a ρ d1) (q : truth d1 = some t) (h2 : t = false → J X (.BoolOp .Or (b :: rest) pos) ρ d2) : J X (.BoolOp .Or (a :: b :: rest) pos) ρ (if t = true then d1 else d2) := ⟨fun W σ H ex hV Q g =>
  .of (pe_orT pe_w pe_w) (h W σ H ex hV _ fun v W1 H1 s1 r1 => ⟨t, r1.truth s1.wh q, by
    cases t with
    | false => rw [if_neg Bool.false_ne_true]; rw [if_neg Bool.false_ne_true] at g; exact h2 rfl W1 σ H1 s1.wh (hV.mono s1.ww) Q (g.step s1)
    | true => rw [if_pos rfl]; rw [if_pos rfl] at g; exact g _ W1 H1 s1 r1⟩)⟩
theorem j_ifExp (hc : JT X c ρ t) (ha : t = true → J X a ρ d1) (hb : t = false → J X b ρ d2) : J X (.IfExp c a b pos) ρ (if t = true then d1 else d2) := ⟨fun W σ H ex hV Q g =>
  .of (pe_ifExp pt_w pe_w pe_w) (hc W σ H ex hV _ fun W1 H1 s1 => by
    cases t with
    | true => rw [if_pos rfl]; rw [if_pos rfl] at g; exact ha rfl W1 σ H1 s1.wh (hV.mono s1.ww) Q (g.step s1)
    | false => rw [if_neg Bool.false_ne_true]; rw [if_neg Bool.false_ne_true] at g; exact hb rfl W1 σ H1 s1.wh (hV.mono s1.ww) Q (g.step s1))⟩

/-! ### several -/
theorem ja_nil : JA X [] ρ [] := ⟨fun W σ H ex hV Q g => .of pa_nil (g [] W H (.refl ex) .nil)⟩
theorem ja_cons (h : J X e ρ d) (h2 : JA X es ρ ds) (hs : starEach (e :: es) X.env = (false, eval e X.env) :: starEach es X.env := by rfl) : JA X (e :: es) ρ (d :: ds) := ⟨fun W σ H ex hV Q g =>
  .of (pa_cons pe_w pa_w hs) (h W σ H ex hV _ fun v W1 H1 s1 r1 => h2 W1 σ H1 s1.wh (hV.mono s1.ww) _ fun vs W2 H2 s2 r2 => g (v :: vs) W2 H2 (s1.trans s2) (.cons (r1.mono s2.ww) r2))⟩
theorem j_tup {k} (h : JA X es ρ ds) (hl : ds.length ≤ sizeLine := by (simp only [List.length_cons, List.length_nil]; decide)) : J X (.Tuple es k pos) ρ (.tup ds) := ⟨fun W σ H ex hV Q g =>
  .of (pe_tup pa_w) (h W σ H ex hV _ fun vs W1 H1 s1 r1 => ⟨by rw [← r1.length]; exact hl, fun q hq =>
    g _ _ _ (s1.trans (.new s1.wh hq)) (.tup (SqT.of upd_same) (r1.mono (Evl.Ex.new (Evl.fresh_back s1.wh hq))))⟩)⟩
theorem j_lst (h : JA X es ρ ds) (hl : ds.length ≤ sizeLine := by (simp only [List.length_cons, List.length_nil]; decide)) : J X (.List es pos) ρ (.lst ds) := ⟨fun W σ H ex hV Q g =>
  .of (pe_lst pa_w) (h W σ H ex hV _ fun vs W1 H1 s1 r1 => ⟨by rw [← r1.length]; exact hl, fun q hq =>
    g _ _ _ (s1.trans (.new s1.wh hq)) (.lst upd_same (r1.mono (Evl.Ex.new (Evl.fresh_back s1.wh hq))))⟩)⟩

/-! ### subscripts -/
theorem RepAll.at {H : Hp} {vs : List V} {i : Int} (h : RepAll K H ds vs) (q : atI ds i = some d) : ∃ v, atI vs i = some v ∧ Rep K H d v := by
  unfold atI at q ⊢
  rw [h.length] at q
  cases hk : ixN vs.length i with
  | none => rw [hk] at q; cases q
  | some j =>
    rw [hk] at q
    obtain ⟨v, h1, h2⟩ := h.get (show ds[j]? = some d from q)
    exact ⟨v, h1, h2⟩
theorem atI_ints {ns : List Int} {i : Int} (h0 : 0 ≤ i) (h1 : i < ns.length) : atI (ns.map D.int) i = some (.int (ns.getD i.toNat 0)) := by
  unfold atI ixN
  rw [List.length_map, if_pos h0, if_pos h1]
  show (ns.map D.int)[i.toNat]? = _
  have : i.toNat < ns.length := by omega
  rw [List.getElem?_map, List.getElem?_eq_getElem this, List.getD_eq_getElem?_getD, List.getElem?_eq_getElem this]
  rfl
theorem j_ixL {i : Int} (ha : J X a ρ (.lst ds)) (hb : J X b ρ (.int i)) (q : atI ds i = some d) (hs : PlainIx b := by exact fun _ _ => rfl) : J X (.Subscript a b pos) ρ d := ⟨fun W σ H ex hV Q g =>
  .of (pe_ix ix_list pe_w pe_w hs) (ha W σ H ex hV _ fun v W1 H1 s1 r1 => hb W1 σ H1 s1.wh (hV.mono s1.ww) _ fun w W2 H2 s2 r2 => by
    cases r2
    cases r1 with
    | lst h1 h2 =>
      obtain ⟨v, e1, e2⟩ := h2.at q
      exact ⟨_, _, i, v, rfl, rfl, SqL.of ((s1.trans s2).wh _ _ (s2.ww _ _ h1)), e1, g _ W2 H2 (s1.trans s2) (e2.mono s2.ww)⟩)⟩
theorem j_ixT {i : Int} (ha : J X a ρ (.tup ds)) (hb : J X b ρ (.int i)) (q : atI ds i = some d) (hs : PlainIx b := by exact fun _ _ => rfl) : J X (.Subscript a b pos) ρ d := ⟨fun W σ H ex hV Q g =>
  .of (pe_ix ix_tup pe_w pe_w hs) (ha W σ H ex hV _ fun v W1 H1 s1 r1 => hb W1 σ H1 s1.wh (hV.mono s1.ww) _ fun w W2 H2 s2 r2 => by
    cases r2
    cases r1 with
    | tup h1 h2 =>
      obtain ⟨v, e1, e2⟩ := h2.at q
      exact ⟨_, _, i, v, rfl, rfl, Evl.ex_t s2.wh (Evl.ex_t s2.ww h1), e1, g _ W2 H2 (s1.trans s2) (e2.mono s2.ww)⟩)⟩
theorem j_ixS {z : Str} {i : Int} {n : Nat} (ha : J X a ρ (.str z)) (hb : J X b ρ (.int i)) (hz : z.length ≤ sizeLine) (q : atI z.cps.toList i = some n) (hs : PlainIx b := by exact fun _ _ => rfl) : J X (.Subscript a b pos) ρ (.str ⟨#[n]⟩) := ⟨fun W σ H ex hV Q g =>
  .of (pe_ix ix_str pe_w pe_w hs) (ha W σ H ex hV _ fun v W1 H1 s1 r1 => hb W1 σ H1 s1.wh (hV.mono s1.ww) _ fun w W2 H2 s2 r2 => by
    cases r2
    cases r1
    exact ⟨z, i, n, rfl, rfl, hz, q, g _ W2 H2 (s1.trans s2) (.str _)⟩)⟩

/-! ### slices -/
def JO (X : Cx) (e : Option Expr) (ρ : Rho) (o : Option Int) : Prop := (e = none ∧ o = none) ∨ ∃ e' i, e = some e' ∧ o = some i ∧ J X e' ρ (.int i)
theorem jo_none : JO X none ρ none := .inl ⟨rfl, rfl⟩
theorem jo_some {i : Int} (h : J X e ρ (.int i)) : JO X (some e) ρ (some i) := .inr ⟨e, i, rfl, rfl, h⟩
def wO (X : Cx) (e : Option Expr) : TO := match e with
  | none => tNoPart
  | some e => tPart (wE X e)
theorem po_w {e : Option Expr} : PO X e (wO X e) := match e with
  | none => po_none
  | some e => po_some pe_w
theorem JO.run {e : Option Expr} {o : Option Int} (h : JO X e ρ o) {W : Hp} {σ : L2.St} {H : Hp} (ex : Ex W H) (hV : Vis X.K ρ W σ) {Q : Option Int → Hp → Prop} (g : ∀ W' H', Step W H W' H' → Q o H') : wO X e σ H Q := by
  rcases h with ⟨rfl, rfl⟩ | ⟨e', i, rfl, rfl, h⟩
  · exact g W H (.refl ex)
  · exact h W σ H ex hV _ fun v W1 H1 s1 r1 => by cases r1; exact ⟨i, rfl, g W1 H1 s1⟩
def cut {α : Type} (xs : List α) (lo hi : Option Int) : List α := (xs.drop (HT.sIx xs.length 0 lo)).take (HT.sIx xs.length xs.length hi - HT.sIx xs.length 0 lo)
theorem RepAll.cut {H : Hp} {vs : List V} (h : RepAll K H ds vs) (lo hi : Option Int) : RepAll K H (Pf.cut ds lo hi) (cutV vs lo hi) := by
  unfold Pf.cut cutV
  rw [h.length]
  exact (h.drop _).take _
theorem j_slL {lo hi : Option Expr} {o1 o2 : Option Int} (ha : J X a ρ (.lst ds)) (h1 : JO X lo ρ o1) (h2 : JO X hi ρ o2) : J X (.Subscript a (.Slice lo hi none p2) pos) ρ (.lst (cut ds o1 o2)) := ⟨fun W σ H ex hV Q g =>
  .of (pe_slice sl_list pe_w po_w po_w) (ha W σ H ex hV _ fun v W1 H1 s1 r1 => h1.run s1.wh (hV.mono s1.ww) fun W2 H2 s2 => h2.run s2.wh (hV.mono (s1.trans s2).ww) fun W3 H3 s3 => by
    cases r1 with
    | lst k1 k2 =>
      have s4 := (s1.trans s2).trans s3
      refine ⟨_, _, rfl, SqL.of ((s2.trans s3).hh _ _ (s1.wh _ _ k1)), fun q hq => ?_⟩
      exact g _ _ _ (s4.trans (.new s4.wh hq)) (.lst upd_same ((k2.mono ((s2.trans s3).ww.trans (Evl.Ex.new (Evl.fresh_back s4.wh hq)))).cut _ _)))⟩
theorem j_slScr {ns : List Int} {lo hi : Option Expr} {o1 o2 : Option Int} (ha : J X a ρ (.scr ns)) (h1 : JO X lo ρ o1) (h2 : JO X hi ρ o2) : J X (.Subscript a (.Slice lo hi none p2) pos) ρ (.lst ((cut ns o1 o2).map D.int)) := ⟨fun W σ H ex hV Q g =>
  .of (pe_slice sl_list pe_w po_w po_w) (ha W σ H ex hV _ fun v W1 H1 s1 r1 => h1.run s1.wh (hV.mono s1.ww) fun W2 H2 s2 => h2.run s2.wh (hV.mono (s1.trans s2).ww) fun W3 H3 s3 => by
    cases r1 with
    | scr k1 =>
      have s4 := (s1.trans s2).trans s3
      refine ⟨_, _, rfl, Evl.ex_l (s2.trans s3).hh (Evl.ex_l s1.wh k1), fun q hq => ?_⟩
      have e1 : cutV (ns.map V.int) o1 o2 = (cut ns o1 o2).map V.int := by
        unfold cutV cut
        rw [List.length_map, ← List.map_drop, ← List.map_take]
      exact g _ _ _ (s4.trans (.new s4.wh hq)) (.lst upd_same (by rw [e1]; exact .toInts _)))⟩
theorem j_slT {lo hi : Option Expr} {o1 o2 : Option Int} (ha : J X a ρ (.tup ds)) (h1 : JO X lo ρ o1) (h2 : JO X hi ρ o2) : J X (.Subscript a (.Slice lo hi none p2) pos) ρ (.tup (cut ds o1 o2)) := ⟨fun W σ H ex hV Q g =>
  .of (pe_slice sl_tupA pe_w po_w po_w) (ha W σ H ex hV _ fun v W1 H1 s1 r1 => h1.run s1.wh (hV.mono s1.ww) fun W2 H2 s2 => h2.run s2.wh (hV.mono (s1.trans s2).ww) fun W3 H3 s3 => by
    cases r1 with
    | @tup l vs _ k1 k2 =>
      have s4 := (s1.trans s2).trans s3
      refine ⟨l, vs, rfl, Evl.ex_t (s2.trans s3).hh (Evl.ex_t s1.wh k1), fun hw => ?_, fun hw q hq => ?_⟩
      · refine g _ _ _ s4 ?_
        have e1 : cut ds o1 o2 = ds := by
          unfold cut
          rw [k2.length, hw.1, hw.2]
          simp [← k2.length]
        rw [e1]
        exact .tup (Evl.ex_t (s2.trans s3).ww k1) (k2.mono (s2.trans s3).ww)
      · exact g _ _ _ (s4.trans (.new s4.wh hq)) (.tup (SqT.of upd_same) ((k2.mono ((s2.trans s3).ww.trans (Evl.Ex.new (Evl.fresh_back s4.wh hq)))).cut _ _)))⟩
theorem j_slS {z : Str} {lo hi : Option Expr} {o1 o2 : Option Int} (ha : J X a ρ (.str z)) (hz : z.length ≤ sizeLine) (h1 : JO X lo ρ o1) (h2 : JO X hi ρ o2) : J X (.Subscript a (.Slice lo hi none p2) pos) ρ (.str (cutS z o1 o2)) := ⟨fun W σ H ex hV Q g =>
  .of (pe_slice sl_str pe_w po_w po_w) (ha W σ H ex hV _ fun v W1 H1 s1 r1 => h1.run s1.wh (hV.mono s1.ww) fun W2 H2 s2 => h2.run s2.wh (hV.mono (s1.trans s2).ww) fun W3 H3 s3 => by
    cases r1
    exact ⟨z, rfl, hz, g _ _ _ ((s1.trans s2).trans s3) (.str _)⟩)⟩
theorem j_rev {k p1 p2 p3} (ha : J X a ρ (.lst ds)) : J X (.Subscript a (.Slice none none (some (.UnaryOp .USub (.Constant (.int 1) k p1) p2)) p3) pos) ρ (.lst ds.reverse) := ⟨fun W σ H ex hV Q g =>
  .of (pe_revL pe_w) (ha W σ H ex hV _ fun v W1 H1 s1 r1 => by
    cases r1 with
    | lst k1 k2 =>
      exact ⟨_, _, rfl, SqL.of (s1.wh _ _ k1), fun q hq => g _ _ _ (s1.trans (.new s1.wh hq)) (.lst upd_same ((k2.mono (Evl.Ex.new (Evl.fresh_back s1.wh hq))).reverse))⟩)⟩

/-! ### calls of built-ins -/
theorem j_cb {r : List V → Hp → VK → Prop} {id : String} {n : Str} (hc : CallR X (.builtin id) r) (hm : X.mg n = none) (hv : bootBuiltins n = some (.builtin id)) (ha : JA X (e :: es) ρ ds) (hr : RCD X.K r ds d) (hg : Gl X n := by rfl) (hn : n ≠ "__name__" := by decide) (hdb : (n == ("__debug__" : Str)) = false := by decide)
    (he : starEach (e :: es) X.env = (false, eval e X.env) :: starEach es X.env := by rfl) (hpl : (backTo pos (starEach es X.env)).any (·.1) = false := by rfl) : J X (.Call (.Name n p) (e :: es) [] pos) ρ d := ⟨fun W σ H ex hV Q g =>
  .of (pe_callB hc hg hm hv pa_w hn hdb he hpl) (ha W σ H ex hV _ fun vs W1 H1 s1 r1 => hr W1 H1 vs s1.wh r1 Q (g.step s1))⟩
theorem j_ct {r : List V → Hp → VK → Prop} {T : String} {n : Str} (hc : CallR X (.type T) r) (hm : X.mg n = none) (hv : bootBuiltins n = some (.type T)) (ha : JA X (e :: es) ρ ds) (hr : RCD X.K r ds d) (hg : Gl X n := by rfl) (hn : n ≠ "__name__" := by decide) (hdb : (n == ("__debug__" : Str)) = false := by decide)
    (he : starEach (e :: es) X.env = (false, eval e X.env) :: starEach es X.env := by rfl) (hpl : (backTo pos (starEach es X.env)).any (·.1) = false := by rfl) : J X (.Call (.Name n p) (e :: es) [] pos) ρ d := ⟨fun W σ H ex hV Q g =>
  .of (pe_callTy hc hg hm hv pa_w hn hdb he hpl) (ha W σ H ex hV _ fun vs W1 H1 s1 r1 => hr W1 H1 vs s1.wh r1 Q (g.step s1))⟩
/-- a built-in's name as a value: a class -/
theorem j_ty {T : String} {n : Str} (hm : X.mg n = none) (hv : bootBuiltins n = some (.type T)) (hg : Gl X n := by rfl) (hn : n ≠ "__name__" := by decide) (hd : (n == ("__debug__" : Str)) = false := by decide) : J X (.Name n pos) ρ (.ty T) := ⟨fun W σ H ex hV Q g =>
  .of (pe_bltn hg hm hv (show RelV (.ty T) (.type T) from rfl) hn hd) (g.now ex (.ty T))⟩
/-- a module's constant -/
theorem j_glob {n : Str} {v : V} {w : Value} (hm : X.mg n = some w) (r : RelV v w) (hd : ∀ H, Rep X.K H d v) (hg : Gl X n := by rfl) (hdb : (n == ("__debug__" : Str)) = false := by decide) : J X (.Name n pos) ρ d := ⟨fun W σ H ex hV Q g =>
  .of (pe_glob hg hm r hdb) (g.now ex (hd W))⟩
end

/-! ### calls of defs -/
/-- a def's promise: at arguments that stand for ds, where G ds P, it hands back what P holds of -/
def spP (K : PySem.W.Frag) (n : Nat) (G : List D → (D → Prop) → Prop) : Sp := fun vs H Q _ => vs.length = n ∧ ∃ W ds P, Ex W H ∧ RepAll K W ds vs ∧ G ds P ∧ ∀ d, P d → GoodE K W H d Q
structure PFn (P : Program) (w : World) (K : PySem.W.Frag) (mg : Str → Option Value) (base : Heap) (k : Nat) (x : Str) (n : Nat) (G : List D → (D → Prop) → Prop) : Prop where
  ex : ∃ f fd ps, FnOk P w K mg base CX0 k f fd ps (spP K n G) ∧ mg x = some (.ref f) ∧ PySem.W.keepIn K (.ref f) = true ∧ Binds K fd ps []
section
variable {X : Cx} {e : Expr} {es : List Expr} {ρ : Rho} {d : D} {ds : List D} {pos p : Pos} {k j n : Nat} {x : Str} {G : List D → (D → Prop) → Prop} {P : D → Prop}
theorem j_call (c : PFn X.prog X.w X.K X.mg X.base k x n G) (hr : Room j X.A) (ha : JA X (e :: es) ρ ds) (hG : G ds P) (hP : ∀ d', P d' → d' = d) (hk : k ≤ j := by decide) (hn : ds.length = n := by rfl) (hg : Gl X x := by rfl) (hdb : (x == ("__debug__" : Str)) = false := by decide)
    (he : starEach (e :: es) X.env = (false, eval e X.env) :: starEach es X.env := by rfl) (hpl : (backTo pos (starEach es X.env)).any (·.1) = false := by rfl) : J X (.Call (.Name x p) (e :: es) [] pos) ρ d := ⟨fun W σ H ex hV Q g => by
  obtain ⟨f, fd, ps, F, hm, hkp, hb⟩ := c.ex
  refine .of (pe_call (F.mono hk) hr hg hm hkp hb .nil pass0 pa_w hdb he hpl) (ha W σ H ex hV _ fun vs W1 H1 s1 r1 => ?_)
  rw [List.append_nil]
  exact ⟨by rw [← r1.length]; exact hn, W1, ds, P, s1.wh, r1, hG, fun d' hd => by rw [hP d' hd]; exact g.step s1⟩⟩
end
end Pf

namespace Pf
open PySem L2
open Evl (Ex)

/-! ### rules over data -/
section
variable {K : PySem.W.Frag} {i j : Int} {s t : Str} {b c : Bool} {d : D} {ds es : List D}
theorem r2_I {C : Int → Int → Prop} {g : Int → Int → Int} (h : C i j) : R2D K (rI C fun i j => .int (g i j)) (.int i) (.int j) (.int (g i j)) := fun W H v u ex r1 r2 Q q => by
  cases r1; cases r2; exact ⟨i, j, rfl, rfl, h, q.now ex (.int _)⟩
theorem r2_I0 {g : Int → Int → Int} : R2D K (rI0 fun i j => .int (g i j)) (.int i) (.int j) (.int (g i j)) := fun W H v u ex r1 r2 Q q => by
  cases r1; cases r2; exact ⟨i, j, rfl, rfl, q.now ex (.int _)⟩
theorem r2_B0 {g : Int → Int → Bool} : R2D K (rI0 fun i j => .bl (g i j)) (.int i) (.int j) (.bl (g i j)) := fun W H v u ex r1 r2 Q q => by
  cases r1; cases r2; exact ⟨i, j, rfl, rfl, q.now ex (.bl _)⟩
theorem r2_eqI : R2D K rEq (.int i) (.int j) (.bl (decide (i = j))) := fun W H v u ex r1 r2 Q q => by
  cases r1; cases r2
  refine ⟨rfl, ?_⟩
  have e : decide (V.int i = V.int j) = decide (i = j) := decide_eq_decide.mpr ⟨fun h => V.int.inj h, fun h => h ▸ rfl⟩
  rw [e]; exact q.now ex (.bl _)
theorem r2_eqS : R2D K rEq (.str s) (.str t) (.bl (decide (s = t))) := fun W H v u ex r1 r2 Q q => by
  cases r1; cases r2
  refine ⟨rfl, ?_⟩
  have e : decide (V.str s = V.str t) = decide (s = t) := decide_eq_decide.mpr ⟨fun h => V.str.inj h, fun h => h ▸ rfl⟩
  rw [e]; exact q.now ex (.bl _)
theorem r2_eqB : R2D K rEq (.bl b) (.bl c) (.bl (decide (b = c))) := fun W H v u ex r1 r2 Q q => by
  cases r1; cases r2
  refine ⟨rfl, ?_⟩
  have e : decide (V.bl b = V.bl c) = decide (b = c) := decide_eq_decide.mpr ⟨fun h => V.bl.inj h, fun h => h ▸ rfl⟩
  rw [e]; exact q.now ex (.bl _)
theorem r2_neI : R2D K rNe (.int i) (.int j) (.bl (!decide (i = j))) := fun W H v u ex r1 r2 Q q => by
  cases r1; cases r2
  refine ⟨rfl, ?_⟩
  have e : decide (V.int i = V.int j) = decide (i = j) := decide_eq_decide.mpr ⟨fun h => V.int.inj h, fun h => h ▸ rfl⟩
  rw [e]; exact q.now ex (.bl _)
theorem r2_neS : R2D K rNe (.str s) (.str t) (.bl (!decide (s = t))) := fun W H v u ex r1 r2 Q q => by
  cases r1; cases r2
  refine ⟨rfl, ?_⟩
  have e : decide (V.str s = V.str t) = decide (s = t) := decide_eq_decide.mpr ⟨fun h => V.str.inj h, fun h => h ▸ rfl⟩
  rw [e]; exact q.now ex (.bl _)
theorem r2_neB : R2D K rNe (.bl b) (.bl c) (.bl (!decide (b = c))) := fun W H v u ex r1 r2 Q q => by
  cases r1; cases r2
  refine ⟨rfl, ?_⟩
  have e : decide (V.bl b = V.bl c) = decide (b = c) := decide_eq_decide.mpr ⟨fun h => V.bl.inj h, fun h => h ▸ rfl⟩
  rw [e]; exact q.now ex (.bl _)
def isNon : D → Bool
  | .non => true
  | _ => false
theorem Rep.isNon {H : Hp} {v : V} (r : Rep K H d v) : decide (v = .non) = isNon d := by
  cases r <;> simp [Pf.isNon]
theorem r2_isN : R2D K (fun x y H Q => y = .non ∧ Q (.bl (decide (x = .non))) H) d .non (.bl (isNon d)) := fun W H v u ex r1 r2 Q q => by
  cases r2; rw [r1.isNon]; exact ⟨rfl, q.now ex (.bl _)⟩
theorem r2_notN : R2D K (fun x y H Q => y = .non ∧ Q (.bl (!decide (x = .non))) H) d .non (.bl (!isNon d)) := fun W H v u ex r1 r2 Q q => by
  cases r2; rw [r1.isNon]; exact ⟨rfl, q.now ex (.bl _)⟩
theorem r2_addS (h : s.length + t.length ≤ sizeLine) : R2D K (fun x y H Q => ∃ i j, x = .str i ∧ y = .str j ∧ i.length + j.length ≤ sizeLine ∧ Q (.str (i ++ j)) H) (.str s) (.str t) (.str (s ++ t)) := fun W H v u ex r1 r2 Q q => by
  cases r1; cases r2; exact ⟨s, t, rfl, rfl, h, q.now ex (.str _)⟩
theorem r2_addL (h : ds.length + es.length ≤ sizeLine) : R2D K rCat (.lst ds) (.lst es) (.lst (ds ++ es)) := fun W H v u ex r1 r2 Q q => by
  cases r1 with
  | lst h1 k1 =>
    cases r2 with
    | lst h2 k2 =>
      refine ⟨_, _, _, _, rfl, rfl, ex _ _ h1, ex _ _ h2, by rw [← k1.length, ← k2.length]; exact h, fun p hp => q _ _ _ (.new ex hp) (.lst upd_same ?_)⟩
      exact (k1.append k2).mono (Evl.Ex.new (Evl.fresh_back ex hp))
theorem r2_addT (h : ds.length + es.length ≤ sizeLine) : R2D K (rCatA K) (.tup ds) (.tup es) (.tup (ds ++ es)) := fun W H v u ex r1 r2 Q q => by
  cases r1 with
  | tup h1 k1 =>
    cases r2 with
    | tup h2 k2 =>
      refine ⟨_, _, _, _, rfl, rfl, Evl.ex_t ex h1, Evl.ex_t ex h2, by rw [← k1.length, ← k2.length]; exact h, fun e => ?_, fun e1 e2 => ?_, fun e1 e2 p hp => ?_⟩
      · subst e; cases k1; exact q.now ex (.tup h2 k2)
      · subst e2; cases k2; rw [List.append_nil] at q; exact q.now ex (.tup h1 k1)
      · exact q _ _ _ (.new ex hp) (.tup (SqT.of upd_same) ((k1.append k2).mono (Evl.Ex.new (Evl.fresh_back ex hp))))
/-- in, over flat items -/
def flatD : D → Bool
  | .non => true
  | .bl _ => true
  | .int _ => true
  | .str _ => true
  | _ => false
def eqD : D → D → Bool
  | .non, .non => true
  | .bl a, .bl b => a == b
  | .bl a, .int b => (if a then 1 else 0) == b
  | .int a, .bl b => a == (if b then 1 else 0)
  | .int a, .int b => a == b
  | .str a, .str b => a == b
  | _, _ => false
theorem Rep.flat {H : Hp} {v : V} (r : Rep K H d v) (h : flatD d = true) : flatV v = true := by
  cases r <;> first | rfl | cases h
theorem Rep.eqV {H : Hp} {v u : V} {e : D} (r1 : Rep K H d v) (r2 : Rep K H e u) (h1 : flatD d = true) (h2 : flatD e = true) : L2.eqV v u = eqD d e := by
  cases r1 <;> first | (cases r2 <;> first | rfl | cases h2) | cases h1
theorem RepAll.flat : ∀ {ds : List D} {vs : List V} {H : Hp}, RepAll K H ds vs → ds.all flatD = true → vs.all flatV = true
  | _, _, _, .nil, _ => rfl
  | _, _, _, .cons r t, h => by
    rw [List.all_cons, Bool.and_eq_true] at h ⊢
    exact ⟨r.flat h.1, RepAll.flat t h.2⟩
theorem RepAll.inV {H : Hp} {v : V} (r : Rep K H d v) (hd : flatD d = true) : ∀ {ds : List D} {vs : List V}, RepAll K H ds vs → ds.all flatD = true → L2.inV v vs = ds.any fun y => eqD y d
  | _, _, .nil, _ => rfl
  | _, _, .cons r' t, h => by
    rw [List.all_cons, Bool.and_eq_true] at h
    show (L2.eqV _ _ || _) = _
    rw [List.any_cons, r'.eqV r h.1 hd]
    have := RepAll.inV r hd t h.2
    unfold L2.inV at this
    rw [this]
theorem r2_inL {neg : Bool} (hd : flatD d = true) (hs : ds.all flatD = true) : R2D K (rIn K neg) d (.lst ds) (.bl (if neg then !(ds.any fun y => eqD y d) else ds.any fun y => eqD y d)) := fun W H v u ex r1 r2 Q q => by
  cases r2 with
  | lst h k =>
    refine ⟨_, _, rfl, .inl (SqL.of (ex _ _ h)), r1.flat hd, k.flat hs, ?_⟩
    rw [RepAll.inV r1 hd k hs]
    exact q.now ex (.bl _)
theorem r2_inT {neg : Bool} (hd : flatD d = true) (hs : ds.all flatD = true) : R2D K (rIn K neg) d (.tup ds) (.bl (if neg then !(ds.any fun y => eqD y d) else ds.any fun y => eqD y d)) := fun W H v u ex r1 r2 Q q => by
  cases r2 with
  | tup h k =>
    refine ⟨_, _, rfl, .inr (Evl.ex_t ex h), r1.flat hd, k.flat hs, ?_⟩
    rw [RepAll.inV r1 hd k hs]
    exact q.now ex (.bl _)
theorem any_eqStr (x : Str) (xs : List Str) : ((xs.map D.str).any fun y => eqD y (.str x)) = decide (x ∈ xs) := by
  induction xs with
  | nil => rfl
  | cons y ys ih =>
    rw [List.map_cons, List.any_cons, ih]
    show ((y == x) || _) = _
    by_cases e : y = x
    · subst e; simp
    · have : ¬ x = y := fun z => e z.symm
      simp [e, this]
theorem all_flatStr (xs : List Str) : (xs.map D.str).all flatD = true := by
  induction xs with
  | nil => rfl
  | cons y ys ih => rw [List.map_cons, List.all_cons, ih]; rfl
theorem all_flatInt (xs : List Int) : (xs.map D.int).all flatD = true := by
  induction xs with
  | nil => rfl
  | cons y ys ih => rw [List.map_cons, List.all_cons, ih]; rfl
theorem r2_inStrL {x : Str} {xs : List Str} : R2D K (rIn K false) (.str x) (.lst (xs.map D.str)) (.bl (decide (x ∈ xs))) := by
  have h := r2_inL (K := K) (neg := false) (d := .str x) (ds := xs.map D.str) rfl (all_flatStr xs)
  rw [any_eqStr] at h; exact h
theorem r2_ninStrL {x : Str} {xs : List Str} : R2D K (rIn K true) (.str x) (.lst (xs.map D.str)) (.bl (!decide (x ∈ xs))) := by
  have h := r2_inL (K := K) (neg := true) (d := .str x) (ds := xs.map D.str) rfl (all_flatStr xs)
  rw [any_eqStr] at h; exact h
theorem r2_inStrT {x : Str} {xs : List Str} : R2D K (rIn K false) (.str x) (.tup (xs.map D.str)) (.bl (decide (x ∈ xs))) := by
  have h := r2_inT (K := K) (neg := false) (d := .str x) (ds := xs.map D.str) rfl (all_flatStr xs)
  rw [any_eqStr] at h; exact h
theorem r2_ninStrT {x : Str} {xs : List Str} : R2D K (rIn K true) (.str x) (.tup (xs.map D.str)) (.bl (!decide (x ∈ xs))) := by
  have h := r2_inT (K := K) (neg := true) (d := .str x) (ds := xs.map D.str) rfl (all_flatStr xs)
  rw [any_eqStr] at h; exact h
theorem r2_inSign {c : Nat} {z : Str} : R2D K (fun x y H Q => ∃ (c : Nat) (z : Str), x = .str ⟨#[c]⟩ ∧ y = .str z ∧ Q (.bl (decide (c ∈ z.cps.toList))) H) (.str ⟨#[c]⟩) (.str z) (.bl (decide (c ∈ z.cps.toList))) := fun W H v u ex r1 r2 Q q => by
  cases r1; cases r2; exact ⟨c, z, rfl, rfl, q.now ex (.bl _)⟩
/-! deep == -/
mutual
def toPy : D → Option PyData
  | .non => some .none
  | .bl b => some (.bool b)
  | .int i => some (.int i)
  | .str s => some (.str s)
  | .lst xs => (toPys xs).map .list
  | .tup xs => (toPys xs).map .tuple
  | _ => none
def toPys : List D → Option (List PyData)
  | [] => some []
  | x :: xs => match toPy x, toPys xs with
    | some y, some ys => some (y :: ys)
    | _, _ => none
end
theorem Rep.dp {H : Hp} {v : V} (h : Rep K H d v) : ∀ p, toPy d = some p → Dp K H v p := by
  refine Rep.rec (motive_1 := fun d v _ => ∀ p, toPy d = some p → Dp K H v p) (motive_2 := fun ds vs _ => ∀ ps, toPys ds = some ps → DpAll K H vs ps) ?_ ?_ ?_ ?_ ?_ ?_ ?_ ?_ ?_ ?_ ?_ ?_ ?_ ?_ h
  · intro p e; cases e; exact .non
  · intro b p e; cases e; exact .bl b
  · intro b p e; cases e; exact .int b
  · intro b p e; cases e; exact .str b
  · intro b p e; cases e
  · intro a dd fs fds _ _ _ _ p e; cases e
  · intro a ns h p e; cases e
  · intro a vs ds h _ ih p e
    simp only [toPy, Option.map_eq_some_iff] at e
    obtain ⟨ps, e1, rfl⟩ := e
    exact .lst (SqL.of h) (ih ps e1)
  · intro a vs ds h _ ih p e
    simp only [toPy, Option.map_eq_some_iff] at e
    obtain ⟨ps, e1, rfl⟩ := e
    exact .tup h (ih ps e1)
  · intro a kvs kds _ _ _ _ p e; cases e
  · intro a C dx fs fds _ _ _ _ p e; cases e
  · intro a o vs ds _ _ _ _ _ p e; cases e
  · intro ps e; cases e; exact .nil
  · intro d v ds vs _ _ i1 i2 ps e
    simp only [toPys] at e
    split at e
    · rename_i y ys e1 e2
      cases e
      exact .cons (i1 _ e1) (i2 _ e2)
    · cases e
theorem r2_eqD {d e : D} {p q : PyData} {b : Bool} (h1 : toPy d = some p) (h2 : toPy e = some q) (s1 : SeqAt.shaped p = true) (s2 : SeqAt.shaped q = true) (hb : PyData.eqv p q = b) : R2D K (rEqD K) d e (.bl b) := fun W H v u ex r1 r2 Q g =>
  ⟨p, q, (r1.mono ex).dp p h1, (r2.mono ex).dp q h2, s1, s2, by rw [hb]; exact g.now ex (.bl _)⟩
theorem r2_neD {d e : D} {p q : PyData} {b : Bool} (h1 : toPy d = some p) (h2 : toPy e = some q) (s1 : SeqAt.shaped p = true) (s2 : SeqAt.shaped q = true) (hb : PyData.eqv p q = b) : R2D K (rNeD K) d e (.bl (!b)) := fun W H v u ex r1 r2 Q g =>
  ⟨p, q, (r1.mono ex).dp p h1, (r2.mono ex).dp q h2, s1, s2, by rw [hb]; exact g.now ex (.bl _)⟩

/-! ### built-ins over data -/
theorem rc_int : RCD K (fun xs H Q => (∃ i, xs = [.int i] ∧ Q (.int i) H) ∨ ∃ k, xs = [.bl k] ∧ Q (.int (if k then 1 else 0)) H) [.int i] (.int i) := fun W H vs ex r Q q => by
  cases r with | cons r t => cases t; cases r; exact .inl ⟨i, rfl, q.now ex (.int _)⟩
theorem rc_intB : RCD K (fun xs H Q => (∃ i, xs = [.int i] ∧ Q (.int i) H) ∨ ∃ k, xs = [.bl k] ∧ Q (.int (if k then 1 else 0)) H) [.bl b] (.int (if b then 1 else 0)) := fun W H vs ex r Q q => by
  cases r with | cons r t => cases t; cases r; exact .inr ⟨b, rfl, q.now ex (.int _)⟩
theorem rc_abs : RCD K (fun xs H Q => ∃ i, xs = [.int i] ∧ Q (.int (if i < 0 then -i else i)) H) [.int i] (.int (if i < 0 then -i else i)) := fun W H vs ex r Q q => by
  cases r with | cons r t => cases t; cases r; exact ⟨i, rfl, q.now ex (.int _)⟩
theorem rc_max2 : RCD K (fun xs H Q => ∃ i j, xs = [.int i, .int j] ∧ Q (.int (if j > i then j else i)) H) [.int i, .int j] (.int (if j > i then j else i)) := fun W H vs ex r Q q => by
  cases r with | cons r t => cases t with | cons r' t' => cases t'; cases r; cases r'; exact ⟨i, j, rfl, q.now ex (.int _)⟩
theorem rc_min2 : RCD K (fun xs H Q => ∃ i j, xs = [.int i, .int j] ∧ Q (.int (if j < i then j else i)) H) [.int i, .int j] (.int (if j < i then j else i)) := fun W H vs ex r Q q => by
  cases r with | cons r t => cases t with | cons r' t' => cases t'; cases r; cases r'; exact ⟨i, j, rfl, q.now ex (.int _)⟩
theorem rc_strI (h : i.natAbs.log2 < 1920) : RCD K (fun xs H Q => ∃ i, xs = [.int i] ∧ i.natAbs.log2 < 1920 ∧ Q (.str (toString i)) H) [.int i] (.str (toString i)) := fun W H vs ex r Q q => by
  cases r with | cons r t => cases t; cases r; exact ⟨i, rfl, h, q.now ex (.str _)⟩
def lenD : D → Option Nat
  | .lst ds => some ds.length
  | .tup ds => some ds.length
  | .scr ns => some ns.length
  | .str s => if s.length ≤ sizeLine then some s.length else none
  | _ => none
theorem rc_len {n : Nat} (h : lenD d = some n) : RCD K (fun xs H Q => ∃ x n, xs = [x] ∧ LenV K x H n ∧ Q (.int n) H) [d] (.int n) := fun W H vs ex r Q q => by
  cases r with
  | cons r t =>
    cases t
    refine ⟨_, n, rfl, ?_, q.now ex (.int _)⟩
    cases r with
    | lst h1 k => cases h; exact .inl ⟨_, SqL.of (ex _ _ h1), k.length⟩
    | tup h1 k => cases h; exact .inr ⟨_, Evl.ex_t ex h1, k.length⟩
    | scr h1 => cases h; exact .inl ⟨_, Evl.ex_l ex h1, by rw [List.length_map]⟩
    | str x =>
      simp only [lenD] at h
      split at h
      · cases h; exact ⟨by assumption, rfl⟩
      · cases h
    | _ => cases h
theorem rc_sum {ns : List Int} : RCD K (rSum K) [.lst (ns.map D.int)] (.int ns.sum) := fun W H vs ex r Q q => by
  cases r with
  | cons r t =>
    cases t
    cases r with
    | lst h1 k => cases k.ints; exact ⟨_, ns, rfl, SqL.of (ex _ _ h1), q.now ex (.int _)⟩
theorem rc_all {bs : List Bool} : RCD K (rAll K) [.lst (bs.map D.bl)] (.bl (bs.all id)) := fun W H vs ex r Q q => by
  cases r with
  | cons r t =>
    cases t
    cases r with
    | lst h1 k => cases k.bools; exact ⟨_, bs, rfl, SqL.of (ex _ _ h1), q.now ex (.bl _)⟩
theorem rc_any {bs : List Bool} : RCD K (rAny K) [.lst (bs.map D.bl)] (.bl (bs.any id)) := fun W H vs ex r Q q => by
  cases r with
  | cons r t =>
    cases t
    cases r with
    | lst h1 k => cases k.bools; exact ⟨_, bs, rfl, SqL.of (ex _ _ h1), q.now ex (.bl _)⟩
def sortI (ns : List Int) : List Int := ns.mergeSort (fun a b => decide (a ≤ b))
theorem sortI_perm (ns : List Int) : (sortI ns).Perm ns := List.mergeSort_perm _ _
theorem sortI_sorted (ns : List Int) : (sortI ns).Pairwise (· ≤ ·) := by
  have h := List.pairwise_mergeSort (le := fun a b : Int => decide (a ≤ b)) (fun a b c h1 h2 => by simp at *; omega) (fun a b => by simp; omega) ns
  exact h.imp fun h => by simpa using h
theorem sortI_eq {ns ms : List Int} (h : ms.Perm ns) (h2 : ms.Pairwise (· ≤ ·)) : ms = sortI ns := PySem.W.ksm_same (h.trans (sortI_perm ns).symm) h2 (sortI_sorted ns)
theorem rc_sortI {ns : List Int} : RCD K (rSortedI K) [.lst (ns.map D.int)] (.lst ((sortI ns).map D.int)) := fun W H vs ex r Q q => by
  cases r with
  | cons r t =>
    cases t
    cases r with
    | lst h1 k =>
      cases k.ints
      refine ⟨_, ns, rfl, SqL.of (ex _ _ h1), fun ms p hp hs hn => ?_⟩
      rw [sortI_eq hp hs]
      exact q _ _ _ (.new ex hn) (.lst upd_same (.toInts _))
theorem rc_tupleL : RCD K (fun xs H Q => ∃ p ys, xs = [.ref p] ∧ ((SqL K H p ys ∧ ∀ l, H l = none → Q (.ref l) (upd H l (.tup ys))) ∨ (SqT K H p ys ∧ Q (.ref p) H))) [.lst ds] (.tup ds) := fun W H vs ex r Q q => by
  cases r with
  | cons r t =>
    cases t
    cases r with
    | lst h1 k => exact ⟨_, _, rfl, .inl ⟨SqL.of (ex _ _ h1), fun l hl => q _ _ _ (.new ex hl) (.tup (SqT.of upd_same) (k.mono (Evl.Ex.new (Evl.fresh_back ex hl))))⟩⟩
theorem rc_listL : RCD K (fun xs H Q => ∃ p ys, xs = [.ref p] ∧ (SqL K H p ys ∨ SqT K H p ys) ∧ ∀ l, H l = none → Q (.ref l) (upd H l (.lst ys))) [.lst ds] (.lst ds) := fun W H vs ex r Q q => by
  cases r with
  | cons r t =>
    cases t
    cases r with
    | lst h1 k => exact ⟨_, _, rfl, .inl (SqL.of (ex _ _ h1)), fun l hl => q _ _ _ (.new ex hl) (.lst upd_same (k.mono (Evl.Ex.new (Evl.fresh_back ex hl))))⟩
theorem rc_listT : RCD K (fun xs H Q => ∃ p ys, xs = [.ref p] ∧ (SqL K H p ys ∨ SqT K H p ys) ∧ ∀ l, H l = none → Q (.ref l) (upd H l (.lst ys))) [.tup ds] (.lst ds) := fun W H vs ex r Q q => by
  cases r with
  | cons r t =>
    cases t
    cases r with
    | tup h1 k => exact ⟨_, _, rfl, .inr (Evl.ex_t ex h1), fun l hl => q _ _ _ (.new ex hl) (.lst upd_same (k.mono (Evl.Ex.new (Evl.fresh_back ex hl))))⟩
/-- isinstance(x, T), T a built-in class, x no instance -/
def tyD : D → Option Value
  | .non => some (.type "NoneType")
  | .bl _ => some (.type "bool")
  | .int _ => some (.type "int")
  | .str _ => some (.type "str")
  | .lst _ => some (.type "list")
  | .dct _ => some (.type "dict")
  | _ => none
theorem rc_isi {T : String} {t : Value} (h : tyD d = some t) (hk : PySem.W.kitOne K t (.type T) = some b) : RCD K (rIsi K) [d, .ty T] (.bl b) := fun W H vs ex r Q q => by
  cases r with
  | cons r t =>
    cases t with
    | cons r' t' =>
      cases t'
      cases r'
      refine ⟨_, _, _, _, b, rfl, .ty T, .base ?_, hk, q.now ex (.bl _)⟩
      cases r with
      | non => cases h; exact .non
      | bl b => cases h; exact .bl _
      | int i => cases h; exact .int _
      | str s => cases h; exact .str _
      | lst h1 _ => cases h; exact .lst (ex _ _ h1)
      | dct h1 _ _ => cases h; exact .dK (ex _ _ h1)
      | _ => cases h
end

/-! ### what is walked -/
structure Walks (K : PySem.W.Frag) (J : It) (W : Hp) (ds : List D) : Prop where
  go : ∀ i H, Ex W H → i < ds.length → J.go i H
  yld : ∀ i H x H' d, Ex W H → ds[i]? = some d → J.yld i H x H' → ∀ W2, Ex W W2 → Ex W2 H → ∃ W3, Step W2 H W3 H' ∧ Rep K W3 d x
  stop : ∀ H, Ex W H → J.stop ds.length H
def wI (X : Cx) (tg iter : Expr) : TI := fun σ H R => ∀ (pins : List (Addr × Obj)) (s : Shared), Inv X pins σ H s →
  wpAny (model X.prog X.w) X.A (eval iter X.env) (fun v s1 => wpAny (model X.prog X.w) X.A (pyIter v) (PIE X pins σ tg R) X.xe s1) X.xe s
theorem pi_w {X : Cx} {tg iter : Expr} : PI X tg iter (wI X tg iter) := ⟨fun pins s _ _ _ I h => h pins s I⟩
theorem wI.of {X : Cx} {tg iter : Expr} {t : TI} (h : PI X tg iter t) {σ : L2.St} {H : Hp} {R : It → Hp → Prop} (q : t σ H R) : wI X tg iter σ H R := fun pins s I => h.run pins s σ H R I q
structure JI (X : Cx) (tg iter : Expr) (ρ : Rho) (ds : List D) : Prop where
  run : ∀ W σ H, Ex W H → Vis X.K ρ W σ → ∀ R : It → Hp → Prop, (∀ J W1 H1, Step W H W1 H1 → Walks X.K J W1 ds → R J H1) → wI X tg iter σ H R
instance {X : Cx} {tg iter : Expr} {ρ : Rho} {ds : List D} : CoeFun (JI X tg iter ρ ds) (fun _ => ∀ W σ H, Ex W H → Vis X.K ρ W σ → ∀ R : It → Hp → Prop, (∀ J W1 H1, Step W H W1 H1 → Walks X.K J W1 ds → R J H1) → wI X tg iter σ H R) := ⟨JI.run⟩
section
variable {X : Cx} {K : PySem.W.Frag} {tg iter a b : Expr} {ρ : Rho} {ds : List D} {pos p : Pos}
theorem walks_list {W : Hp} {l : Addr} {vs : List V} (h : W l = some (.lst vs)) (k : RepAll K W ds vs) : Walks K (Itl K l) W ds where
  go := fun i H ex hi => by
    have hv : i < vs.length := by rw [← k.length]; exact hi
    exact ⟨vs, vs[i], SqL.of (ex _ _ h), by simp [hv]⟩
  yld := fun i H x H' d ex hd hy W2 e1 e2 => by
    obtain ⟨rfl, hy⟩ := hy
    obtain ⟨v, h1, h2⟩ := k.get hd
    have := hy vs (SqL.of (ex _ _ h))
    rw [h1] at this
    cases this
    exact ⟨W2, .refl e2, h2.mono e1⟩
  stop := fun H ex => ⟨vs, SqL.of (ex _ _ h), Nat.le_of_eq k.length.symm⟩
theorem ji_list (h : J X iter ρ (.lst ds)) : JI X tg iter ρ ds := ⟨fun W σ H ex hV R g => .of (pi_list pe_w) (h W σ H ex hV _ fun v W1 H1 s1 r1 => by
  cases r1 with
  | lst h1 k => exact ⟨_, rfl, ⟨_, SqL.of (s1.wh _ _ h1)⟩, g _ W1 H1 s1 (walks_list h1 k)⟩)⟩
theorem ji_scr {ns : List Int} (h : J X iter ρ (.scr ns)) : JI X tg iter ρ (ns.map D.int) := ⟨fun W σ H ex hV R g => .of (pi_list pe_w) (h W σ H ex hV _ fun v W1 H1 s1 r1 => by
  cases r1 with
  | scr h1 => exact ⟨_, rfl, ⟨_, Evl.ex_l s1.wh h1⟩, g _ W1 H1 s1 {
      go := fun i H ex hi => ⟨_, .int (ns.getD i 0), Evl.ex_l ex h1, by
        rw [List.length_map] at hi
        rw [List.getElem?_map, List.getElem?_eq_getElem hi, List.getD_eq_getElem?_getD, List.getElem?_eq_getElem hi]; rfl⟩
      yld := fun i H x H' d ex hd hy W2 e1 e2 => by
        obtain ⟨rfl, hy⟩ := hy
        have := hy _ (Evl.ex_l ex h1)
        rw [List.getElem?_map] at this hd
        cases e : ns[i]? with
        | none => rw [e] at hd; cases hd
        | some n => rw [e] at hd this; cases hd; cases this; exact ⟨W2, .refl e2, .int n⟩
      stop := fun H ex => ⟨_, Evl.ex_l ex h1, by simp⟩ }⟩)⟩
theorem walks_tup {W : Hp} {l : Addr} {vs : List V} (uq : ∀ H xs ys, SqT K H l xs → SqT K H l ys → Ex W H → xs = ys → True) (h : SqT K W l vs) (k : RepAll K W ds vs) : Walks K (Itt K l) W ds where
  go := fun i H ex hi => by
    have hv : i < vs.length := by rw [← k.length]; exact hi
    exact ⟨vs, vs[i], Evl.ex_t ex h, by simp [hv]⟩
  yld := fun i H x H' d ex hd hy W2 e1 e2 => by
    obtain ⟨rfl, hy⟩ := hy
    obtain ⟨v, h1, h2⟩ := k.get hd
    have := hy vs (Evl.ex_t ex h)
    rw [h1] at this
    cases this
    exact ⟨W2, .refl e2, h2.mono e1⟩
  stop := fun H ex => ⟨vs, Evl.ex_t ex h, Nat.le_of_eq k.length.symm⟩
theorem ji_tup (h : J X iter ρ (.tup ds)) : JI X tg iter ρ ds := ⟨fun W σ H ex hV R g => .of (pi_tup pe_w) (h W σ H ex hV _ fun v W1 H1 s1 r1 => by
  cases r1 with
  | tup h1 k => exact ⟨_, rfl, ⟨_, Evl.ex_t s1.wh h1⟩, g _ W1 H1 s1 (walks_tup (fun _ _ _ _ _ _ _ => trivial) h1 k)⟩)⟩
def rangeD (lo : Int) (n : Nat) : List D := (List.range n).map fun k => D.int (lo + (k : Nat))
theorem walks_range {W : Hp} {lo : Int} {n : Nat} : Walks K (Itr lo n) W (rangeD lo n) where
  go := fun i H ex hi => by unfold rangeD at hi; rw [List.length_map, List.length_range] at hi; exact hi
  yld := fun i H x H' d ex hd hy W2 e1 e2 => by
    obtain ⟨rfl, rfl⟩ := hy
    unfold rangeD at hd
    rw [List.getElem?_map] at hd
    cases e : (List.range n)[i]? with
    | none => rw [e] at hd; cases hd
    | some k =>
      rw [e] at hd
      obtain ⟨hk, e'⟩ := List.getElem?_eq_some_iff.mp e
      rw [List.getElem_range] at e'
      subst e'
      cases hd
      exact ⟨W2, .refl e2, .int _⟩
  stop := fun H ex => by unfold rangeD; rw [List.length_map, List.length_range]; exact Nat.le_refl n
theorem ji_range1 {n : Int} (hm : X.mg "range" = none) (h : J X a ρ (.int n)) (h1 : -(2 ^ 62) ≤ n) (h2 : n < 2 ^ 62) (hg : Gl X "range" := by rfl) (hs : starEach [a] X.env = [(false, eval a X.env)] := by rfl) : JI X tg (.Call (.Name "range" p) [a] [] pos) ρ (rangeD 0 n.toNat) := ⟨fun W σ H ex hV R g =>
  .of (pi_range1 hg hm pa_w hs) (ja_cons h ja_nil hs W σ H ex hV _ fun vs W1 H1 s1 r1 => by
    cases r1 with
    | cons r t => cases t; cases r; exact ⟨n, rfl, h1, h2, g _ W1 H1 s1 walks_range⟩)⟩
theorem ji_range2 {m n : Int} (hm : X.mg "range" = none) (ha : J X a ρ (.int m)) (hb : J X b ρ (.int n)) (h1 : -(2 ^ 62) ≤ m ∧ m < 2 ^ 62 ∧ -(2 ^ 62) ≤ n ∧ n < 2 ^ 62) (hg : Gl X "range" := by rfl) (hs : starEach [a, b] X.env = [(false, eval a X.env), (false, eval b X.env)] := by rfl) (hs2 : starEach [b] X.env = [(false, eval b X.env)] := by rfl) :
    JI X tg (.Call (.Name "range" p) [a, b] [] pos) ρ (rangeD m (n - m).toNat) := ⟨fun W σ H ex hV R g =>
  .of (pi_range2 hg hm pa_w hs hs2) (ja_cons ha (ja_cons hb ja_nil hs2) (by rw [hs, hs2]) W σ H ex hV _ fun vs W1 H1 s1 r1 => by
    cases r1 with
    | cons r t => cases t with | cons r' t' => cases t'; cases r; cases r'; exact ⟨m, n, rfl, h1, g _ W1 H1 s1 walks_range⟩)⟩
end
end Pf

namespace Pf
open PySem L2
open Evl (Ex)

/-! ### targets -/
inductive Pat where
  | nm (i : Nat) | tp (is : List Nat) | tn (ps : List (Nat ⊕ List Nat))
def gNames : List Nat → TGs
  | [] => gNil
  | i :: is => gCons (gName i) (gNames is)
def gComps (K : PySem.W.Frag) : List (Nat ⊕ List Nat) → TGs
  | [] => gNil
  | .inl i :: ps => gCons (gName i) (gComps K ps)
  | .inr is :: ps => gCons (gTup K is.length (gNames is)) (gComps K ps)
def Pat.g (K : PySem.W.Frag) : Pat → TG
  | .nm i => gName i
  | .tp is => gTup K is.length (gNames is)
  | .tn ps => gTup K ps.length (gComps K ps)
def slotsC : List (Nat ⊕ List Nat) → List Nat
  | [] => []
  | .inl i :: ps => i :: slotsC ps
  | .inr is :: ps => is ++ slotsC ps
def Pat.slots : Pat → List Nat
  | .nm i => [i]
  | .tp is => is
  | .tn ps => slotsC ps
def setAll {α : Type} (ρ : List (Option α)) : List Nat → List α → List (Option α)
  | i :: is, d :: ds => setAll (ρ.set i (some d)) is ds
  | _, _ => ρ
/-- by data, each as f -/
def setC {α : Type} (f : D → α) : List (Nat ⊕ List Nat) → List D → List (Option α) → Option (List (Option α))
  | [], [], ρ => some ρ
  | .inl i :: ps, d :: ds, ρ => setC f ps ds (ρ.set i (some (f d)))
  | .inr is :: ps, .tup es :: ds, ρ => if es.length = is.length then setC f ps ds (setAll ρ is (es.map f)) else none
  | _, _, _ => none
def Pat.set : Pat → D → Rho → Option Rho
  | .nm i, d, ρ => some (ρ.set i (some d))
  | .tp is, .tup ds, ρ => if ds.length = is.length then some (setAll ρ is ds) else none
  | .tp _, _, _ => none
  | .tn ps, .tup ds, ρ => setC id ps ds ρ
  | .tn _, _, _ => none
theorem setAll_length {α : Type} : ∀ (is : List Nat) (ds : List α) (ρ : List (Option α)), (setAll ρ is ds).length = ρ.length
  | [], _, _ => rfl
  | _ :: _, [], _ => rfl
  | i :: is, d :: ds, ρ => by
    show (setAll (ρ.set i (some d)) is ds).length = _
    rw [setAll_length is ds, List.length_set]
theorem setAll_out {α : Type} : ∀ (is : List Nat) (ds : List α) (ρ : List (Option α)) (j : Nat), j ∉ is → (setAll ρ is ds)[j]? = ρ[j]?
  | [], _, _, _, _ => rfl
  | _ :: _, [], _, _, _ => rfl
  | i :: is, d :: ds, ρ, j, h => by
    show (setAll (ρ.set i (some d)) is ds)[j]? = _
    rw [List.mem_cons, not_or] at h
    rw [setAll_out is ds _ j h.2, List.getElem?_set_ne (fun e => h.1 e.symm)]
theorem setC_length {α : Type} {f : D → α} : ∀ {ps : List (Nat ⊕ List Nat)} {ds : List D} {ρ ρ' : List (Option α)}, setC f ps ds ρ = some ρ' → ρ'.length = ρ.length
  | [], [], ρ, ρ', h => by cases h; rfl
  | [], _ :: _, ρ, ρ', h => by cases h
  | .inl i :: ps, [], ρ, ρ', h => by cases h
  | .inl i :: ps, d :: ds, ρ, ρ', h => by have := setC_length (f := f) (ps := ps) (ds := ds) h; rw [this, List.length_set]
  | .inr is :: ps, [], ρ, ρ', h => by cases h
  | .inr is :: ps, d :: ds, ρ, ρ', h => by
    cases d <;> simp only [setC] at h <;> first | cases h | skip
    split at h
    · have := setC_length (f := f) (ps := ps) (ds := ds) h; rw [this, setAll_length]
    · cases h
theorem Pat.set_length {pat : Pat} {d : D} {ρ ρ' : Rho} (h : pat.set d ρ = some ρ') : ρ'.length = ρ.length := by
  cases pat with
  | nm i => cases h; exact List.length_set
  | tp is =>
    cases d <;> simp only [Pat.set] at h <;> first | cases h | skip
    split at h
    · cases h; exact setAll_length _ _ _
    · cases h
  | tn ps =>
    cases d <;> simp only [Pat.set] at h <;> first | cases h | skip
    exact setC_length h
section
variable {K : PySem.W.Frag} {ρ ρ' : Rho} {W H : Hp} {σ : L2.St} {d : D} {v : V}
theorem Vis.set (h : Vis K ρ W σ) (r : Rep K W d v) (i : Nat) : Vis K (ρ.set i (some d)) W (σ.set i (some v)) := ⟨by rw [List.length_set, List.length_set, h.len], fun j e q => by
  by_cases hj : i = j
  · subst hj
    by_cases hi : i < ρ.length
    · rw [List.getElem?_set_self hi] at q
      cases q
      exact ⟨v, List.getElem?_set_self (by rw [← h.len]; exact hi), r⟩
    · rw [List.getElem?_eq_none (by rw [List.length_set]; omega)] at q
      cases q
  · rw [List.getElem?_set_ne hj] at q ⊢
    exact h.at_ j e q⟩
theorem Vis.setAll : ∀ (is : List Nat) {ds : List D} {vs : List V} {ρ : Rho} {σ : L2.St}, Vis K ρ W σ → RepAll K W ds vs → ds.length = is.length → Vis K (Pf.setAll ρ is ds) W (Pf.setAll σ is vs)
  | [], _, _, _, _, h, .nil, _ => h
  | i :: is, _, _, _, _, h, .cons r t, e => Vis.setAll is (h.set r i) t (by simpa using e)
  | [], _, _, _, _, _, .cons _ _, e => by simp at e
  | _ :: _, _, _, _, _, _, .nil, e => by simp at e
theorem gNames_run : ∀ (is : List Nat) {vs : List V} {σ : L2.St} {Q : L2.St → Hp → Prop}, vs.length = is.length → Q (Pf.setAll σ is vs) H → gNames is vs σ H Q
  | [], [], _, _, _, q => ⟨rfl, q⟩
  | i :: is, v :: vs, σ, Q, e, q => ⟨v, vs, rfl, gNames_run is (σ := σ.set i (some v)) (by simpa using e) q⟩
  | [], _ :: _, _, _, e, _ => by simp at e
  | _ :: _, [], _, _, e, _ => by simp at e
theorem gComps_run (ex : Ex W H) : ∀ (ps : List (Nat ⊕ List Nat)) {ds : List D} {vs : List V} {ρ ρ' : Rho} {σ σ0 : L2.St} {Q : L2.St → Hp → Prop}, Vis K ρ W σ → RepAll K W ds vs → setC id ps ds ρ = some ρ' →
    (∀ σ', Vis K ρ' W σ' → (∀ j, j ∉ slotsC ps → σ'[j]? = σ[j]?) → Q σ' H) → gComps K ps vs σ H Q
  | [], _, _, ρ, ρ', σ, _, Q, h, .nil, hs, q => by cases hs; exact ⟨rfl, q σ h fun _ _ => rfl⟩
  | [], _, _, ρ, ρ', σ, _, Q, h, .cons _ _, hs, q => by cases hs
  | .inl i :: ps, _, _, ρ, ρ', σ, σ0, Q, h, .nil, hs, q => by cases hs
  | .inr is :: ps, _, _, ρ, ρ', σ, σ0, Q, h, .nil, hs, q => by cases hs
  | .inl i :: ps, _, v :: vs, ρ, ρ', σ, σ0, Q, h, .cons r t, hs, q => ⟨v, vs, rfl, gComps_run ex ps (σ0 := σ0) (h.set r i) t hs fun σ' h' ho => q σ' h' fun j hj => by
      have h1 : ¬ (j = i ∨ j ∈ slotsC ps) := fun z => hj (List.mem_cons.mpr z)
      rw [ho j fun z => h1 (.inr z), List.getElem?_set_ne fun z => h1 (.inl z.symm)]⟩
  | .inr is :: ps, d :: ds, v :: vs, ρ, ρ', σ, σ0, Q, h, .cons r t, hs, q => by
    cases r with
    | @tup a us es h1 k =>
      simp only [setC] at hs
      split at hs
      · rename_i hl
        rw [List.map_id] at hs
        refine ⟨_, vs, rfl, a, us, rfl, Evl.ex_t ex h1, by rw [← k.length]; exact hl, gNames_run is (by rw [← k.length]; exact hl) ?_⟩
        refine gComps_run ex ps (σ0 := σ0) (h.setAll is k hl) t hs fun σ' h' ho => q σ' h' fun j hj => ?_
        have h2 : ¬ (j ∈ is ∨ j ∈ slotsC ps) := fun z => hj (List.mem_append.mpr z)
        rw [ho j fun z => h2 (.inr z)]
        exact setAll_out is _ σ j fun z => h2 (.inl z)
      · cases hs
    | _ => cases hs
theorem Pat.run {pat : Pat} (h : Vis K ρ W σ) (ex : Ex W H) (r : Rep K W d v) (hs : pat.set d ρ = some ρ') {Q : L2.St → Hp → Prop}
    (q : ∀ σ', Vis K ρ' W σ' → (∀ j, j ∉ pat.slots → σ'[j]? = σ[j]?) → Q σ' H) : pat.g K v σ H Q := by
  cases pat with
  | nm i =>
    cases hs
    exact q _ (h.set r i) fun j hj => List.getElem?_set_ne (by intro e; subst e; exact hj (List.mem_singleton.mpr rfl))
  | tp is =>
    cases r with
    | tup h1 k =>
      simp only [Pat.set] at hs
      split at hs
      · rename_i hl
        cases hs
        refine ⟨_, _, rfl, Evl.ex_t ex h1, by rw [← k.length]; exact hl, gNames_run is (by rw [← k.length]; exact hl) ?_⟩
        exact q _ (h.setAll is k hl) fun j hj => setAll_out is _ σ j hj
      · cases hs
    | _ => cases hs
  | tn ps =>
    cases r with
    | tup h1 k =>
      have hl : ∀ (ps : List (Nat ⊕ List Nat)) (ds : List D) (ρ ρ' : Rho), setC id ps ds ρ = some ρ' → ds.length = ps.length := fun ps => by
        induction ps with
        | nil => intro ds ρ ρ' h; cases ds with
          | nil => rfl
          | cons _ _ => cases h
        | cons p ps ih =>
          intro ds ρ ρ' h
          cases ds with
          | nil => cases p <;> cases h
          | cons d ds =>
            cases p with
            | inl i => exact congrArg (· + 1) (ih ds _ _ h)
            | inr is =>
              cases d <;> simp only [setC] at h <;> first | cases h | skip
              split at h
              · exact congrArg (· + 1) (ih ds _ _ h)
              · cases h
      exact ⟨_, _, rfl, Evl.ex_t ex h1, by rw [← k.length]; exact hl _ _ _ _ hs, gComps_run ex ps (σ0 := σ) h k hs q⟩
    | _ => cases hs
end
/-! ### a comprehension -/
theorem wipe_get (σ : L2.St) : ∀ (vs : List Nat) (j : Nat), (wipe σ vs)[j]? = if j ∈ vs ∧ j < σ.length then some none else σ[j]?
  | [], j => by simp [wipe]
  | v :: vs, j => by
    unfold wipe
    by_cases e : v = j
    · subst e
      by_cases hl : v < σ.length
      · rw [List.getElem?_set_self (by rw [wipe_length]; exact hl), if_pos ⟨List.mem_cons_self, hl⟩]
      · rw [List.getElem?_eq_none (by rw [List.length_set, wipe_length]; omega), if_neg (fun z => hl z.2), List.getElem?_eq_none (by omega)]
    · rw [List.getElem?_set_ne e, wipe_get σ vs j]
      have : (j ∈ v :: vs) ↔ j ∈ vs := by rw [List.mem_cons]; exact ⟨fun h => h.resolve_left (fun z => e z.symm), .inr⟩
      simp only [this]
theorem wipe_eq {σ τ : L2.St} {vs is : List Nat} (hl : σ.length = τ.length) (hs : ∀ i ∈ is, i ∈ vs) (h : ∀ j, j ∉ is → τ[j]? = (wipe σ vs)[j]?) : wipe τ vs = wipe σ vs := by
  apply List.ext_getElem?
  intro j
  rw [wipe_get τ vs j, wipe_get σ vs j, hl]
  by_cases hj : j ∈ vs ∧ j < τ.length
  · rw [if_pos hj, if_pos hj]
  · rw [if_neg hj, if_neg hj]
    by_cases hi : j ∈ is
    · have : ¬ j < τ.length := fun z => hj ⟨hs j hi, z⟩
      rw [List.getElem?_eq_none (by omega), List.getElem?_eq_none (by omega)]
    · rw [h j hi, wipe_get, hl, if_neg hj]
def wipeR (ρ : Rho) : List Nat → Rho
  | [] => ρ
  | v :: vs => (wipeR ρ vs).set v none
theorem Vis.wipe {K : PySem.W.Frag} {ρ : Rho} {W : Hp} {σ : L2.St} (h : Vis K ρ W σ) : ∀ vs, Vis K (wipeR ρ vs) W (L2.wipe σ vs)
  | [] => h
  | v :: vs => by
    have ih := Vis.wipe h vs
    refine ⟨by unfold wipeR L2.wipe; rw [List.length_set, List.length_set, ih.len], fun j e q => ?_⟩
    unfold wipeR at q
    unfold L2.wipe
    by_cases hj : v = j
    · subst hj
      by_cases hi : v < (wipeR ρ vs).length
      · rw [List.getElem?_set_self hi] at q; cases q
      · rw [List.getElem?_eq_none (by rw [List.length_set]; omega)] at q; cases q
    · rw [List.getElem?_set_ne hj] at q ⊢
      exact ih.at_ j e q
def wTs (X : Cx) (ifs : List Expr) : TT := fun σ H Q => ∀ (pins : List (Addr × Obj)) (s : Shared), Inv X pins σ H s →
  wpAny (model X.prog X.w) X.A (forIn ifs true fun c r => if r = true then do let ok ← isTrue c X.env (eval c X.env); pure (ForInStep.yield ok) else pure (ForInStep.yield r)) (TP X pins σ Q) X.xe s
theorem wTs.of {X : Cx} {ifs : List Expr} {t : TT} (h : PTs X ifs t) {σ : L2.St} {H : Hp} {Q : Bool → Hp → Prop} (q : t σ H Q) : wTs X ifs σ H Q := fun pins s I => h.run pins s σ H Q I q
structure JTs (X : Cx) (ifs : List Expr) (ρ : Rho) (b : Bool) : Prop where
  run : ∀ W σ H, Ex W H → Vis X.K ρ W σ → ∀ Q : Bool → Hp → Prop, GoodT W H b Q → wTs X ifs σ H Q
instance {X : Cx} {ifs : List Expr} {ρ : Rho} {b : Bool} : CoeFun (JTs X ifs ρ b) (fun _ => ∀ W σ H, Ex W H → Vis X.K ρ W σ → ∀ Q : Bool → Hp → Prop, GoodT W H b Q → wTs X ifs σ H Q) := ⟨JTs.run⟩
theorem jts_nil {X : Cx} {ρ : Rho} : JTs X [] ρ true := ⟨fun W σ H ex hV Q g => .of pts_nil (g.now ex)⟩
theorem jts_one {X : Cx} {ρ : Rho} {c : Expr} {b : Bool} (h : JT X c ρ b) : JTs X [c] ρ b := ⟨fun W σ H ex hV Q g => .of (pts_one pt_w) (h W σ H ex hV Q g)⟩
/-- a block's context -/
abbrev blkX (X : Cx) (scope : Scope) (s : Shared) (H : Hp) (C : Addr) (cl : List (Str × Addr)) (fp : List Addr) : Cx := X.blk s H scope (compEnvC scope cl C X.env) fp
section
variable {X : Cx} {elt tg iter : Expr} {ifs : List Expr} {scope : Scope} {own : List (Str × Nat)} {pos : Pos} {ρ : Rho} {its : List (D × Option D)} {pat : Pat}
/-- what one turn of a comprehension does with the item d -/
def LcTurn (X : Cx) (scope : Scope) (pat : Pat) (elt : Expr) (ifs : List Expr) (ρ : Rho) (d : D) (y : Option D) : Prop :=
  ∃ ρ', pat.set d ρ = some ρ' ∧ ∀ s H C cl fp, match y with
    | none => JTs (blkX X scope s H C cl fp) ifs ρ' false
    | some y => JTs (blkX X scope s H C cl fp) ifs ρ' true ∧ J (blkX X scope s H C cl fp) elt ρ' y
/-- the reading of a comprehension, as it is used for a value and for a stored one. D: the new list -/
theorem lc_readAt {W H : Hp} {σ : L2.St} (hi : ∀ R : It → Hp → Prop, (∀ J W1 H1, Step W H W1 H1 → Walks X.K J W1 (its.map (·.1)) → R J H1) → wI X tg iter σ H R) (hown : ∀ i ∈ pat.slots, i ∈ own.map (·.2)) (hlen : its.length < sizeLine)
    (turn : ∀ q ∈ its, LcTurn X scope pat elt ifs (wipeR ρ (own.map (·.2))) q.1 q.2) (ex : Ex W H) (hV : Vis X.K ρ W σ) {Q : VK}
    (g : ∀ (Dn : Addr) (W' H' : Hp) (vs : List V), Step W H W' H' → H Dn = none → W' Dn = none → H' Dn = some (.lst vs) → RepAll X.K W' (its.filterMap (·.2)) vs → Q (.ref Dn) H') :
    tLc (wI X tg iter) (pat.g X.K) (fun σ H Q => ∀ s H0 C cl fp, wTs (blkX X scope s H0 C cl fp) ifs σ H Q) (fun σ H Q => ∀ s H0 C cl fp, wE (blkX X scope s H0 C cl fp) elt σ H Q) (own.map (·.2)) σ H Q := by
  refine hi _ fun Jt W1 H1 s1 wk => ?_
  intro Dn hD
  have hW1 : W1 Dn = none := Evl.fresh_back s1.wh hD
  refine ⟨fun i m H2 => m = its.length - i ∧ i ≤ its.length ∧ ∃ W2 vs, Step W1 H1 W2 H2 ∧ W2 Dn = none ∧ H2 Dn = some (.lst vs) ∧ RepAll X.K W2 ((its.take i).filterMap (·.2)) vs, ⟨_, rfl, Nat.zero_le _, W1, [], .newH s1.wh hD, hW1, upd_same, .nil⟩, ?_⟩
  rintro i m H2 ⟨rfl, hil, W2, vs, s2, hW2, hH2, rv⟩
  by_cases hlt : i < its.length
  · refine .inr ⟨wk.go i H2 (s2.ww.trans s2.wh) (by rw [List.length_map]; exact hlt), _, fun H' z => ⟨_, (by omega : its.length - (i + 1) < its.length - i), rfl, hlt, z⟩, fun x H3 hy => ?_⟩
    obtain ⟨⟨d, fd⟩, hd⟩ : ∃ d, its[i]? = some d := ⟨its[i], by simp [hlt]⟩
    obtain ⟨W3, s3, rx⟩ := wk.yld i H2 x H3 d (s2.ww.trans s2.wh) (by rw [List.getElem?_map, hd]; rfl) hy W2 s2.ww s2.wh
    obtain ⟨ρ', hset, ht⟩ := turn _ (List.mem_of_getElem? hd)
    have hV3 : Vis X.K ρ W3 σ := hV.mono ((s1.trans s2).trans s3).ww
    have hW3 : W3 Dn = none := by
      cases q : W3 Dn with
      | none => rfl
      | some o =>
        have := s3.fr Dn (by rw [q]; simp) hW2
        rw [hH2] at this; cases this
    have hH3 : H3 Dn = some (.lst vs) := s3.hh _ _ hH2
    have tk : its.take (i + 1) = its.take i ++ [(d, fd)] := by
      rw [List.take_add_one, hd]; rfl
    refine Pat.run (hV3.wipe _) s3.wh rx hset fun σ2 hV4 ho => ⟨wipe_eq (by rw [← hV4.len, ← hV3.len, Pat.set_length hset]; have := (hV3.wipe (own.map (·.2))).len; rw [wipe_length, ← hV3.len] at this; exact this.symm) hown ho, ?_⟩
    cases fd with
    | none =>
      dsimp only at ht
      refine fun s H0 C cl fp => ht s H0 C cl fp W3 σ2 H3 s3.wh hV4 _ fun W4 H4 s4 => ?_
      rw [if_neg Bool.false_ne_true]
      have hH4 := s4.hh _ _ hH3
      refine ⟨W4, vs, (s2.trans s3).trans s4, ?_, hH4, ?_⟩
      · cases q : W4 Dn with
        | none => rfl
        | some o => have := s4.fr Dn (by rw [q]; simp) hW3; rw [hH3] at this; cases this
      · rw [tk, List.filterMap_append]
        simp only [List.filterMap_cons, List.filterMap_nil, List.append_nil]
        exact rv.mono (s3.trans s4).ww
    | some y =>
      dsimp only at ht
      refine fun s H0 C cl fp => (ht s H0 C cl fp).1 W3 σ2 H3 s3.wh hV4 _ fun W4 H4 s4 => ?_
      rw [if_pos rfl]
      refine fun s' H0' C' cl' fp' => (ht s' H0' C' cl' fp').2 W4 σ2 H4 s4.wh (hV4.mono s4.ww) _ fun v W5 H5 s5 r5 => ?_
      have s35 := s4.trans s5
      have hH5 := s35.hh _ _ hH3
      have hW5 : W5 Dn = none := by
        cases q : W5 Dn with
        | none => rfl
        | some o => have := s35.fr Dn (by rw [q]; simp) hW3; rw [hH3] at this; cases this
      have hvl : vs.length ≤ i := by
        rw [← rv.length]
        exact Nat.le_trans (List.length_filterMap_le _ _) (by rw [List.length_take]; omega)
      refine ⟨vs, hH5, by omega, W5, vs ++ [v], ?_, hW5, upd_same, ?_⟩
      · have s25 := (s2.trans s3).trans s35
        refine ⟨s25.ww, fun a o h => ?_, fun a o h => ?_, s25.fr⟩
        · rw [upd_ne (ne_of_none h hW5)]; exact s25.wh a o h
        · rw [upd_ne (ne_of_none h hD)]; exact s25.hh a o h
      · rw [tk, List.filterMap_append]
        simp only [List.filterMap_cons, List.filterMap_nil]
        exact (rv.mono (s3.trans s35).ww).append (.cons r5 .nil)
  · have e : i = its.length := by omega
    subst e
    refine .inl ⟨by have := wk.stop H2 (s2.ww.trans s2.wh); rwa [List.length_map] at this, g Dn W2 H2 vs (s1.trans s2) (Evl.fresh_back s1.hh hD) hW2 hH2 ?_⟩
    rw [List.take_length] at rv
    exact rv
theorem lc_read (hi : JI X tg iter ρ (its.map (·.1))) (hown : ∀ i ∈ pat.slots, i ∈ own.map (·.2)) (hlen : its.length < sizeLine)
    (turn : ∀ q ∈ its, LcTurn X scope pat elt ifs (wipeR ρ (own.map (·.2))) q.1 q.2) {W H : Hp} {σ : L2.St} (ex : Ex W H) (hV : Vis X.K ρ W σ) {Q : VK}
    (g : ∀ (Dn : Addr) (W' H' : Hp) (vs : List V), Step W H W' H' → H Dn = none → W' Dn = none → H' Dn = some (.lst vs) → RepAll X.K W' (its.filterMap (·.2)) vs → Q (.ref Dn) H') :
    tLc (wI X tg iter) (pat.g X.K) (fun σ H Q => ∀ s H0 C cl fp, wTs (blkX X scope s H0 C cl fp) ifs σ H Q) (fun σ H Q => ∀ s H0 C cl fp, wE (blkX X scope s H0 C cl fp) elt σ H Q) (own.map (·.2)) σ H Q := lc_readAt (fun R k => hi W σ H ex hV R k) hown hlen turn ex hV g
theorem Step.show' {W H W' H' : Hp} {p : Addr} {o : HO} (s : Step W H W' H') (hp : H p = none) (hw : W' p = none) (hh : H' p = some o) : Step W H (upd W' p o) H' :=
  ⟨fun a u h => by rw [upd_ne (ne_of_none (s.ww a u h) hw)]; exact s.ww a u h, fun a u h => by
    by_cases ha : a = p
    · subst ha; rw [upd_same] at h; cases h; exact hh
    · rw [upd_ne ha] at h; exact s.wh a u h, s.hh, fun b h1 h2 => by
    by_cases ha : b = p
    · subst ha; exact hp
    · rw [upd_ne ha] at h1; exact s.fr b h1 h2⟩
theorem j_lc (hi : JI X tg iter ρ (its.map (·.1))) (ok : BlkOk X.N X.env.scope scope own) (hg : ∀ s H C cl fp, PG (blkX X scope s H C cl fp) tg (pat.g X.K)) (hown : ∀ i ∈ pat.slots, i ∈ own.map (·.2)) (hlen : its.length < sizeLine)
    (turn : ∀ q ∈ its, LcTurn X scope pat elt ifs (wipeR ρ (own.map (·.2))) q.1 q.2) (hN : X.N.Nodup) (hc : X.calm = true := by rfl) (hs : ∀ x, foldedSetIterable iter X.env x = pure x := by intro _; rfl) :
    J X (.ListComp elt [⟨tg, iter, ifs, 0⟩] scope pos) ρ (.lst (its.filterMap (·.2))) := ⟨fun W σ H ex hV Q g =>
  .of (pe_lc (tt := fun σ H Q => ∀ s H0 C cl fp, wTs (blkX X scope s H0 C cl fp) ifs σ H Q) (te := fun σ H Q => ∀ s H0 C cl fp, wE (blkX X scope s H0 C cl fp) elt σ H Q) hc hN pi_w ok hg
    (fun s H0 C cl fp => ⟨fun pins s' σ' H' Q' I h => h s H0 C cl fp pins s' I⟩) (fun s H0 C cl fp => ⟨fun pins s' σ' H' Q' I h => h s H0 C cl fp pins s' I⟩) hs)
    (lc_read hi hown hlen turn ex hV fun Dn W' H' vs s hD hW hH rv => g _ _ _ (s.show' hD hW hH) (.lst upd_same (rv.mono fun a u h => by rw [upd_ne (ne_of_none h hW)]; exact h)))⟩
theorem sel_filter {α : Type} (g : α → D) (p : α → Bool) (h : α → D) : ∀ xs : List α, (xs.map fun x => (g x, if p x = true then some (h x) else none)).filterMap (·.2) = (xs.filter p).map h
  | [] => rfl
  | x :: xs => by
    rw [List.map_cons, List.filterMap_cons]
    by_cases q : p x = true
    · rw [List.filter_cons_of_pos q]; simp only [q, if_true]; rw [List.map_cons, sel_filter g p h xs]
    · rw [List.filter_cons_of_neg q]; simp only [if_neg q]; rw [sel_filter g p h xs]
/-- over the items of a kind, by a name: those that p holds of, each as h -/
theorem lcN_turn {α : Type} {i : Nat} {xs : List α} {g : α → D} {p : α → Bool} {h : α → D}
    (turn : ∀ x ∈ xs, ∀ s H C cl fp, JTs (blkX X scope s H C cl fp) ifs ((wipeR ρ (own.map (·.2))).set i (some (g x))) (p x) ∧ (p x = true → J (blkX X scope s H C cl fp) elt ((wipeR ρ (own.map (·.2))).set i (some (g x))) (h x))) :
    ∀ q ∈ xs.map fun x => (g x, if p x = true then some (h x) else none), LcTurn X scope (.nm i) elt ifs (wipeR ρ (own.map (·.2))) q.1 q.2 := by
  intro q hq
  obtain ⟨x, hx, rfl⟩ := List.mem_map.mp hq
  refine ⟨_, rfl, fun s H C cl fp => ?_⟩
  have t := turn x hx s H C cl fp
  by_cases e : p x = true
  · simp only [e, if_true]; rw [e] at t; exact ⟨t.1, t.2 rfl⟩
  · simp only [if_neg e]
    have e' : p x = false := by simpa using e
    rw [e'] at t; exact t.1
theorem j_lcN {α : Type} {i : Nat} (xs : List α) (g : α → D) (p : α → Bool) (h : α → D) (hi : JI X tg iter ρ (xs.map g)) (ok : BlkOk X.N X.env.scope scope own) (hg : ∀ s H C cl fp, PG (blkX X scope s H C cl fp) tg (gName i)) (hlen : xs.length < sizeLine)
    (turn : ∀ x ∈ xs, ∀ s H C cl fp, JTs (blkX X scope s H C cl fp) ifs ((wipeR ρ (own.map (·.2))).set i (some (g x))) (p x) ∧ (p x = true → J (blkX X scope s H C cl fp) elt ((wipeR ρ (own.map (·.2))).set i (some (g x))) (h x))) (hN : X.N.Nodup) (hown : i ∈ own.map (·.2) := by decide) (hc : X.calm = true := by rfl) (hs : ∀ x, foldedSetIterable iter X.env x = pure x := by intro _; rfl) :
    J X (.ListComp elt [⟨tg, iter, ifs, 0⟩] scope pos) ρ (.lst ((xs.filter p).map h)) := by
  rw [← sel_filter g p h xs]
  refine j_lc (pat := .nm i) (by rw [List.map_map]; exact hi) ok hg (fun j hj => (List.mem_singleton.mp hj : j = i) ▸ hown) (by rw [List.length_map]; exact hlen) (lcN_turn turn) hN hc hs
end
end Pf

namespace Pf
open PySem L2
open Evl (Ex)

/-! ### objects that are changed: A, the addresses of d's own objects; all below stands in Hf -/
/-- lists and dicts in the fields of an own object are its own -/
def mutD : D → Bool
  | .lst _ => true
  | .dct _ => true
  | _ => false
mutual
inductive Own (K : PySem.W.Frag) (Hf H : Hp) : D → V → List Addr → Prop
  | fz {d : D} {v : V} : Rep K Hf d v → Own K Hf H d v []
  | lst {a : Addr} {vs : List V} {ds : List D} {A : List Addr} : H a = some (.lst vs) → OwnAll K Hf H ds vs A → a ∉ A → Own K Hf H (.lst ds) (.ref a) (a :: A)
  | dct {a : Addr} {kvs : List (Key × V)} {kds : List (Key × D)} {A : List Addr} : H a = some (.dK kvs) → kvs.map (·.1) = kds.map (·.1) → OwnAll K Hf H (kds.map (·.2)) (kvs.map (·.2)) A → a ∉ A → Own K Hf H (.dct kds) (.ref a) (a :: A)
  | ins {a C dx : Addr} {fs : List (Str × V)} {fds : List (Str × D)} {A : List Addr} : H a = some (.ins C dx fs) → fs.map (·.1) = fds.map (·.1) → OwnFs K Hf H (fds.map (·.2)) (fs.map (·.2)) A → a ∉ A → Own K Hf H (.ins C fds) (.ref a) (a :: A)
inductive OwnAll (K : PySem.W.Frag) (Hf H : Hp) : List D → List V → List Addr → Prop
  | nil : OwnAll K Hf H [] [] []
  | cons {d : D} {v : V} {ds : List D} {vs : List V} {A B : List Addr} : Own K Hf H d v A → OwnAll K Hf H ds vs B → (∀ a ∈ A, a ∉ B) → OwnAll K Hf H (d :: ds) (v :: vs) (A ++ B)
inductive OwnFs (K : PySem.W.Frag) (Hf H : Hp) : List D → List V → List Addr → Prop
  | nil : OwnFs K Hf H [] [] []
  | cons {d : D} {v : V} {ds : List D} {vs : List V} {A B : List Addr} : Own K Hf H d v A → OwnFs K Hf H ds vs B → (∀ a ∈ A, a ∉ B) → (mutD d = true → A ≠ []) → OwnFs K Hf H (d :: ds) (v :: vs) (A ++ B)
end
section
variable {K : PySem.W.Frag} {Hf H Hf' H' W : Hp}
/-- the heap may change elsewhere -/
theorem Own.move {d : D} {v : V} {A : List Addr} (h : Own K Hf H d v A) : Ex Hf Hf' → (∀ a ∈ A, H' a = H a) → Own K Hf' H' d v A := by
  refine Own.rec (motive_1 := fun d v A _ => Ex Hf Hf' → (∀ a ∈ A, H' a = H a) → Own K Hf' H' d v A) (motive_2 := fun ds vs A _ => Ex Hf Hf' → (∀ a ∈ A, H' a = H a) → OwnAll K Hf' H' ds vs A) (motive_3 := fun ds vs A _ => Ex Hf Hf' → (∀ a ∈ A, H' a = H a) → OwnFs K Hf' H' ds vs A) ?_ ?_ ?_ ?_ ?_ ?_ ?_ ?_ h
  · exact fun r e _ => .fz (r.mono e)
  · exact fun h1 _ n ih e k => .lst (by rw [k _ List.mem_cons_self]; exact h1) (ih e fun a ha => k a (List.mem_cons_of_mem _ ha)) n
  · exact fun h1 q _ n ih e k => .dct (by rw [k _ List.mem_cons_self]; exact h1) q (ih e fun a ha => k a (List.mem_cons_of_mem _ ha)) n
  · exact fun h1 q _ n ih e k => .ins (by rw [k _ List.mem_cons_self]; exact h1) q (ih e fun a ha => k a (List.mem_cons_of_mem _ ha)) n
  · exact fun _ _ => .nil
  · exact fun _ _ n i1 i2 e k => .cons (i1 e fun a ha => k a (List.mem_append_left _ ha)) (i2 e fun a ha => k a (List.mem_append_right _ ha)) n
  · exact fun _ _ => .nil
  · exact fun _ _ n w i1 i2 e k => .cons (i1 e fun a ha => k a (List.mem_append_left _ ha)) (i2 e fun a ha => k a (List.mem_append_right _ ha)) n w
/-- read in a heap that has all of it -/
theorem Own.rep {d : D} {v : V} {A : List Addr} (h : Own K Hf H d v A) : Ex Hf W → (∀ a ∈ A, W a = H a) → Rep K W d v := by
  refine Own.rec (motive_1 := fun d v A _ => Ex Hf W → (∀ a ∈ A, W a = H a) → Rep K W d v) (motive_2 := fun ds vs A _ => Ex Hf W → (∀ a ∈ A, W a = H a) → RepAll K W ds vs) (motive_3 := fun ds vs A _ => Ex Hf W → (∀ a ∈ A, W a = H a) → RepAll K W ds vs) ?_ ?_ ?_ ?_ ?_ ?_ ?_ ?_ h
  · exact fun r e _ => r.mono e
  · exact fun h1 _ n ih e k => .lst (by rw [k _ List.mem_cons_self]; exact h1) (ih e fun a ha => k a (List.mem_cons_of_mem _ ha))
  · exact fun h1 q _ n ih e k => .dct (by rw [k _ List.mem_cons_self]; exact h1) q (ih e fun a ha => k a (List.mem_cons_of_mem _ ha))
  · exact fun h1 q _ n ih e k => .ins (by rw [k _ List.mem_cons_self]; exact h1) q (ih e fun a ha => k a (List.mem_cons_of_mem _ ha))
  · exact fun _ _ => .nil
  · exact fun _ _ n i1 i2 e k => .cons (i1 e fun a ha => k a (List.mem_append_left _ ha)) (i2 e fun a ha => k a (List.mem_append_right _ ha))
  · exact fun _ _ => .nil
  · exact fun _ _ n w i1 i2 e k => .cons (i1 e fun a ha => k a (List.mem_append_left _ ha)) (i2 e fun a ha => k a (List.mem_append_right _ ha))
theorem OwnAll.fz : ∀ {ds : List D} {vs : List V}, RepAll K Hf ds vs → OwnAll K Hf H ds vs []
  | _, _, .nil => .nil
  | _, _, .cons r t => .cons (A := []) (B := []) (.fz r) (OwnAll.fz t) (fun _ h => absurd h (by simp))
theorem OwnAll.append : ∀ {ds es : List D} {vs us : List V} {A B : List Addr}, OwnAll K Hf H ds vs A → OwnAll K Hf H es us B → (∀ a ∈ A, a ∉ B) → OwnAll K Hf H (ds ++ es) (vs ++ us) (A ++ B)
  | _, _, _, _, _, _, .nil, s, _ => s
  | _, _, _, _, _, _, .cons (A := A1) (B := B1) r t n, s, h => by
    rw [List.append_assoc]
    refine .cons r (OwnAll.append t s fun a ha => h a (List.mem_append_right _ ha)) fun a ha hb => ?_
    rcases List.mem_append.mp hb with q | q
    · exact n a ha q
    · exact h a (List.mem_append_left _ ha) q
theorem OwnAll.length : ∀ {ds : List D} {vs : List V} {A : List Addr}, OwnAll K Hf H ds vs A → ds.length = vs.length
  | _, _, _, .nil => rfl
  | _, _, _, .cons _ b _ => congrArg (· + 1) (OwnAll.length b)
end

/-! ### the names' values at a statement -/
inductive SV where
  | fz (d : D) | ow (d : D)
def SV.d : SV → D
  | .fz d => d
  | .ow d => d
abbrev RhoS := List (Option SV)
def SV.fzD : SV → Option D
  | .fz d => some d
  | .ow _ => none
def fzR (ρ : RhoS) : Rho := ρ.map fun o => o.bind SV.fzD
def allR (ρ : RhoS) : Rho := ρ.map fun o => o.map SV.d
/-- the entry of the def: its frozen heap, its heap, what may be changed of it, where the own arguments stand -/
structure Ent where
  W0 : Hp
  H0 : Hp
  M : Addr → Prop
  pa : Nat → Option Addr
structure StAt (K : PySem.W.Frag) (E : Ent) (ρ : RhoS) (σ : L2.St) (H Hf : Hp) (A : Nat → List Addr) : Prop where
  len : ρ.length = σ.length
  w0 : Ex E.W0 Hf
  fh : Ex Hf H
  fr : Fr E.W0 Hf E.H0
  hh : ∀ b o, E.H0 b = some o → ¬ E.M b → H b = some o
  kp : ∀ b, H b = none → E.H0 b = none
  sl : ∀ (i : Nat) (sv : SV), ρ[i]? = some (some sv) → ∃ v, σ[i]? = some (some v) ∧ match sv with
    | .fz d => Rep K Hf d v
    | .ow d => Own K Hf H d v (A i) ∧ A i ≠ []
  ap : ∀ i a, a ∈ A i → Hf a = none ∧ H a ≠ none ∧ (E.H0 a = none ∨ (E.M a ∧ E.pa i ≠ none))
  dj : ∀ i j a, a ∈ A i → a ∈ A j → i = j
  pn : ∀ i a, E.pa i = some a → σ[i]? = some (some (.ref a))
def StOk (K : PySem.W.Frag) (E : Ent) (ρ : RhoS) (σ : L2.St) (H : Hp) : Prop := ∃ Hf A, StAt K E ρ σ H Hf A
section
variable {K : PySem.W.Frag} {E : Ent} {ρ : RhoS} {σ : L2.St} {H Hf W' H' : Hp} {A : Nat → List Addr}
theorem fzR_get {i : Nat} {d : D} (h : (fzR ρ)[i]? = some (some d)) : ρ[i]? = some (some (.fz d)) := by
  unfold fzR at h
  rw [List.getElem?_map] at h
  cases e : ρ[i]? with
  | none => rw [e] at h; cases h
  | some o =>
    rw [e] at h
    cases o with
    | none => cases h
    | some sv => cases sv with
      | fz d' => cases h; rfl
      | ow d' => cases h
theorem allR_get {i : Nat} {d : D} (h : (allR ρ)[i]? = some (some d)) : ∃ sv, ρ[i]? = some (some sv) ∧ sv.d = d := by
  unfold allR at h
  rw [List.getElem?_map] at h
  cases e : ρ[i]? with
  | none => rw [e] at h; cases h
  | some o =>
    rw [e] at h
    cases o with
    | none => cases h
    | some sv => cases h; exact ⟨sv, rfl, rfl⟩
theorem StAt.vis (s : StAt K E ρ σ H Hf A) : Vis K (fzR ρ) Hf σ := ⟨by unfold fzR; rw [List.length_map]; exact s.len, fun i d h => s.sl i _ (fzR_get h)⟩
theorem StAt.visH (s : StAt K E ρ σ H Hf A) : Vis K (allR ρ) H σ := ⟨by unfold allR; rw [List.length_map]; exact s.len, fun i d h => by
  obtain ⟨sv, h1, h2⟩ := allR_get h
  obtain ⟨v, e1, e2⟩ := s.sl i sv h1
  refine ⟨v, e1, ?_⟩
  cases sv with
  | fz d' => cases h2; exact Rep.mono s.fh e2
  | ow d' => cases h2; exact Own.rep e2.1 s.fh fun _ _ => rfl⟩
/-- behind an expression's reading that ran from the frozen heap -/
theorem StAt.step (s : StAt K E ρ σ H Hf A) (t : Step Hf H W' H') : StAt K E ρ σ H' W' A where
  len := s.len
  w0 := s.w0.trans t.ww
  fh := t.wh
  fr := fun b h1 h2 => by
    by_cases e : Hf b = none
    · exact s.kp b (t.fr b h1 e)
    · exact s.fr b e h2
  hh := fun b o h1 h2 => t.hh _ _ (s.hh b o h1 h2)
  kp := fun b h => s.kp b (Evl.fresh_back t.hh h)
  sl := fun i sv h => by
    obtain ⟨v, e1, e2⟩ := s.sl i sv h
    refine ⟨v, e1, ?_⟩
    cases sv with
    | fz d => exact Rep.mono t.ww e2
    | ow d =>
      refine ⟨Own.move e2.1 t.ww fun a ha => ?_, e2.2⟩
      have h2 := (s.ap i a ha).2.1
      cases q : H a with
      | none => exact absurd q h2
      | some o => exact t.hh _ _ q
  ap := fun i a ha => by
    obtain ⟨h1, h2, h3⟩ := s.ap i a ha
    refine ⟨?_, fun z => h2 (Evl.fresh_back t.hh z), h3⟩
    cases q : W' a with
    | none => rfl
    | some o => exact absurd (t.fr a (by rw [q]; simp) h1) h2
  dj := s.dj
  pn := s.pn
/-- .. from the whole heap: the frozen heap stays -/
theorem StAt.grow (s : StAt K E ρ σ H Hf A) (t : Ex H H') : StAt K E ρ σ H' Hf A where
  len := s.len
  w0 := s.w0
  fh := s.fh.trans t
  fr := s.fr
  hh := fun b o h1 h2 => t _ _ (s.hh b o h1 h2)
  kp := fun b h => s.kp b (Evl.fresh_back t h)
  sl := fun i sv h => by
    obtain ⟨v, e1, e2⟩ := s.sl i sv h
    refine ⟨v, e1, ?_⟩
    cases sv with
    | fz d => exact e2
    | ow d =>
      refine ⟨Own.move e2.1 (.refl _) fun a ha => ?_, e2.2⟩
      have h2 := (s.ap i a ha).2.1
      cases q : H a with
      | none => exact absurd q h2
      | some o => exact t _ _ q
  ap := fun i a ha => by
    obtain ⟨h1, h2, h3⟩ := s.ap i a ha
    exact ⟨h1, fun z => h2 (Evl.fresh_back t z), h3⟩
  dj := s.dj
  pn := s.pn
/-- a slot is set to a value in the frozen heap -/
theorem StAt.setFz (s : StAt K E ρ σ H Hf A) {i : Nat} {d : D} {v : V} (r : Rep K Hf d v) (hp : E.pa i = none) : StAt K E (ρ.set i (some (.fz d))) (σ.set i (some v)) H Hf (fun j => if j = i then [] else A j) where
  len := by rw [List.length_set, List.length_set]; exact s.len
  w0 := s.w0
  fh := s.fh
  fr := s.fr
  hh := s.hh
  kp := s.kp
  sl := fun j sv h => by
    by_cases hj : i = j
    · subst hj
      by_cases hi : i < ρ.length
      · rw [List.getElem?_set_self hi] at h; cases h
        exact ⟨v, List.getElem?_set_self (by rw [← s.len]; exact hi), r⟩
      · rw [List.getElem?_eq_none (by rw [List.length_set]; omega)] at h; cases h
    · rw [List.getElem?_set_ne hj] at h ⊢
      rw [if_neg (fun z => hj z.symm)]
      exact s.sl j sv h
  ap := fun j a ha => by
    by_cases hj : j = i
    · rw [if_pos hj] at ha; exact absurd ha (by simp)
    · rw [if_neg hj] at ha; exact s.ap j a ha
  dj := fun j k a h1 h2 => by
    by_cases hj : j = i
    · rw [if_pos hj] at h1; exact absurd h1 (by simp)
    · by_cases hk : k = i
      · rw [if_pos hk] at h2; exact absurd h2 (by simp)
      · rw [if_neg hj] at h1; rw [if_neg hk] at h2; exact s.dj j k a h1 h2
  pn := fun j a h => by
    have hj : i ≠ j := fun e => by subst e; rw [hp] at h; cases h
    rw [List.getElem?_set_ne hj]; exact s.pn j a h
/-- a slot is set to a new object of its own -/
theorem StAt.setOw (s : StAt K E ρ σ H Hf A) {i : Nat} {d : D} {v : V} {B : List Addr} (r : Own K Hf H d v B) (hB0 : B ≠ []) (hp : E.pa i = none) (hB : ∀ a ∈ B, Hf a = none ∧ H a ≠ none ∧ E.H0 a = none ∧ ∀ j, a ∉ A j) : StAt K E (ρ.set i (some (.ow d))) (σ.set i (some v)) H Hf (fun j => if j = i then B else A j) where
  len := by rw [List.length_set, List.length_set]; exact s.len
  w0 := s.w0
  fh := s.fh
  fr := s.fr
  hh := s.hh
  kp := s.kp
  sl := fun j sv h => by
    by_cases hj : i = j
    · subst hj
      by_cases hi : i < ρ.length
      · rw [List.getElem?_set_self hi] at h; cases h
        exact ⟨v, List.getElem?_set_self (by rw [← s.len]; exact hi), by dsimp only; rw [if_pos rfl]; exact ⟨r, hB0⟩⟩
      · rw [List.getElem?_eq_none (by rw [List.length_set]; omega)] at h; cases h
    · rw [List.getElem?_set_ne hj] at h ⊢
      rw [if_neg (fun z => hj z.symm)]
      exact s.sl j sv h
  ap := fun j a ha => by
    by_cases hj : j = i
    · rw [if_pos hj] at ha; obtain ⟨h1, h2, h3, _⟩ := hB a ha; exact ⟨h1, h2, .inl h3⟩
    · rw [if_neg hj] at ha; exact s.ap j a ha
  dj := fun j k a h1 h2 => by
    by_cases hj : j = i
    · by_cases hk : k = i
      · rw [hj, hk]
      · rw [if_pos hj] at h1; rw [if_neg hk] at h2; exact absurd h2 ((hB a h1).2.2.2 k)
    · by_cases hk : k = i
      · rw [if_neg hj] at h1; rw [if_pos hk] at h2; exact absurd h1 ((hB a h2).2.2.2 j)
      · rw [if_neg hj] at h1; rw [if_neg hk] at h2; exact s.dj j k a h1 h2
  pn := fun j a h => by
    have hj : i ≠ j := fun e => by subst e; rw [hp] at h; cases h
    rw [List.getElem?_set_ne hj]; exact s.pn j a h
/-- the object of a slot is changed -/
theorem StAt.change (s : StAt K E ρ σ H Hf A) {i : Nat} {d d' : D} {a : Addr} {o : HO} {B : List Addr} (hi : ρ[i]? = some (some (.ow d))) (hv : σ[i]? = some (some (.ref a))) (ha : a ∈ A i) (hB0 : B ≠ []) (hB : ∀ b ∈ B, b ∈ A i)
    (r : Own K Hf (upd H a o) d' (.ref a) B) : StAt K E (ρ.set i (some (.ow d'))) σ (upd H a o) Hf (fun j => if j = i then B else A j) where
  len := by rw [List.length_set]; exact s.len
  w0 := s.w0
  fh := fun b u h => by rw [upd_ne (ne_of_none h (s.ap i a ha).1)]; exact s.fh b u h
  fr := s.fr
  hh := fun b u h1 h2 => by
    have : b ≠ a := fun e => by
      subst e
      rcases (s.ap i b ha).2.2 with q | q
      · rw [h1] at q; cases q
      · exact h2 q.1
    rw [upd_ne this]; exact s.hh b u h1 h2
  kp := fun b h => by
    by_cases e : b = a
    · subst e; rw [upd_same] at h; cases h
    · rw [upd_ne e] at h; exact s.kp b h
  sl := fun j sv h => by
    by_cases hj : i = j
    · subst hj
      have hl : i < ρ.length := (List.getElem?_eq_some_iff.mp hi).1
      rw [List.getElem?_set_self hl] at h; cases h
      exact ⟨_, hv, by dsimp only; rw [if_pos rfl]; exact ⟨r, hB0⟩⟩
    · rw [List.getElem?_set_ne hj] at h
      rw [if_neg (fun z => hj z.symm)]
      obtain ⟨v, e1, e2⟩ := s.sl j sv h
      refine ⟨v, e1, ?_⟩
      cases sv with
      | fz d => exact e2
      | ow d => exact ⟨Own.move e2.1 (.refl _) fun b hb => upd_ne fun e => by subst e; exact hj (s.dj _ _ _ ha hb), e2.2⟩
  ap := fun j b hb => by
    have hu : upd H a o b ≠ none := by
      by_cases e : b = a
      · subst e; rw [upd_same]; simp
      · rw [upd_ne e]
        by_cases hj : j = i
        · rw [if_pos hj] at hb; exact (s.ap i b (hB b hb)).2.1
        · rw [if_neg hj] at hb; exact (s.ap j b hb).2.1
    by_cases hj : j = i
    · rw [if_pos hj] at hb
      obtain ⟨h1, _, h3⟩ := s.ap i b (hB b hb)
      exact ⟨h1, hu, by rw [hj]; exact h3⟩
    · rw [if_neg hj] at hb
      obtain ⟨h1, _, h3⟩ := s.ap j b hb
      exact ⟨h1, hu, h3⟩
  dj := fun j k b h1 h2 => by
    have g : ∀ j, b ∈ (if j = i then B else A j) → b ∈ A j := fun j h => by
      by_cases hj : j = i
      · rw [if_pos hj] at h; rw [hj]; exact hB b h
      · rw [if_neg hj] at h; exact h
    exact s.dj j k b (g j h1) (g k h2)
  pn := s.pn
end

/-! ### a statement's outcomes -/
/-- an error: its class, and what its own __init__ wrote -/
structure Er where
  cls : Value
  fs : Option (List (Str × D))
def ErAt (K : PySem.W.Frag) (H : Hp) (er : Er) (d : Option Addr) : Prop := match er.fs with
  | none => d = none
  | some fds => ∃ dd vs, d = some dd ∧ H dd = some (.xd vs) ∧ vs.map (·.1) = fds.map (·.1) ∧ RepAll K (fun _ => none) (fds.map (·.2)) (vs.map (·.2))
inductive Out where
  | nx (ρ : RhoS) | rt (d : D) (ρ : RhoS) | bk (ρ : RhoS) | ct (ρ : RhoS) | ex (er : Er) (ρ : RhoS)
def RtOk (K : PySem.W.Frag) (E : Ent) (d : D) (ρ : RhoS) (v : V) (H : Hp) : Prop := ∃ σ Hf A W', StAt K E ρ σ H Hf A ∧ Ex Hf W' ∧ Ex W' H ∧ Fr E.W0 W' E.H0 ∧ (∀ i a, a ∈ A i → E.pa i ≠ none → W' a = none) ∧ Rep K W' d v
/-- the error er is taken where the names are worth ρ (at H, ahead of the error's making) -/
def ExOk (X : Cx) (E : Ent) (er : Er) (ρ : RhoS) : Prop := ∃ W : L2.WX, L2.Takes X W ∧ ∀ d σ H H', StOk X.K E ρ σ H → Ex H H' → ErAt X.K H' er d → (∀ dd, d = some dd → H dd = none) → W er.cls d σ H'
def OutOk (X : Cx) (E : Ent) (D : Ends) : Out → Prop
  | .nx ρ => ∀ σ H, StOk X.K E ρ σ H → D.nx σ H
  | .rt d ρ => ∀ v H, RtOk X.K E d ρ v H → D.rt v H
  | .bk ρ => ∀ σ H, StOk X.K E ρ σ H → D.bk σ H
  | .ct ρ => ∀ σ H, StOk X.K E ρ σ H → D.ct σ H
  | .ex er ρ => ExOk X E er ρ
def Ent.Pins (E : Ent) (pin : List Nat) : Prop := ∀ i, E.pa i ≠ none ↔ i ∈ pin
structure JS (X : Cx) (pin : List Nat) (st : Stmt) (ρ : RhoS) (Φ : Out → Prop) : Prop where
  run : ∀ (E : Ent) σ H (D : Ends), E.Pins pin → StOk X.K E ρ σ H → (∀ o, Φ o → OutOk X E D o) → wS X st D σ H
instance {X : Cx} {pin : List Nat} {st : Stmt} {ρ : RhoS} {Φ : Out → Prop} : CoeFun (JS X pin st ρ Φ) (fun _ => ∀ (E : Ent) σ H (D : Ends), E.Pins pin → StOk X.K E ρ σ H → (∀ o, Φ o → OutOk X E D o) → wS X st D σ H) := ⟨JS.run⟩
structure JSs (X : Cx) (pin : List Nat) (sts : List Stmt) (ρ : RhoS) (Φ : Out → Prop) : Prop where
  run : ∀ (E : Ent) σ H (D : Ends), E.Pins pin → StOk X.K E ρ σ H → (∀ o, Φ o → OutOk X E D o) → wSs X sts D σ H
instance {X : Cx} {pin : List Nat} {sts : List Stmt} {ρ : RhoS} {Φ : Out → Prop} : CoeFun (JSs X pin sts ρ Φ) (fun _ => ∀ (E : Ent) σ H (D : Ends), E.Pins pin → StOk X.K E ρ σ H → (∀ o, Φ o → OutOk X E D o) → wSs X sts D σ H) := ⟨JSs.run⟩
/-- what must hold behind a statement for the rest -/
def thenSs (X : Cx) (pin : List Nat) (rest : List Stmt) (Φ : Out → Prop) : Out → Prop
  | .nx ρ => JSs X pin rest ρ Φ
  | .rt d ρ => Φ (.rt d ρ)
  | .bk ρ => Φ (.bk ρ)
  | .ct ρ => Φ (.ct ρ)
  | .ex er ρ => Φ (.ex er ρ)
section
variable {X : Cx} {pin : List Nat} {st : Stmt} {rest a b : List Stmt} {ρ : RhoS} {Φ : Out → Prop} {e c : Expr} {d : D} {pos p' : Pos} {i : Nat} {x : Str} {t : Bool}
theorem Ent.Pins.none {E : Ent} (h : E.Pins pin) (hi : i ∉ pin) : E.pa i = none := by
  cases q : E.pa i with
  | none => rfl
  | some a => exact absurd ((h i).mp (by rw [q]; simp)) hi
theorem jss_nil (h : Φ (.nx ρ)) : JSs X pin [] ρ Φ := ⟨fun E σ H D _ s k => .of pss_nil (k _ h σ H s)⟩
theorem jss_cons (h : JS X pin st ρ (thenSs X pin rest Φ)) : JSs X pin (st :: rest) ρ Φ := ⟨fun E σ H D hp s k =>
  .of (pss_cons ps_w pss_w) (h E σ H _ hp s fun o ho => by
    cases o with
    | nx ρ' => exact fun σ' H' s' => JSs.run (show JSs X pin rest ρ' Φ from ho) E σ' H' D hp s' k
    | rt d ρ' => exact k _ ho
    | bk ρ' => exact k _ ho
    | ct ρ' => exact k _ ho
    | ex er ρ' => exact k _ ho)⟩
theorem JS.imp {Ψ : Out → Prop} (h : JS X pin st ρ Ψ) (k : ∀ o, Ψ o → Φ o) : JS X pin st ρ Φ := ⟨fun E σ H D hp s q => h E σ H D hp s fun o ho => q o (k o ho)⟩
theorem JSs.imp {Ψ : Out → Prop} (h : JSs X pin rest ρ Ψ) (k : ∀ o, Ψ o → Φ o) : JSs X pin rest ρ Φ := ⟨fun E σ H D hp s q => h E σ H D hp s fun o ho => q o (k o ho)⟩
theorem js_pass (h : Φ (.nx ρ)) : JS X pin (.Pass pos) ρ Φ := ⟨fun E σ H D _ s k => .of ps_pass (k _ h σ H s)⟩
theorem js_break (h : Φ (.bk ρ)) : JS X pin (.Break pos) ρ Φ := ⟨fun E σ H D _ s k => .of ps_break (k _ h σ H s)⟩
theorem js_continue (h : Φ (.ct ρ)) : JS X pin (.Continue pos) ρ Φ := ⟨fun E σ H D _ s k => .of ps_continue (k _ h σ H s)⟩
theorem js_if (hc : JT X c (allR ρ) t) (h1 : t = true → JSs X pin a ρ Φ) (h2 : t = false → JSs X pin b ρ Φ) : JS X pin (.If c a b pos) ρ Φ := ⟨fun E σ H D hp ⟨Hf, A, s⟩ k =>
  .of (ps_if pt_w pss_w pss_w) (hc H σ H (.refl _) s.visH _ fun W' H' st => by
    have s' := s.grow st.hh
    cases t with
    | true => rw [if_pos rfl]; exact h1 rfl E σ H' D hp ⟨Hf, A, s'⟩ k
    | false => rw [if_neg Bool.false_ne_true]; exact h2 rfl E σ H' D hp ⟨Hf, A, s'⟩ k)⟩
/-- the branch is known -/
theorem js_ifT (hc : JT X c (allR ρ) true) (h1 : JSs X pin a ρ Φ) : JS X pin (.If c a b pos) ρ Φ := js_if hc (fun _ => h1) (fun z => Bool.noConfusion z)
theorem js_ifF (hc : JT X c (allR ρ) false) (h1 : JSs X pin b ρ Φ) : JS X pin (.If c a b pos) ρ Φ := js_if hc (fun z => Bool.noConfusion z) (fun _ => h1)
theorem js_drop (h : J X e (allR ρ) d) (hk : Φ (.nx ρ)) (hs : swapsWith e none pos.line X.env = pure false := by rfl) : JS X pin (.Expr e pos) ρ Φ := ⟨fun E σ H D hp ⟨Hf, A, s⟩ k =>
  .of (ps_expr pe_w hs) (h H σ H (.refl _) s.visH _ fun v W' H' st r => k _ hk σ H' ⟨Hf, A, s.grow st.hh⟩)⟩
/-- flat data do not lean on the heap -/
theorem Rep.any {K : PySem.W.Frag} {H H' : Hp} {v : V} (r : Rep K H d v) (h : flatD d = true) : Rep K H' d v := by
  cases r with
  | non => exact .non
  | bl b => exact .bl b
  | int i => exact .int i
  | str x => exact .str x
  | _ => cases h
theorem js_set (h : J X e (fzR ρ) d) (hk : Φ (.nx (ρ.set i (some (.fz d))))) (hN : X.N.Nodup) (hi : X.N[i]? = some x := by rfl) (hx : Loc X.env.scope x := by first | exact Or.inl rfl | exact Or.inr rfl) (hp : i ∉ pin := by decide) (hs : swapsWith e (some (.Name x p')) pos.line X.env = pure false := by rfl)
    (hf : X.fn x = true ∨ X.env.scope.names.lookup x = some .local := by first | exact .inl rfl | exact .inr rfl) : JS X pin (.Assign [.Name x p'] e pos) ρ Φ := ⟨fun E σ H D hpn ⟨Hf, A, s⟩ k =>
  .of (ps_set hN hi hx pe_w hs hf) (h Hf σ H s.fh s.vis _ fun v W' H' st r => k _ hk _ H' ⟨W', _, (s.step st).setFz r (hpn.none hp)⟩)⟩
theorem js_setS (h : J X e (allR ρ) d) (hd : flatD d = true) (hk : Φ (.nx (ρ.set i (some (.fz d))))) (hN : X.N.Nodup) (hi : X.N[i]? = some x := by rfl) (hx : Loc X.env.scope x := by first | exact Or.inl rfl | exact Or.inr rfl) (hp : i ∉ pin := by decide) (hs : swapsWith e (some (.Name x p')) pos.line X.env = pure false := by rfl)
    (hf : X.fn x = true ∨ X.env.scope.names.lookup x = some .local := by first | exact .inl rfl | exact .inr rfl) : JS X pin (.Assign [.Name x p'] e pos) ρ Φ := ⟨fun E σ H D hpn ⟨Hf, A, s⟩ k =>
  .of (ps_set hN hi hx pe_w hs hf) (h H σ H (.refl _) s.visH _ fun v W' H' st r => k _ hk _ H' ⟨Hf, _, (s.grow st.hh).setFz (r.any hd) (hpn.none hp)⟩)⟩
/-- the heap that a value handed back stands in: all that is new, but for what the own arguments hold -/
noncomputable def retW (E : Ent) (Hf H : Hp) (A : Nat → List Addr) : Hp := fun b =>
  haveI := Classical.propDecidable (∃ i, b ∈ A i ∧ E.pa i ≠ none)
  if ∃ i, b ∈ A i ∧ E.pa i ≠ none then none else match E.H0 b with
  | none => H b
  | some _ => Hf b
/-- own arguments hidden -/
def retR (pin : List Nat) (ρ : RhoS) : Rho := ρ.mapIdx fun i o => if i ∈ pin then o.bind SV.fzD else o.map SV.d
theorem retR_nil (ρ : RhoS) : retR [] ρ = allR ρ := by
  unfold retR allR
  apply List.ext_getElem?
  intro i
  rw [List.getElem?_mapIdx, List.getElem?_map]
  simp
section
variable {E : Ent} {σ : L2.St} {H Hf : Hp} {A : Nat → List Addr}
theorem retW_arg {b : Addr} (h : ∃ i, b ∈ A i ∧ E.pa i ≠ none) : retW E Hf H A b = none := by unfold retW; rw [if_pos h]
theorem retW_new {b : Addr} (hn : ¬ ∃ i, b ∈ A i ∧ E.pa i ≠ none) (h : E.H0 b = none) : retW E Hf H A b = H b := by unfold retW; rw [if_neg hn, h]
theorem retW_old {b : Addr} (hn : ¬ ∃ i, b ∈ A i ∧ E.pa i ≠ none) (h : E.H0 b ≠ none) : retW E Hf H A b = Hf b := by
  unfold retW
  rw [if_neg hn]
  cases q : E.H0 b with
  | none => exact absurd q h
  | some o => rfl
theorem StAt.retHf (s : StAt X.K E ρ σ H Hf A) : Ex Hf (retW E Hf H A) := fun b o h => by
  have hn : ¬ ∃ i, b ∈ A i ∧ E.pa i ≠ none := fun ⟨i, h1, _⟩ => by
    have := (s.ap i b h1).1
    rw [h] at this; cases this
  by_cases q : E.H0 b = none
  · rw [retW_new hn q]; exact s.fh b o h
  · rw [retW_old hn q]; exact h
theorem StAt.retH (s : StAt X.K E ρ σ H Hf A) : Ex (retW E Hf H A) H := fun b o h => by
  by_cases hn : ∃ i, b ∈ A i ∧ E.pa i ≠ none
  · rw [retW_arg hn] at h; cases h
  · by_cases q : E.H0 b = none
    · rw [retW_new hn q] at h; exact h
    · rw [retW_old hn q] at h; exact s.fh b o h
theorem StAt.visR (hp : E.Pins pin) (s : StAt X.K E ρ σ H Hf A) : Vis X.K (retR pin ρ) (retW E Hf H A) σ := by
  refine ⟨by unfold retR; rw [List.length_mapIdx]; exact s.len, fun i d h => ?_⟩
  unfold retR at h
  rw [List.getElem?_mapIdx] at h
  cases e : ρ[i]? with
  | none => rw [e] at h; cases h
  | some o =>
    rw [e] at h
    cases o with
    | none => simp at h
    | some sv =>
      obtain ⟨v, q1, q2⟩ := s.sl i sv e
      refine ⟨v, q1, ?_⟩
      cases sv with
      | fz d' =>
        have : d' = d := by simpa [SV.fzD, SV.d] using h
        subst this
        exact Rep.mono s.retHf q2
      | ow d' =>
        by_cases hi : i ∈ pin
        · simp [hi, SV.fzD] at h
        · have : d' = d := by simpa [hi, SV.d] using h
          subst this
          refine Own.rep q2.1 s.retHf fun a ha => ?_
          have hn : ¬ ∃ j, a ∈ A j ∧ E.pa j ≠ none := fun ⟨j, h1, h2⟩ => by
            have := s.dj i j a ha h1
            subst this
            exact hi ((hp i).mp h2)
          rcases (s.ap i a ha).2.2 with q | q
          · exact retW_new hn q
          · exact absurd ⟨i, ha, q.2⟩ hn
end
theorem js_retR (h : J X e (retR pin ρ) d) (hk : Φ (.rt d ρ)) : JS X pin (.Return (some e) pos) ρ Φ := ⟨fun E σ H D hp ⟨Hf, A, s⟩ k =>
  .of (ps_ret pe_w) (h (retW E Hf H A) σ H s.retH (s.visR hp) _ fun v W' H' st r => k _ hk v H' ⟨σ, Hf, A, W', s.grow st.hh, s.retHf.trans st.ww, st.wh, fun b h1 h2 => by
      by_cases q : retW E Hf H A b = none
      · exact s.kp b (st.fr b h1 q)
      · by_cases hn : ∃ i, b ∈ A i ∧ E.pa i ≠ none
        · exact absurd (retW_arg hn) q
        · by_cases z : E.H0 b = none
          · exact z
          · rw [retW_old hn z] at q; exact s.fr b q h2, fun i a ha hpa => by
      cases q : W' a with
      | none => rfl
      | some o => exact absurd (st.fr a (by rw [q]; simp) (retW_arg ⟨i, ha, hpa⟩)) (s.ap i a ha).2.1, r⟩)⟩
theorem js_ret (h : J X e (allR ρ) d) (hk : Φ (.rt d ρ)) : JS X [] (.Return (some e) pos) ρ Φ := js_retR (by rw [retR_nil]; exact h) hk
/-- flat data handed back -/
theorem js_retS (h : J X e (allR ρ) d) (hd : flatD d = true) (hk : Φ (.rt d ρ)) : JS X pin (.Return (some e) pos) ρ Φ := ⟨fun E σ H D hp ⟨Hf, A, s⟩ k =>
  .of (ps_ret pe_w) (h H σ H (.refl _) s.visH _ fun v W' H' st r => k _ hk v H' ⟨σ, Hf, A, Hf, s.grow st.hh, .refl _, s.fh.trans st.hh, s.fr, fun i a ha _ => (s.ap i a ha).1, r.any hd⟩)⟩
theorem js_retN (hk : Φ (.rt .non ρ)) : JS X pin (.Return none pos) ρ Φ := ⟨fun E σ H D hp ⟨Hf, A, s⟩ k =>
  .of ps_retN (k _ hk .non H ⟨σ, Hf, A, Hf, s, .refl _, s.fh, s.fr, fun i a ha _ => (s.ap i a ha).1, .non⟩)⟩
end
end Pf

namespace Pf
open PySem PyProof.Rows L2
open Evl (Ex)

section
variable {X : Cx} {pin : List Nat} {st : Stmt} {rest a b body : List Stmt} {ρ : RhoS} {Φ : Out → Prop} {e c tg iter : Expr} {es : List Expr} {d : D} {ds : List D} {pos p p' p1 p2 p3 : Pos} {i : Nat} {x : Str} {t : Bool}
  {K : PySem.W.Frag} {E : Ent} {σ : L2.St} {H Hf : Hp} {A : Nat → List Addr}
/-! ### new lists -/
structure JN (X : Cx) (e : Expr) (ρ : Rho) (ds : List D) : Prop where
  run : ∀ W σ H, Ex W H → Vis X.K ρ W σ → ∀ Q : VK, (∀ (a : Addr) (W' H' : Hp) (vs : List V), Step W H W' H' → H a = none → W' a = none → H' a = some (.lst vs) → RepAll X.K W' ds vs → Q (.ref a) H') → wE X e σ H Q
instance {X : Cx} {e : Expr} {ρ : Rho} {ds : List D} : CoeFun (JN X e ρ ds) (fun _ => ∀ W σ H, Ex W H → Vis X.K ρ W σ → ∀ Q : VK, (∀ (a : Addr) (W' H' : Hp) (vs : List V), Step W H W' H' → H a = none → W' a = none → H' a = some (.lst vs) → RepAll X.K W' ds vs → Q (.ref a) H') → wE X e σ H Q) := ⟨JN.run⟩
theorem jn_lst {ρ : Rho} (h : JA X es ρ ds) (hl : ds.length ≤ sizeLine := by (simp only [List.length_cons, List.length_nil]; decide)) : JN X (.List es pos) ρ ds := ⟨fun W σ H ex hV Q g =>
  .of (pe_lst pa_w) (h W σ H ex hV _ fun vs W1 H1 s1 r1 => ⟨by rw [← r1.length]; exact hl, fun q hq =>
    g q W1 _ vs (s1.trans (.newH s1.wh hq)) (Evl.fresh_back s1.hh hq) (Evl.fresh_back s1.wh hq) upd_same r1⟩)⟩
theorem jn_listL {ρ : Rho} {n : Str} (hm : X.mg n = none) (hv : bootBuiltins n = some (.type "list")) (h : J X e ρ (.lst ds)) (hg : Gl X n := by rfl) (hn : n ≠ "__name__" := by decide) (hdb : (n == ("__debug__" : Str)) = false := by decide)
    (he : starEach [e] X.env = (false, eval e X.env) :: starEach [] X.env := by rfl) (hpl : (backTo pos (starEach [] X.env)).any (·.1) = false := by rfl) : JN X (.Call (.Name n p) [e] [] pos) ρ ds := ⟨fun W σ H ex hV Q g =>
  .of (pe_callTy call_list_of hg hm hv pa_w hn hdb he hpl) (ja_cons h ja_nil he W σ H ex hV _ fun vs W1 H1 s1 r1 => by
    cases r1 with
    | cons r t =>
      cases t
      cases r with
      | lst h1 k => exact ⟨_, _, rfl, .inl (SqL.of (s1.wh _ _ h1)), fun q hq => g q W1 _ _ (s1.trans (.newH s1.wh hq)) (Evl.fresh_back s1.hh hq) (Evl.fresh_back s1.wh hq) upd_same k⟩)⟩
theorem jn_slL {ρ : Rho} {lo hi : Option Expr} {o1 o2 : Option Int} {pq pos : Pos} (ha : J X e ρ (.lst ds)) (h1 : JO X lo ρ o1) (h2 : JO X hi ρ o2) : JN X (.Subscript e (.Slice lo hi none pq) pos) ρ (cut ds o1 o2) := ⟨fun W σ H ex hV Q g =>
  .of (pe_slice sl_list pe_w po_w po_w) (ha W σ H ex hV _ fun v W1 H1 s1 r1 => h1.run s1.wh (hV.mono s1.ww) fun W2 H2 s2 => h2.run s2.wh (hV.mono (s1.trans s2).ww) fun W3 H3 s3 => by
    cases r1 with
    | lst k1 k2 =>
      have s4 := (s1.trans s2).trans s3
      refine ⟨_, _, rfl, SqL.of ((s2.trans s3).hh _ _ (s1.wh _ _ k1)), fun q hq => ?_⟩
      exact g q W3 _ _ (s4.trans (.newH s4.wh hq)) (Evl.fresh_back s4.hh hq) (Evl.fresh_back s4.wh hq) upd_same ((k2.mono (s2.trans s3).ww).cut _ _))⟩
theorem jn_lc {ρ : Rho} {elt : Expr} {ifs : List Expr} {scope : Scope} {own : List (Str × Nat)} {pat : Pat} {its : List (D × Option D)} (hi : JI X tg iter ρ (its.map (·.1))) (ok : BlkOk X.N X.env.scope scope own) (hg : ∀ s H C cl fp, PG (blkX X scope s H C cl fp) tg (pat.g X.K)) (hown : ∀ i ∈ pat.slots, i ∈ own.map (·.2)) (hlen : its.length < sizeLine)
    (turn : ∀ q ∈ its, LcTurn X scope pat elt ifs (wipeR ρ (own.map (·.2))) q.1 q.2) (hN : X.N.Nodup) (hc : X.calm = true := by rfl) (hs : ∀ x, foldedSetIterable iter X.env x = pure x := by intro _; rfl) :
    JN X (.ListComp elt [⟨tg, iter, ifs, 0⟩] scope pos) ρ (its.filterMap (·.2)) := ⟨fun W σ H ex hV Q g =>
  .of (pe_lc (tt := fun σ H Q => ∀ s H0 C cl fp, wTs (blkX X scope s H0 C cl fp) ifs σ H Q) (te := fun σ H Q => ∀ s H0 C cl fp, wE (blkX X scope s H0 C cl fp) elt σ H Q) hc hN pi_w ok hg
    (fun s H0 C cl fp => ⟨fun pins s' σ' H' Q' I h => h s H0 C cl fp pins s' I⟩) (fun s H0 C cl fp => ⟨fun pins s' σ' H' Q' I h => h s H0 C cl fp pins s' I⟩) hs)
    (lc_read hi hown hlen turn ex hV g)⟩

theorem Own.newL {W : Hp} {a : Addr} {vs : List V} (h : H a = some (.lst vs)) (r : RepAll K W ds vs) : Own K W H (.lst ds) (.ref a) [a] := .lst h (.fz r) (by simp)
theorem StAt.newL (s : StAt K E ρ σ H Hf A) {W' H' : Hp} {a : Addr} {vs : List V} (st : Step Hf H W' H') (h1 : H a = none) (h2 : W' a = none) (h3 : H' a = some (.lst vs)) (r : RepAll K W' ds vs) (hp : E.pa i = none) :
    StOk K E (ρ.set i (some (.ow (.lst ds)))) (σ.set i (some (.ref a))) H' :=
  ⟨W', _, (s.step st).setOw (.newL h3 r) (by simp) hp fun b hb => by
    have e : b = a := by simpa using hb
    subst e
    exact ⟨h2, by rw [h3]; simp, s.kp b h1, fun j hj => (s.ap j b hj).2.1 h1⟩⟩
theorem js_setN (h : JN X e (fzR ρ) ds) (hk : Φ (.nx (ρ.set i (some (.ow (.lst ds)))))) (hN : X.N.Nodup) (hi : X.N[i]? = some x := by rfl) (hx : Loc X.env.scope x := by first | exact Or.inl rfl | exact Or.inr rfl) (hp : i ∉ pin := by decide) (hs : swapsWith e (some (.Name x p')) pos.line X.env = pure false := by rfl)
    (hf : X.fn x = true ∨ X.env.scope.names.lookup x = some .local := by first | exact .inl rfl | exact .inr rfl) : JS X pin (.Assign [.Name x p'] e pos) ρ Φ := ⟨fun E σ H D hpn ⟨Hf, A, s⟩ k =>
  .of (ps_set hN hi hx pe_w hs hf) (h Hf σ H s.fh s.vis _ fun a W' H' vs st h1 h2 h3 r => k _ hk _ H' (s.newL st h1 h2 h3 r (hpn.none hp)))⟩
/-- a comprehension stored to a plain local name: the value frozen, or the slot's own -/
theorem js_setLc {elt : Expr} {ifs : List Expr} {scope : Scope} {own : List (Str × Nat)} {pat : Pat} {its : List (D × Option D)} {lpos : Pos} (hi' : JI X tg iter (fzR ρ) (its.map (·.1))) (ok : BlkOk X.N X.env.scope scope own) (hg : ∀ s H C cl fp, PG (blkX X scope s H C cl fp) tg (pat.g X.K)) (hown : ∀ i ∈ pat.slots, i ∈ own.map (·.2)) (hlen : its.length < sizeLine)
    (turn : ∀ q ∈ its, LcTurn X scope pat elt ifs (wipeR (fzR ρ) (own.map (·.2))) q.1 q.2) (hk : Φ (.nx (ρ.set i (some (.fz (.lst (its.filterMap (·.2)))))))) (hN : X.N.Nodup) (hsw : swapsWith (.ListComp elt [⟨tg, iter, ifs, 0⟩] scope lpos) (some (.Name x p')) pos.line X.env = pure true)
    (hi : X.N[i]? = some x := by rfl) (hx : X.env.scope.names.lookup x = some .local := by rfl) (hp : i ∉ pin := by decide) (hc : X.calm = true := by rfl) (hs : ∀ x, foldedSetIterable iter X.env x = pure x := by intro _; rfl) :
    JS X pin (.Assign [.Name x p'] (.ListComp elt [⟨tg, iter, ifs, 0⟩] scope lpos) pos) ρ Φ := ⟨fun E σ H D hpn ⟨Hf, A, s⟩ k =>
  .of (ps_setLc (tt := fun σ H Q => ∀ s H0 C cl fp, wTs (blkX X scope s H0 C cl fp) ifs σ H Q) (te := fun σ H Q => ∀ s H0 C cl fp, wE (blkX X scope s H0 C cl fp) elt σ H Q) hc hN hi hx hsw pi_w ok hg
    (fun s H0 C cl fp => ⟨fun pins s' σ' H' Q' I h => h s H0 C cl fp pins s' I⟩) (fun s H0 C cl fp => ⟨fun pins s' σ' H' Q' I h => h s H0 C cl fp pins s' I⟩) hs)
    (lc_read hi' hown hlen turn s.fh s.vis fun Dn W' H' vs st hD hW hH rv => k _ hk _ H' ⟨_, _, (s.step (st.show' hD hW hH)).setFz (.lst upd_same (rv.mono fun a u h => by rw [upd_ne (ne_of_none h hW)]; exact h)) (hpn.none hp)⟩)⟩

theorem js_setLcN {α : Type} {j : Nat} {elt : Expr} {ifs : List Expr} {scope : Scope} {own : List (Str × Nat)} {lpos : Pos} (xs : List α) (g : α → D) (q : α → Bool) (h : α → D) (hi' : JI X tg iter (fzR ρ) (xs.map g)) (ok : BlkOk X.N X.env.scope scope own) (hg : ∀ s H C cl fp, PG (blkX X scope s H C cl fp) tg (gName j)) (hlen : xs.length < sizeLine)
    (turn : ∀ x ∈ xs, ∀ s H C cl fp, JTs (blkX X scope s H C cl fp) ifs ((wipeR (fzR ρ) (own.map (·.2))).set j (some (g x))) (q x) ∧ (q x = true → J (blkX X scope s H C cl fp) elt ((wipeR (fzR ρ) (own.map (·.2))).set j (some (g x))) (h x))) (hk : Φ (.nx (ρ.set i (some (.fz (.lst ((xs.filter q).map h))))))) (hN : X.N.Nodup) (hsw : swapsWith (.ListComp elt [⟨tg, iter, ifs, 0⟩] scope lpos) (some (.Name x p')) pos.line X.env = pure true)
    (hown : j ∈ own.map (·.2) := by decide) (hi : X.N[i]? = some x := by rfl) (hx : X.env.scope.names.lookup x = some .local := by rfl) (hp : i ∉ pin := by decide) (hc : X.calm = true := by rfl) (hs : ∀ x, foldedSetIterable iter X.env x = pure x := by intro _; rfl) :
    JS X pin (.Assign [.Name x p'] (.ListComp elt [⟨tg, iter, ifs, 0⟩] scope lpos) pos) ρ Φ :=
  js_setLc (pat := .nm j) (its := xs.map fun x => (g x, if q x = true then some (h x) else none)) (by rw [List.map_map]; exact hi') ok hg (fun k hk => (List.mem_singleton.mp hk : k = j) ▸ hown) (by rw [List.length_map]; exact hlen) (lcN_turn turn) (by rw [sel_filter]; exact hk) hN hsw hi hx hp hc hs
/-! ### xs.append(e) -/
theorem OwnAll.snoc {vs : List V} {v : V} {B : List Addr} (h : OwnAll K Hf H ds vs B) (r : Rep K Hf d v) : OwnAll K Hf H (ds ++ [d]) (vs ++ [v]) B := by
  have := h.append (OwnAll.fz (.cons r .nil)) (fun _ _ => by simp)
  rwa [List.append_nil] at this
theorem OwnAll.move {vs : List V} {B : List Addr} {Hf' H' : Hp} (h : OwnAll K Hf H ds vs B) (e : Ex Hf Hf') (k : ∀ a ∈ B, H' a = H a) : OwnAll K Hf' H' ds vs B := by
  refine OwnAll.rec (motive_1 := fun d v A _ => Ex Hf Hf' → (∀ a ∈ A, H' a = H a) → Own K Hf' H' d v A) (motive_2 := fun ds vs A _ => Ex Hf Hf' → (∀ a ∈ A, H' a = H a) → OwnAll K Hf' H' ds vs A) (motive_3 := fun ds vs A _ => Ex Hf Hf' → (∀ a ∈ A, H' a = H a) → OwnFs K Hf' H' ds vs A) ?_ ?_ ?_ ?_ ?_ ?_ ?_ ?_ h e k
  · exact fun r e _ => .fz (r.mono e)
  · exact fun h1 _ n ih e k => .lst (by rw [k _ List.mem_cons_self]; exact h1) (ih e fun a ha => k a (List.mem_cons_of_mem _ ha)) n
  · exact fun h1 q _ n ih e k => .dct (by rw [k _ List.mem_cons_self]; exact h1) q (ih e fun a ha => k a (List.mem_cons_of_mem _ ha)) n
  · exact fun h1 q _ n ih e k => .ins (by rw [k _ List.mem_cons_self]; exact h1) q (ih e fun a ha => k a (List.mem_cons_of_mem _ ha)) n
  · exact fun _ _ => .nil
  · exact fun _ _ n i1 i2 e k => .cons (i1 e fun a ha => k a (List.mem_append_left _ ha)) (i2 e fun a ha => k a (List.mem_append_right _ ha)) n
  · exact fun _ _ => .nil
  · exact fun _ _ n w i1 i2 e k => .cons (i1 e fun a ha => k a (List.mem_append_left _ ha)) (i2 e fun a ha => k a (List.mem_append_right _ ha)) n w
theorem OwnFs.move {Hf' H' : Hp} : ∀ {ds : List D} {vs : List V} {B : List Addr}, OwnFs K Hf H ds vs B → Ex Hf Hf' → (∀ a ∈ B, H' a = H a) → OwnFs K Hf' H' ds vs B
  | _, _, _, .nil, _, _ => .nil
  | _, _, _, .cons a b n w, e, k => .cons (a.move e fun x hx => k x (List.mem_append_left _ hx)) (OwnFs.move b e fun x hx => k x (List.mem_append_right _ hx)) n w
theorem js_append (hi : ρ[i]? = some (some (.ow (.lst ds)))) (h : J X e (fzR ρ) d) (hl : ds.length < sizeLine) (hk : Φ (.nx (ρ.set i (some (.ow (.lst (ds ++ [d]))))))) (hN : X.N[i]? = some x := by rfl) (hv : L2.Vis X.env.scope x := by first | exact Or.inl rfl | exact Or.inr (Or.inl rfl))
    (hd : (x == ("__debug__" : Str)) = false := by decide) (hcd : (x == ("__classdict__" : Str)) = false := by decide) (hst : starEach [e] X.env = (false, eval e X.env) :: starEach [] X.env := by rfl)
    (hfew : ((backTo p3 (starEach [e] X.env)).all (fun x => !x.1) && (backToKw p3 (keywordEach [] X.env)).all (fun x => x.1.isSome) && decide ([e].length + ([] : List Keyword).length + (if ([] : List Keyword).isEmpty then 0 else 1) < 30)) = true := by rfl)
    (hline : (p2.endLine == p3.line) = true := by rfl)
    (hs : swapsWith (.Call (.Attribute (.Name x p1) "append" p2) [e] [] p3) none pos.line X.env = pure false := by rfl) : JS X pin (.Expr (.Call (.Attribute (.Name x p1) "append" p2) [e] [] p3) pos) ρ Φ := ⟨fun E σ H D hpn ⟨Hf, A, s⟩ k => by
  refine .of (ps_expr (pe_bm PySem.F.plainAttrs_list PySem.F.slot_list_append PySem.F.type_list_append mt_append (pe_var hN hv hd hcd) (pa_cons pe_w pa_nil hst) rfl hfew hline hst) hs) ?_
  obtain ⟨v, hσ, ow, ne⟩ := s.sl i _ hi
  generalize hA : A i = Ai at ow ne
  cases ow with
  | fz _ => exact absurd rfl ne
  | @lst l vs _ B hl1 ha nB =>
    refine ⟨_, hσ, .inl ⟨rfl, _, SqL.of hl1⟩, ?_⟩
    refine h Hf σ H s.fh s.vis _ fun y W' H' st r => ?_
    have s' := s.step st
    have hl2 := st.hh _ _ hl1
    refine ⟨l, vs, y, rfl, rfl, hl2, by rw [← ha.length]; exact hl, ?_⟩
    have hm : l ∈ A i := by rw [hA]; exact List.mem_cons_self
    have k1 : ∀ a ∈ B, upd H' l (.lst (vs ++ [y])) a = H a := fun a haB => by
      rw [upd_ne (fun z => by subst z; exact nB haB)]
      have := (s.ap i a (by rw [hA]; exact List.mem_cons_of_mem _ haB)).2.1
      cases q : H a with
      | none => exact absurd q this
      | some o => exact st.hh _ _ q
    exact k _ hk _ _ ⟨W', _, s'.change (B := l :: B) hi hσ hm (by simp) (fun b hb => by rw [hA]; exact hb) (.lst upd_same ((ha.move st.ww k1).snoc r) nB)⟩⟩

/-! ### targets of assignments and loops -/
def Pat.setS : Pat → D → RhoS → Option RhoS
  | .nm i, d, ρ => some (ρ.set i (some (.fz d)))
  | .tp is, .tup ds, ρ => if ds.length = is.length then some (setAll ρ is (ds.map SV.fz)) else none
  | .tp _, _, _ => none
  | .tn ps, .tup ds, ρ => setC SV.fz ps ds ρ
  | .tn _, _, _ => none
theorem setAllFz {i : Nat} : ∀ (is : List Nat) {ds : List D} {vs : List V} {ρ : RhoS} {σ : L2.St} {A : Nat → List Addr}, StAt K E ρ σ H Hf A → RepAll K Hf ds vs → ds.length = is.length → (∀ i ∈ is, E.pa i = none) → ∃ A', StAt K E (setAll ρ is (ds.map SV.fz)) (setAll σ is vs) H Hf A'
  | [], _, _, _, _, _, s, .nil, _, _ => ⟨_, s⟩
  | i :: is, _, _, _, _, _, s, .cons r t, e, hp => setAllFz (i := i) is (s.setFz r (hp i List.mem_cons_self)) t (by simpa using e) fun j hj => hp j (List.mem_cons_of_mem _ hj)
  | [], _, _, _, _, _, _, .cons _ _, e, _ => by simp at e
  | _ :: _, _, _, _, _, _, _, .nil, e, _ => by simp at e
theorem gComps_runS : ∀ (ps : List (Nat ⊕ List Nat)) {ds : List D} {vs : List V} {ρ ρ' : RhoS} {σ : L2.St} {A : Nat → List Addr} {Q : L2.St → Hp → Prop}, StAt K E ρ σ H Hf A → RepAll K Hf ds vs → setC SV.fz ps ds ρ = some ρ' → (∀ i ∈ slotsC ps, E.pa i = none) →
    (∀ σ' A', StAt K E ρ' σ' H Hf A' → Q σ' H) → gComps K ps vs σ H Q
  | [], _, _, ρ, ρ', σ, A, Q, s, .nil, hs, hp, q => by cases hs; exact ⟨rfl, q σ A s⟩
  | [], _, _, ρ, ρ', σ, A, Q, s, .cons _ _, hs, hp, q => by cases hs
  | .inl i :: ps, _, _, ρ, ρ', σ, A, Q, s, .nil, hs, hp, q => by cases hs
  | .inr is :: ps, _, _, ρ, ρ', σ, A, Q, s, .nil, hs, hp, q => by cases hs
  | .inl i :: ps, _, v :: vs, ρ, ρ', σ, A, Q, s, .cons r t, hs, hp, q => ⟨v, vs, rfl, gComps_runS ps (s.setFz r (hp i (List.mem_cons_self))) t hs (fun j hj => hp j (List.mem_cons_of_mem _ hj)) q⟩
  | .inr is :: ps, d :: ds, v :: vs, ρ, ρ', σ, A, Q, s, .cons r t, hs, hp, q => by
    cases r with
    | @tup a us es h1 k =>
      simp only [setC] at hs
      split at hs
      · rename_i hl
        obtain ⟨A', s'⟩ := setAllFz (i := 0) is s k hl fun j hj => hp j (List.mem_append_left _ hj)
        exact ⟨_, vs, rfl, a, us, rfl, Evl.ex_t s.fh h1, by rw [← k.length]; exact hl, gNames_run is (by rw [← k.length]; exact hl) (gComps_runS ps s' t hs (fun j hj => hp j (List.mem_append_right _ hj)) q)⟩
      · cases hs
    | _ => cases hs
theorem setC_len {α : Type} {f : D → α} : ∀ (ps : List (Nat ⊕ List Nat)) {ds : List D} {ρ ρ' : List (Option α)}, setC f ps ds ρ = some ρ' → ds.length = ps.length
  | [], [], _, _, _ => rfl
  | [], _ :: _, _, _, h => by cases h
  | .inl _ :: _, [], _, _, h => by cases h
  | .inr _ :: _, [], _, _, h => by cases h
  | .inl i :: ps, d :: ds, ρ, ρ', h => congrArg (· + 1) (setC_len ps (ds := ds) h)
  | .inr is :: ps, d :: ds, ρ, ρ', h => by
    cases d <;> simp only [setC] at h <;> first | cases h | skip
    split at h
    · exact congrArg (· + 1) (setC_len ps (ds := ds) h)
    · cases h
theorem Pat.runS {pat : Pat} {ρ' : RhoS} {v : V} (s : StAt K E ρ σ H Hf A) (r : Rep K Hf d v) (hs : pat.setS d ρ = some ρ') (hp : ∀ i ∈ pat.slots, E.pa i = none) {Q : L2.St → Hp → Prop} (q : ∀ σ' A', StAt K E ρ' σ' H Hf A' → Q σ' H) : pat.g K v σ H Q := by
  cases pat with
  | nm i => cases hs; exact q _ _ (s.setFz r (hp i (List.mem_singleton.mpr rfl)))
  | tp is =>
    cases r with
    | tup h1 k =>
      simp only [Pat.setS] at hs
      split at hs
      · rename_i hl
        cases hs
        obtain ⟨A', s'⟩ := setAllFz (i := 0) is s k hl hp
        exact ⟨_, _, rfl, Evl.ex_t s.fh h1, by rw [← k.length]; exact hl, gNames_run is (by rw [← k.length]; exact hl) (q _ _ s')⟩
      · cases hs
    | _ => cases hs
  | tn ps =>
    cases r with
    | tup h1 k => exact ⟨_, _, rfl, Evl.ex_t s.fh h1, by rw [← k.length]; exact setC_len ps hs, gComps_runS ps s k hs hp q⟩
    | _ => cases hs
/-- a, b = e -/
theorem js_pat {pat : Pat} {ρ' : RhoS} (h : J X e (fzR ρ) d) (hset : pat.setS d ρ = some ρ') (hk : Φ (.nx ρ')) (hg : PG X tg (pat.g X.K)) (hp : ∀ i ∈ pat.slots, i ∉ pin := by decide) (hs : swapsWithSole [tg] e pos.line X.env = pure false := by rfl) (hw : swappedStores [tg] e X.env = pure none := by rfl)
    (h1 : (assignEach [tg] X.env).map (·.2) = [assign tg X.env] := by rfl) : JS X pin (.Assign [tg] e pos) ρ Φ := ⟨fun E σ H D hpn ⟨Hf, A, s⟩ k =>
  .of (ps_asg pe_w hg hs hw h1) (h Hf σ H s.fh s.vis _ fun v W' H' st r => Pat.runS (s.step st) r hset (fun i hi => hpn.none (hp i hi)) fun σ' A' s' => k _ hk σ' H' ⟨W', A', s'⟩)⟩

/-! ### a call whose result is known by a property -/
structure JP (X : Cx) (e : Expr) (ρ : Rho) (P : D → Prop) : Prop where
  run : ∀ W σ H, Ex W H → Vis X.K ρ W σ → ∀ Q : VK, (∀ d, P d → GoodE X.K W H d Q) → wE X e σ H Q
instance {X : Cx} {e : Expr} {ρ : Rho} {P : D → Prop} : CoeFun (JP X e ρ P) (fun _ => ∀ W σ H, Ex W H → Vis X.K ρ W σ → ∀ Q : VK, (∀ d, P d → GoodE X.K W H d Q) → wE X e σ H Q) := ⟨JP.run⟩
theorem jp_call {ρ : Rho} {k j n : Nat} {G : List D → (D → Prop) → Prop} {P : D → Prop} (c : PFn X.prog X.w X.K X.mg X.base k x n G) (hr : Room j X.A) (ha : JA X (e :: es) ρ ds) (hG : G ds P) (hk : k ≤ j := by decide) (hn : ds.length = n := by rfl) (hg : Gl X x := by rfl) (hdb : (x == ("__debug__" : Str)) = false := by decide)
    (he : starEach (e :: es) X.env = (false, eval e X.env) :: starEach es X.env := by rfl) (hpl : (backTo pos (starEach es X.env)).any (·.1) = false := by rfl) : JP X (.Call (.Name x p) (e :: es) [] pos) ρ P := ⟨fun W σ H ex hV Q g => by
  obtain ⟨f, fd, ps, F, hm, hkp, hb⟩ := c.ex
  refine .of (pe_call (F.mono hk) hr hg hm hkp hb .nil pass0 pa_w hdb he hpl) (ha W σ H ex hV _ fun vs W1 H1 s1 r1 => ?_)
  rw [List.append_nil]
  exact ⟨by rw [← r1.length]; exact hn, W1, ds, P, s1.wh, r1, hG, fun d' hd => (g d' hd).step s1⟩⟩
theorem js_setP {P : D → Prop} (h : JP X e (fzR ρ) P) (hk : ∀ d, P d → Φ (.nx (ρ.set i (some (.fz d))))) (hN : X.N.Nodup) (hi : X.N[i]? = some x := by rfl) (hx : Loc X.env.scope x := by first | exact Or.inl rfl | exact Or.inr rfl) (hp : i ∉ pin := by decide) (hs : swapsWith e (some (.Name x p')) pos.line X.env = pure false := by rfl)
    (hf : X.fn x = true ∨ X.env.scope.names.lookup x = some .local := by first | exact .inl rfl | exact .inr rfl) : JS X pin (.Assign [.Name x p'] e pos) ρ Φ := ⟨fun E σ H D hpn ⟨Hf, A, s⟩ k =>
  .of (ps_set hN hi hx pe_w hs hf) (h Hf σ H s.fh s.vis _ fun d hd v W' H' st r => k _ (hk d hd) _ H' ⟨W', _, (s.step st).setFz r (hpn.none hp)⟩)⟩
theorem js_patP {pat : Pat} {P : D → Prop} (h : JP X e (fzR ρ) P) (hk : ∀ d, P d → ∃ ρ', pat.setS d ρ = some ρ' ∧ Φ (.nx ρ')) (hg : PG X tg (pat.g X.K)) (hp : ∀ i ∈ pat.slots, i ∉ pin := by decide) (hs : swapsWithSole [tg] e pos.line X.env = pure false := by rfl) (hw : swappedStores [tg] e X.env = pure none := by rfl)
    (h1 : (assignEach [tg] X.env).map (·.2) = [assign tg X.env] := by rfl) : JS X pin (.Assign [tg] e pos) ρ Φ := ⟨fun E σ H D hpn ⟨Hf, A, s⟩ k =>
  .of (ps_asg pe_w hg hs hw h1) (h Hf σ H s.fh s.vis _ fun d hd v W' H' st r => by
    obtain ⟨ρ', h1, h2⟩ := hk d hd
    exact Pat.runS (s.step st) r h1 (fun i hi => hpn.none (hp i hi)) fun σ' A' s' => k _ h2 σ' H' ⟨W', A', s'⟩)⟩

/-! ### loops -/
theorem StAt.base {W1 : Hp} (s : StAt K { E with W0 := W1 } ρ σ H Hf A) (e : Ex E.W0 W1) (f : Fr E.W0 W1 E.H0) : StAt K E ρ σ H Hf A :=
  ⟨s.len, e.trans s.w0, s.fh, fun b h1 h2 => by
    by_cases z : W1 b = none
    · exact s.fr b h1 z
    · exact f b z h2, s.hh, s.kp, s.sl, s.ap, s.dj, s.pn⟩
theorem StAt.rebase (s : StAt K E ρ σ H Hf A) : StAt K { E with W0 := Hf } ρ σ H Hf A :=
  ⟨s.len, .refl _, s.fh, fun b h1 h2 => absurd h2 h1, s.hh, s.kp, s.sl, s.ap, s.dj, s.pn⟩
theorem RtOk.base {W1 : Hp} {v : V} (s : RtOk K { E with W0 := W1 } d ρ v H) (e : Ex E.W0 W1) (f : Fr E.W0 W1 E.H0) : RtOk K E d ρ v H := by
  obtain ⟨σ, Hf, A, W', s, h1, h2, h3, h4, h5⟩ := s
  exact ⟨σ, Hf, A, W', s.base e f, h1, h2, fun b q1 q2 => by
    by_cases z : W1 b = none
    · exact h3 b q1 z
    · exact f b z q2, h4, h5⟩
/-- what a turn's outcome must be -/
def turnO (I : RhoS → Prop) (Φ : Out → Prop) : Out → Prop
  | .nx ρ => I ρ
  | .ct ρ => I ρ
  | .bk ρ => Φ (.nx ρ)
  | .rt d ρ => Φ (.rt d ρ)
  | .ex er ρ => Φ (.ex er ρ)
/-- what is walked, known by a property -/
structure JIP (X : Cx) (tg iter : Expr) (ρ : Rho) (Pd : List D → Prop) : Prop where
  run : ∀ W σ H, Ex W H → Vis X.K ρ W σ → ∀ R : It → Hp → Prop, (∀ ds, Pd ds → ∀ J W1 H1, Step W H W1 H1 → Walks X.K J W1 ds → R J H1) → wI X tg iter σ H R
instance {X : Cx} {tg iter : Expr} {ρ : Rho} {Pd : List D → Prop} : CoeFun (JIP X tg iter ρ Pd) (fun _ => ∀ W σ H, Ex W H → Vis X.K ρ W σ → ∀ R : It → Hp → Prop, (∀ ds, Pd ds → ∀ J W1 H1, Step W H W1 H1 → Walks X.K J W1 ds → R J H1) → wI X tg iter σ H R) := ⟨JIP.run⟩
theorem jip_of {ρ : Rho} (h : JI X tg iter ρ ds) : JIP X tg iter ρ (fun es => es = ds) := ⟨fun W σ H ex hV R g => h W σ H ex hV R (g ds rfl)⟩
theorem js_forP {pat : Pat} {Pd : List D → Prop} (I : List D → Nat → RhoS → Prop) (hi : JIP X tg iter (fzR ρ) Pd) (hg : PG X tg (pat.g X.K)) (h0 : ∀ ds, Pd ds → I ds 0 ρ)
    (turn : ∀ ds, Pd ds → ∀ k d ρ, ds[k]? = some d → I ds k ρ → ∃ ρ', pat.setS d ρ = some ρ' ∧ JSs X pin body ρ' (turnO (I ds (k + 1)) Φ)) (done : ∀ ds, Pd ds → ∀ ρ, I ds ds.length ρ → Φ (.nx ρ)) (hps : PassesOwn (model X.prog X.w) X.A X.env X.xe) (hp : ∀ i ∈ pat.slots, i ∉ pin := by decide) (hc : X.calm = true := by rfl) (hfs : ∀ x, foldedSetIterable iter X.env x = pure x := by intro _; rfl) :
    JS X pin (.For tg iter body [] pos) ρ Φ := ⟨fun E σ H D hpn ⟨Hf, A, s⟩ k => by
  refine .of (ps_for hps hc pi_w hg pss_w hfs) (hi Hf σ H s.fh s.vis _ fun ds hds Jt W1 H1 st wk => ?_)
  have s1 := s.step st
  have e1 : Ex E.W0 W1 := s1.w0
  have f1 : Fr E.W0 W1 E.H0 := s1.fr
  refine ⟨fun i m σ' H' => m = ds.length - i ∧ i ≤ ds.length ∧ ∃ ρ', I ds i ρ' ∧ StOk X.K { E with W0 := W1 } ρ' σ' H', ⟨_, rfl, Nat.zero_le _, ρ, h0 ds hds, _, _, s1.rebase⟩, ?_⟩
  rintro i m σ2 H2 ⟨rfl, hil, ρ2, hI, Hf2, A2, s2⟩
  by_cases hlt : i < ds.length
  · refine .inr ⟨wk.go i H2 (s2.w0.trans s2.fh) hlt, _, fun σ' H' z => ⟨_, (by omega : ds.length - (i + 1) < ds.length - i), rfl, hlt, z⟩, fun x H3 hy => ?_⟩
    obtain ⟨d, hd⟩ : ∃ d, ds[i]? = some d := ⟨ds[i], by simp [hlt]⟩
    obtain ⟨W3, st3, rx⟩ := wk.yld i H2 x H3 d (s2.w0.trans s2.fh) hd hy Hf2 s2.w0 s2.fh
    obtain ⟨ρ3, hset, hb⟩ := turn ds hds i d ρ2 hd hI
    refine Pat.runS (s2.step st3) rx hset (fun j hj => hpn.none (hp j hj)) fun σ4 A4 s4 => hb { E with W0 := W1 } σ4 H3 _ hpn ⟨W3, A4, s4⟩ fun o ho => ?_
    cases o with
    | nx ρ' => exact fun σ' H' s' => ⟨ρ', ho, s'⟩
    | ct ρ' => exact fun σ' H' s' => ⟨ρ', ho, s'⟩
    | bk ρ' => exact fun σ' H' ⟨Hf', A', s'⟩ => k _ ho σ' H' ⟨Hf', A', s'.base e1 f1⟩
    | rt d ρ' => exact fun v H' s' => k _ ho v H' (s'.base e1 f1)
    | ex er ρ' =>
      obtain ⟨Wx, tk, q⟩ := k _ ho
      exact ⟨Wx, tk, fun d σ' H' H2' ⟨Hf', A', s'⟩ => q d σ' H' H2' ⟨Hf', A', s'.base e1 f1⟩⟩
  · have e : i = ds.length := by omega
    subst e
    exact .inl ⟨wk.stop H2 (s2.w0.trans s2.fh), k _ (done ds hds _ hI) σ2 H2 ⟨Hf2, A2, s2.base e1 f1⟩⟩⟩
theorem js_for {pat : Pat} (I : Nat → RhoS → Prop) (hi : JI X tg iter (fzR ρ) ds) (hg : PG X tg (pat.g X.K)) (h0 : I 0 ρ)
    (turn : ∀ k d ρ, ds[k]? = some d → I k ρ → ∃ ρ', pat.setS d ρ = some ρ' ∧ JSs X pin body ρ' (turnO (I (k + 1)) Φ)) (done : ∀ ρ, I ds.length ρ → Φ (.nx ρ)) (hps : PassesOwn (model X.prog X.w) X.A X.env X.xe) (hp : ∀ i ∈ pat.slots, i ∉ pin := by decide) (hc : X.calm = true := by rfl) (hfs : ∀ x, foldedSetIterable iter X.env x = pure x := by intro _; rfl) :
    JS X pin (.For tg iter body [] pos) ρ Φ :=
  js_forP (fun _ k ρ => I k ρ) (jip_of hi) hg (fun _ _ => h0) (fun es e k d ρ hd => turn k d ρ (e ▸ hd)) (fun es e ρ h => done ρ (e ▸ h)) hps hp hc hfs
/-- a list that a call hands back, walked -/
theorem jip_call {ρ : Rho} {P : D → Prop} {Pd : List D → Prop} (h : JP X iter ρ P) (hP : ∀ d, P d → ∃ ds, d = .lst ds ∧ Pd ds) : JIP X tg iter ρ Pd := ⟨fun W σ H ex hV R g => .of (pi_list pe_w) (h W σ H ex hV _ fun d hd v W1 H1 s1 r1 => by
  obtain ⟨ds, rfl, hds⟩ := hP d hd
  cases r1 with
  | lst h1 k => exact ⟨_, rfl, ⟨_, SqL.of (s1.wh _ _ h1)⟩, g ds hds _ W1 H1 s1 (walks_list h1 k)⟩)⟩
theorem js_while (I : RhoS → Prop) (μ : RhoS → Nat) (h0 : I ρ)
    (turn : ∀ ρ, I ρ → ∃ t, JT X c (allR ρ) t ∧ (t = true → JSs X pin body ρ (turnO (fun ρ' => I ρ' ∧ μ ρ' < μ ρ) Φ)) ∧ (t = false → Φ (.nx ρ))) (hps : PassesOwn (model X.prog X.w) X.A X.env X.xe) :
    JS X pin (.While c body [] pos) ρ Φ := ⟨fun E σ H D hpn s0 k => by
  refine .of (ps_while hps pt_w pss_w) ⟨fun m σ' H' => ∃ ρ', m = μ ρ' ∧ I ρ' ∧ StOk X.K E ρ' σ' H', ⟨_, ρ, rfl, h0, s0⟩, ?_⟩
  rintro m σ2 H2 ⟨ρ2, rfl, hI, Hf2, A2, s2⟩
  obtain ⟨t, ht, h1, h2⟩ := turn ρ2 hI
  refine ht H2 σ2 H2 (.refl _) s2.visH _ fun W' H' st => ?_
  have s3 := s2.grow st.hh
  cases t with
  | false => rw [if_neg Bool.false_ne_true]; exact k _ (h2 rfl) σ2 H' ⟨Hf2, A2, s3⟩
  | true =>
    rw [if_pos rfl]
    refine ⟨_, fun σ' H' z => z, h1 rfl E σ2 H' _ hpn ⟨Hf2, A2, s3⟩ fun o ho => ?_⟩
    cases o with
    | nx ρ' => exact fun σ' H' s' => ⟨μ ρ', ho.2, ρ', rfl, ho.1, s'⟩
    | ct ρ' => exact fun σ' H' s' => ⟨μ ρ', ho.2, ρ', rfl, ho.1, s'⟩
    | bk ρ' => exact fun σ' H' s' => k _ ho σ' H' s'
    | rt d ρ' => exact fun v H' s' => k _ ho v H' s'
    | ex er ρ' => exact k _ ho⟩
/-! ### x += e of ints -/
theorem js_augAdd {m n : Int} (hi : ρ[i]? = some (some (.fz (.int m)))) (h : J X e (fzR ρ) (.int n)) (hk : Φ (.nx (ρ.set i (some (.fz (.int (m + n))))))) (hN : X.N.Nodup) (hx : X.N[i]? = some x := by rfl) (hl : Loc X.env.scope x := by first | exact Or.inl rfl | exact Or.inr rfl) (hp : i ∉ pin := by decide)
    (hf : X.fn x = true ∨ X.env.scope.names.lookup x = some .local := by first | exact .inl rfl | exact .inr rfl) : JS X pin (.AugAssign (.Name x p') .Add e pos) ρ Φ := ⟨fun E σ H D hpn ⟨Hf, A, s⟩ k => by
  obtain ⟨v, hσ, r⟩ := s.sl i _ hi
  cases r
  refine .of (ps_aug hN hx hl pe_w ip_add hf) ⟨_, hσ, h Hf σ H s.fh s.vis _ fun y W' H' st r => ?_⟩
  cases r
  exact ⟨m, n, rfl, rfl, k _ hk _ H' ⟨W', _, (s.step st).setFz (.int _) (hpn.none hp)⟩⟩⟩
end

/-! ### a def keeps its promise -/
def startR (N : List Str) (ds : List D) : RhoS := ds.map (fun d => some (.fz d)) ++ List.replicate (N.length - ds.length) none
theorem start_ok {K : PySem.W.Frag} {W H : Hp} {N : List Str} {ds : List D} {vs : List V} (ex : Ex W H) (r : RepAll K W ds vs) : StAt K ⟨W, H, fun _ => False, fun _ => none⟩ (startR N ds) (L2.start N vs) H W (fun _ => []) where
  len := by unfold startR L2.start; simp [r.length]
  w0 := .refl _
  fh := ex
  fr := fun b h1 h2 => absurd h2 h1
  hh := fun b o h _ => h
  kp := fun b h => h
  sl := fun i sv h => by
    unfold startR at h
    by_cases hi : i < ds.length
    · rw [List.getElem?_append_left (by simpa using hi), List.getElem?_map] at h
      cases e : ds[i]? with
      | none => rw [e] at h; cases h
      | some d =>
        rw [e] at h; cases h
        obtain ⟨v, h1, h2⟩ := r.get e
        refine ⟨v, ?_, h2⟩
        unfold L2.start
        rw [List.getElem?_append_left (by rw [List.length_map, ← r.length]; exact hi), List.getElem?_map, h1]
        rfl
    · rw [List.getElem?_append_right (by simpa using hi), List.getElem?_replicate] at h
      split at h <;> cases h
  ap := fun i a h => absurd h (by simp)
  dj := fun i j a h => absurd h (by simp)
  pn := fun i a h => by cases h
section
variable {P : Program} {w : World} {K : PySem.W.Frag} {mg : Str → Option Value} {base : Heap} {x qual : Str} {st : Stmt} {f : Addr} {fd : FuncData} {N ps : List Str} {k : Nat} {G : List D → (D → Prop) → Prop}
/-- the end of a def's body -/
def fin (Pd : D → Prop) : Out → Prop
  | .rt d _ => Pd d
  | .nx _ => Pd .non
  | _ => False
theorem fn_pure (F : Fun K x qual st f fd) (S : FnScope N ps (defScope st)) (hG : ∀ ds Pd, G ds Pd → ds.length = ps.length)
    (body : ∀ (cdv : Value) (A : Around) (outer : List Env) (s : Shared) (H : Hp) (E : XK) (ds : List D) (Pd : D → Prop), Room k (A.deeper (envOfC qual (defScope st) s.heap.objs.size f cdv)) → G ds Pd →
      JSs (cxOf CX0 P w K mg base N qual (defScope st) f cdv A outer s H E).nox [] (defBody st) (startR N ds) (fin Pd)) : FnOk P w K mg base CX0 (k + 1) f fd ps (spP K ps.length G) := by
  refine F.ok S (fun vs H Q E h => h.1) fun cdv A outer s H vs Q E hr h => ?_
  obtain ⟨_, W, ds, Pd, ex, r, hg, q⟩ := h
  refine ⟨_, pss_w, ?_⟩
  refine body cdv A outer s H E ds Pd hr hg ⟨W, H, fun _ => False, fun _ => none⟩ (L2.start N vs) H _ (fun i => ⟨fun z => absurd rfl z, fun z => absurd z (by simp)⟩) ⟨W, _, start_ok ex r⟩ fun o ho => ?_
  cases o with
  | nx ρ => exact fun σ' H' ⟨Hf, A', s'⟩ => q _ ho .non Hf H' ⟨s'.w0, s'.fh, fun b o h => s'.hh b o h (fun z => z), s'.fr⟩ .non
  | rt d ρ => exact fun v H' ⟨σ', Hf, A', W', s', h1, h2, h3, _, h5⟩ => q _ ho v W' H' ⟨s'.w0.trans h1, h2, fun b o h => s'.hh b o h (fun z => z), h3⟩ h5
  | bk ρ => exact ho.elim
  | ct ρ => exact ho.elim
  | ex er ρ => exact ho.elim
end
end Pf

namespace Pf
open PySem PyProof.Rows L2
open Evl (Ex)

/-! ### fields -/
theorem lookup_rep {K : PySem.W.Frag} {H : Hp} {f : Str} : ∀ {fds : List (Str × D)} {fs : List (Str × V)}, fs.map (·.1) = fds.map (·.1) → RepAll K H (fds.map (·.2)) (fs.map (·.2)) → ∀ {d : D}, fds.lookup f = some d → ∃ v, fs.lookup f = some v ∧ Rep K H d v
  | [], _, _, _, _, h => by cases h
  | (g, d') :: fds, [], hn, _, _, _ => by cases hn
  | (g, d') :: fds, (g', v') :: fs, hn, hr, d, h => by
    simp only [List.map_cons, List.cons.injEq] at hn
    obtain ⟨rfl, hn⟩ := hn
    cases hr with
    | cons r t =>
      rw [List.lookup_cons] at h ⊢
      by_cases e : (f == g') = true
      · rw [e] at h ⊢; cases h; exact ⟨v', rfl, r⟩
      · have e' : (f == g') = false := by simpa using e
        rw [e'] at h ⊢
        exact lookup_rep hn t h
theorem lookup_none {f : Str} : ∀ {fds : List (Str × D)} {fs : List (Str × V)}, fs.map (·.1) = fds.map (·.1) → fds.lookup f = none → fs.lookup f = none
  | [], [], _, _ => rfl
  | [], _ :: _, h, _ => by cases h
  | (g, d') :: fds, [], hn, _ => by cases hn
  | (g, d') :: fds, (g', v') :: fs, hn, h => by
    simp only [List.map_cons, List.cons.injEq] at hn
    obtain ⟨rfl, hn⟩ := hn
    rw [List.lookup_cons] at h ⊢
    by_cases e : (f == g') = true
    · rw [e] at h; cases h
    · have e' : (f == g') = false := by simpa using e
      rw [e'] at h ⊢
      exact lookup_none hn h
section
variable {X : Cx} {pin : List Nat} {e a o : Expr} {es : List Expr} {ρ : Rho} {d : D} {ds : List D} {C : Addr} {fds : List (Str × D)} {pos p apos : Pos} {f m : Str} {k j n i : Nat}
theorem j_fld (h : J X a ρ (.ins C fds)) (hf : fds.lookup f = some d) (c : Cls X.K C) (hn : NoAttr X.K C f) (hb : attributeBase a f X.env (eval a X.env) = eval a X.env := by rfl) : J X (.Attribute a f pos) ρ d := ⟨fun W σ H ex hV Q g =>
  .of (pe_fld pe_w hb) (h W σ H ex hV _ fun v W1 H1 s1 r1 => by
    cases r1 with
    | ins h1 h2 h3 =>
      obtain ⟨v, e1, e2⟩ := lookup_rep h2 h3 hf
      exact ⟨_, C, _, _, v, rfl, s1.wh _ _ h1, c, hn, e1, g _ W1 H1 s1 e2⟩)⟩
/-- a method that reads only -/
structure PMeth (P : Program) (w : World) (K : PySem.W.Frag) (mg : Str → Option Value) (base : Heap) (k : Nat) (C : Addr) (m : Str) (n : Nat) (G : List D → (D → Prop) → Prop) : Prop where
  ex : ∃ f fd ps, FnOk P w K mg base CX0 k f fd ps (spP K n G) ∧ Meth K C m f ∧ Binds K fd ps []
theorem j_meth {pl : Sem Bool} {G : List D → (D → Prop) → Prop} {P : D → Prop} (c : PMeth X.prog X.w X.K X.mg X.base k C m n G) (cl : Cls X.K C) (hr : Room j X.A) (h : J X o ρ (.ins C fds)) (hm : fds.lookup m = none) (ha : JA X (e :: es) ρ ds) (hG : G (.ins C fds :: ds) P) (hP : ∀ d', P d' → d' = d) (hk : k ≤ j := by decide) (hn : ds.length + 1 = n := by rfl)
    (hst : starEach (e :: es) X.env = (false, eval e X.env) :: starEach es X.env := by rfl) (hpl : (backTo pos (starEach es X.env)).any (·.1) = false := by rfl)
    (ht : eval (.Call (.Attribute o m apos) (e :: es) [] pos) X.env = (do
      let ov ← eval o X.env
      standAt apos.atName
      let (f, first) ← holding [ov] (getMethod ov m pl)
      callWith pos f first (backTo pos (starEach (e :: es) X.env)) (backToKw pos (keywordEach [] X.env))) := by rfl) : J X (.Call (.Attribute o m apos) (e :: es) [] pos) ρ d := ⟨fun W σ H ex hV Q g => by
  obtain ⟨f, fd, ps, F, hme, hb⟩ := c.ex
  refine .of (pe_meth pe_w cl hme (F.mono hk) hr hb .nil pass0 pa_w hst hpl ht) (h W σ H ex hV _ fun v W1 H1 s1 r1 => ?_)
  have r1' := r1
  cases r1 with
  | ins h1 h2 h3 =>
    refine ⟨_, _, _, rfl, s1.wh _ _ h1, lookup_none h2 hm, ?_⟩
    refine ha W1 σ H1 s1.wh (hV.mono s1.ww) _ fun vs W2 H2 s2 r2 => ?_
    rw [List.append_nil]
    exact ⟨by rw [List.length_cons, ← r2.length]; exact hn, W2, _, P, s2.wh, .cons (r1'.mono s2.ww) r2, hG, fun d' hd => by rw [hP d' hd]; exact g.step (s1.trans s2)⟩⟩
end

/-! ### defs that change their first argument -/
/-- behind the call -/
structure Aft (K : PySem.W.Frag) (W H : Hp) (A : List Addr) (a : Addr) (d' : D) (W' H' : Hp) (A' : List Addr) : Prop where
  ww : Ex W W'
  wh : Ex W' H'
  hh : ∀ b o, H b = some o → b ∉ A → H' b = some o
  kp : ∀ b, H' b = none → H b = none
  fr : Fr W W' H
  ow : Own K W' H' d' (.ref a) A'
  ne : A' ≠ []
  ap : ∀ b ∈ A', W' b = none ∧ H' b ≠ none ∧ (b ∈ A ∨ H b = none)
def spM (K : PySem.W.Frag) (n : Nat) (G : D → List D → (D → D → Prop) → Prop) : Sp := fun vs H Q _ => vs.length = n ∧ ∃ (a : Addr) (W : Hp) (d : D) (A : List Addr) (us : List V) (ds : List D) (P : D → D → Prop),
  vs = .ref a :: us ∧ Ex W H ∧ Own K W H d (.ref a) A ∧ A ≠ [] ∧ (∀ b ∈ A, W b = none ∧ H b ≠ none) ∧ RepAll K W ds us ∧ G d ds P ∧ ∀ r d', P r d' → ∀ v W' H' A', Aft K W H A a d' W' H' A' → Rep K W' r v → Q v H'
section
variable {P : Program} {w : World} {K : PySem.W.Frag} {mg : Str → Option Value} {base : Heap} {x qual : Str} {st : Stmt} {f : Addr} {fd : FuncData} {N ps : List Str} {k : Nat} {G : D → List D → (D → D → Prop) → Prop}
def startM (N : List Str) (d : D) (ds : List D) : RhoS := some (.ow d) :: (ds.map (fun d => some (.fz d)) ++ List.replicate (N.length - (ds.length + 1)) none)
def finM (Pd : D → D → Prop) : Out → Prop
  | .rt r ρ => ∃ d', ρ[0]? = some (some (.ow d')) ∧ Pd r d'
  | .nx ρ => ∃ d', ρ[0]? = some (some (.ow d')) ∧ Pd .non d'
  | _ => False
theorem startM_ok {W H : Hp} {N : List Str} {d : D} {ds : List D} {us : List V} {a : Addr} {A : List Addr} (ex : Ex W H) (ow : Own K W H d (.ref a) A) (ne : A ≠ []) (hA : ∀ b ∈ A, W b = none ∧ H b ≠ none) (r : RepAll K W ds us) :
    StAt K ⟨W, H, fun b => b ∈ A, fun i => if i = 0 then some a else none⟩ (startM N d ds) (L2.start N (.ref a :: us)) H W (fun i => if i = 0 then A else []) where
  len := by unfold startM L2.start; simp [r.length]
  w0 := .refl _
  fh := ex
  fr := fun b h1 h2 => absurd h2 h1
  hh := fun b o h _ => h
  kp := fun b h => h
  sl := fun i sv h => by
    cases i with
    | zero => cases h; exact ⟨.ref a, rfl, ow, ne⟩
    | succ i =>
      unfold startM at h
      rw [List.getElem?_cons_succ] at h
      by_cases hi : i < ds.length
      · rw [List.getElem?_append_left (by simpa using hi), List.getElem?_map] at h
        cases e : ds[i]? with
        | none => rw [e] at h; cases h
        | some d =>
          rw [e] at h; cases h
          obtain ⟨v, h1, h2⟩ := r.get e
          refine ⟨v, ?_, h2⟩
          unfold L2.start
          rw [List.map_cons, List.cons_append, List.getElem?_cons_succ, List.getElem?_append_left (by rw [List.length_map, ← r.length]; exact hi), List.getElem?_map, h1]
          rfl
      · rw [List.getElem?_append_right (by simpa using hi), List.getElem?_replicate] at h
        split at h <;> cases h
  ap := fun i b h => by
    by_cases hi : i = 0
    · rw [if_pos hi] at h
      exact ⟨(hA b h).1, (hA b h).2, .inr ⟨h, by simp [hi]⟩⟩
    · rw [if_neg hi] at h; exact absurd h (by simp)
  dj := fun i j b h1 h2 => by
    by_cases hi : i = 0
    · by_cases hj : j = 0
      · rw [hi, hj]
      · rw [if_neg hj] at h2; exact absurd h2 (by simp)
    · rw [if_neg hi] at h1; exact absurd h1 (by simp)
  pn := fun i b h => by
    dsimp only at h
    split at h
    · rename_i hi
      cases h; subst hi; rfl
    · cases h
theorem fn_meth (F : Fun K x qual st f fd) (S : FnScope N ps (defScope st)) (hG : ∀ d ds Pd, G d ds Pd → ds.length + 1 = ps.length)
    (body : ∀ (cdv : Value) (A : Around) (outer : List Env) (s : Shared) (H : Hp) (E : XK) (d : D) (ds : List D) (Pd : D → D → Prop), Room k (A.deeper (envOfC qual (defScope st) s.heap.objs.size f cdv)) → G d ds Pd →
      JSs (cxOf CX0 P w K mg base N qual (defScope st) f cdv A outer s H E).nox [0] (defBody st) (startM N d ds) (finM Pd)) : FnOk P w K mg base CX0 (k + 1) f fd ps (spM K ps.length G) := by
  refine F.ok S (fun vs H Q E h => h.1) fun cdv A outer s H vs Q E hr h => ?_
  obtain ⟨_, a, W, d, Ad, us, ds, Pd, rfl, ex, ow, ne, hA, r, hg, q⟩ := h
  refine ⟨_, pss_w, ?_⟩
  have fin : ∀ {ρ : RhoS} {σ : L2.St} {H' Hf W' : Hp} {A' : Nat → List Addr} {d' : D} {r : D} {v : V}, StAt K ⟨W, H, fun b => b ∈ Ad, fun i => if i = 0 then some a else none⟩ ρ σ H' Hf A' → Ex Hf W' → Ex W' H' → Fr W W' H → (∀ i b, b ∈ A' i → (if i = 0 then some a else none) ≠ (none : Option Addr) → W' b = none) → ρ[0]? = some (some (.ow d')) → Pd r d' → Rep K W' r v → Q v H' := by
    intro ρ σ H' Hf W' A' d' r v s' e1 e2 e3 e4 h0 hp hr
    obtain ⟨u, q1, q2, q3⟩ := s'.sl 0 _ h0
    have := s'.pn 0 a (by simp)
    rw [q1] at this
    cases this
    refine q r d' hp v W' H' (A' 0) ⟨s'.w0.trans e1, e2, fun b o h1 h2 => s'.hh b o h1 h2, s'.kp, e3, q2.move e1 (fun _ _ => rfl), q3, fun b hb => ?_⟩ hr
    obtain ⟨k1, k2, k3⟩ := s'.ap 0 b hb
    exact ⟨e4 0 b hb (by simp), k2, k3.elim .inr fun z => .inl z.1⟩
  refine body cdv A outer s H E d ds Pd hr hg ⟨W, H, fun b => b ∈ Ad, fun i => if i = 0 then some a else none⟩ (L2.start N (.ref a :: us)) H _ (fun i => by
    dsimp only
    by_cases hi : i = 0 <;> simp [hi]) ⟨W, _, startM_ok ex ow ne hA r⟩ fun o ho => ?_
  cases o with
  | nx ρ =>
    obtain ⟨d', h0, hp⟩ := ho
    exact fun σ' H' ⟨Hf, A', s'⟩ => fin s' (.refl _) s'.fh s'.fr (fun i b hb _ => (s'.ap i b hb).1) h0 hp .non
  | rt r ρ =>
    obtain ⟨d', h0, hp⟩ := ho
    exact fun v H' ⟨σ', Hf, A', W', s', h1, h2, h3, h4, h5⟩ => fin s' h1 h2 h3 h4 h0 hp h5
  | bk ρ => exact ho.elim
  | ct ρ => exact ho.elim
  | ex er ρ => exact ho.elim
end

/-! ### expressions that change a slot's object -/
structure JM (X : Cx) (pin : List Nat) (e : Expr) (ρ : RhoS) (Ψ : D → RhoS → Prop) : Prop where
  run : ∀ (E : Ent) σ H, E.Pins pin → StOk X.K E ρ σ H → ∀ Q : VK, (∀ r ρ', Ψ r ρ' → ∀ v H' Hf A, StAt X.K E ρ' σ H' Hf A → Rep X.K Hf r v → Q v H') → wE X e σ H Q
instance {X : Cx} {pin : List Nat} {e : Expr} {ρ : RhoS} {Ψ : D → RhoS → Prop} : CoeFun (JM X pin e ρ Ψ) (fun _ => ∀ (E : Ent) σ H, E.Pins pin → StOk X.K E ρ σ H → ∀ Q : VK, (∀ r ρ', Ψ r ρ' → ∀ v H' Hf A, StAt X.K E ρ' σ H' Hf A → Rep X.K Hf r v → Q v H') → wE X e σ H Q) := ⟨JM.run⟩
structure JTM (X : Cx) (pin : List Nat) (e : Expr) (ρ : RhoS) (Ψ : Bool → RhoS → Prop) : Prop where
  run : ∀ (E : Ent) σ H, E.Pins pin → StOk X.K E ρ σ H → ∀ Q : Bool → Hp → Prop, (∀ r ρ', Ψ r ρ' → ∀ H', StOk X.K E ρ' σ H' → Q r H') → wT X e σ H Q
instance {X : Cx} {pin : List Nat} {e : Expr} {ρ : RhoS} {Ψ : Bool → RhoS → Prop} : CoeFun (JTM X pin e ρ Ψ) (fun _ => ∀ (E : Ent) σ H, E.Pins pin → StOk X.K E ρ σ H → ∀ Q : Bool → Hp → Prop, (∀ r ρ', Ψ r ρ' → ∀ H', StOk X.K E ρ' σ H' → Q r H') → wT X e σ H Q) := ⟨JTM.run⟩
structure MMeth (P : Program) (w : World) (K : PySem.W.Frag) (mg : Str → Option Value) (base : Heap) (k : Nat) (C : Addr) (m : Str) (n : Nat) (G : D → List D → (D → D → Prop) → Prop) : Prop where
  ex : ∃ f fd ps, FnOk P w K mg base CX0 k f fd ps (spM K n G) ∧ Meth K C m f ∧ Binds K fd ps []
structure MFn (P : Program) (w : World) (K : PySem.W.Frag) (mg : Str → Option Value) (base : Heap) (k : Nat) (x : Str) (n : Nat) (G : D → List D → (D → D → Prop) → Prop) : Prop where
  ex : ∃ f fd ps, FnOk P w K mg base CX0 k f fd ps (spM K n G) ∧ mg x = some (.ref f) ∧ PySem.W.keepIn K (.ref f) = true ∧ Binds K fd ps []
section
variable {X : Cx} {pin : List Nat} {e a o c : Expr} {es sa sb : List Expr} {ρ : RhoS} {d : D} {ds : List D} {C : Addr} {fds : List (Str × D)} {pos p p1 p' apos : Pos} {f m x : Str} {k j n i : Nat} {G : D → List D → (D → D → Prop) → Prop} {P : D → D → Prop} {Φ : Out → Prop}
theorem StAt.after {K : PySem.W.Frag} {E : Ent} {σ : L2.St} {H Hf W' H' : Hp} {A : Nat → List Addr} {A' : List Addr} {ad : Addr} {d' : D} (s : StAt K E ρ σ H Hf A) (hi : ρ[i]? = some (some (.ow d))) (hv : σ[i]? = some (some (.ref ad))) (t : Aft K Hf H (A i) ad d' W' H' A') :
    StAt K E (ρ.set i (some (.ow d'))) σ H' W' (fun j => if j = i then A' else A j) where
  len := by rw [List.length_set]; exact s.len
  w0 := s.w0.trans t.ww
  fh := t.wh
  fr := fun b h1 h2 => by
    by_cases e : Hf b = none
    · exact s.kp b (t.fr b h1 e)
    · exact s.fr b e h2
  hh := fun b o h1 h2 => t.hh b o (s.hh b o h1 h2) fun hb => by
    rcases (s.ap i b hb).2.2 with z | z
    · rw [h1] at z; cases z
    · exact h2 z.1
  kp := fun b h => s.kp b (t.kp b h)
  sl := fun j sv h => by
    by_cases hj : i = j
    · subst hj
      have hl : i < ρ.length := (List.getElem?_eq_some_iff.mp hi).1
      rw [List.getElem?_set_self hl] at h; cases h
      exact ⟨_, hv, by dsimp only; rw [if_pos rfl]; exact ⟨t.ow, t.ne⟩⟩
    · rw [List.getElem?_set_ne hj] at h
      rw [if_neg (fun z => hj z.symm)]
      obtain ⟨v, e1, e2⟩ := s.sl j sv h
      refine ⟨v, e1, ?_⟩
      cases sv with
      | fz d => exact Rep.mono t.ww e2
      | ow d =>
        refine ⟨Own.move e2.1 t.ww fun b hb => ?_, e2.2⟩
        have h2 := (s.ap j b hb).2.1
        cases q : H b with
        | none => exact absurd q h2
        | some o => exact t.hh b o q fun z => hj (s.dj _ _ _ z hb)
  ap := fun j b hb => by
    by_cases hj : j = i
    · rw [if_pos hj] at hb
      obtain ⟨k1, k2, k3⟩ := t.ap b hb
      refine ⟨k1, k2, ?_⟩
      rcases k3 with z | z
      · rw [hj]; exact (s.ap i b z).2.2
      · exact .inl (s.kp b z)
    · rw [if_neg hj] at hb
      obtain ⟨k1, k2, k3⟩ := s.ap j b hb
      refine ⟨?_, fun z => k2 (t.kp b z), k3⟩
      cases q : W' b with
      | none => rfl
      | some o => exact absurd (t.fr b (by rw [q]; simp) k1) k2
  dj := fun j k b h1 h2 => by
    by_cases hj : j = i
    · by_cases hk : k = i
      · rw [hj, hk]
      · rw [if_pos hj] at h1; rw [if_neg hk] at h2
        rcases (t.ap b h1).2.2 with z | z
        · rw [hj]; exact s.dj _ _ _ z h2
        · exact absurd z (s.ap k b h2).2.1
    · by_cases hk : k = i
      · rw [if_neg hj] at h1; rw [if_pos hk] at h2
        rcases (t.ap b h2).2.2 with z | z
        · rw [hk]; exact s.dj _ _ _ h1 z
        · exact absurd z (s.ap j b h1).2.1
      · rw [if_neg hj] at h1; rw [if_neg hk] at h2; exact s.dj j k b h1 h2
  pn := s.pn
/-- x.m(e, ..), x in the slot i -/
theorem jm_meth {pl : Sem Bool} (M : MMeth X.prog X.w X.K X.mg X.base k C m n G) (cl : Cls X.K C) (hr : Room j X.A) (hi : ρ[i]? = some (some (.ow (.ins C fds)))) (hm : fds.lookup m = none) (ha : JA X (e :: es) (fzR ρ) ds) (hG : G (.ins C fds) ds P) (hk : k ≤ j := by decide) (hn : ds.length + 1 = n := by rfl)
    (hN : X.N[i]? = some x := by rfl) (hv : L2.Vis X.env.scope x := by first | exact Or.inl rfl | exact Or.inr (Or.inl rfl)) (hd : (x == ("__debug__" : Str)) = false := by decide) (hcd : (x == ("__classdict__" : Str)) = false := by decide)
    (hst : starEach (e :: es) X.env = (false, eval e X.env) :: starEach es X.env := by rfl) (hpl : (backTo pos (starEach es X.env)).any (·.1) = false := by rfl)
    (ht : eval (.Call (.Attribute (.Name x p1) m apos) (e :: es) [] pos) X.env = (do
      let ov ← eval (.Name x p1) X.env
      standAt apos.atName
      let (f, first) ← holding [ov] (getMethod ov m pl)
      callWith pos f first (backTo pos (starEach (e :: es) X.env)) (backToKw pos (keywordEach [] X.env))) := by rfl) :
    JM X pin (.Call (.Attribute (.Name x p1) m apos) (e :: es) [] pos) ρ (fun r ρ' => ∃ d', P r d' ∧ ρ' = ρ.set i (some (.ow d'))) := ⟨fun E σ H hpn ⟨Hf, A, s⟩ Q g => by
  obtain ⟨f, fd, ps, F, hme, hb⟩ := M.ex
  refine .of (pe_meth (pe_var hN hv hd hcd) cl hme (F.mono hk) hr hb .nil pass0 pa_w hst hpl ht) ?_
  obtain ⟨v, hσ, ow, ne⟩ := s.sl i _ hi
  have ow' := ow
  generalize hA : A i = Ai at ow' ne
  cases ow' with
  | fz _ => exact absurd rfl ne
  | @ins ad _ dx fs _ B h1 h2 h3 nB =>
    refine ⟨_, hσ, ad, dx, fs, rfl, h1, lookup_none h2 hm, ?_⟩
    refine ha Hf σ H s.fh s.vis _ fun vs W' H' st r => ?_
    have s' := s.step st
    rw [List.append_nil]
    obtain ⟨v2, hσ2, ow2, ne2⟩ := s'.sl i _ hi
    rw [hσ] at hσ2
    cases hσ2
    exact ⟨by rw [List.length_cons, ← r.length]; exact hn, ad, W', _, A i, vs, ds, P, rfl, s'.fh, ow2, ne2, fun b hb => ⟨(s'.ap i b hb).1, (s'.ap i b hb).2.1⟩, r, hG, fun r d' hp v W2 H2 A2 aft rr => g r _ ⟨d', hp, rfl⟩ v H2 W2 _ (s'.after hi hσ aft) rr⟩⟩
/-- f(x, ..), x in the slot i -/
theorem jm_fn {es : List Expr} (M : MFn X.prog X.w X.K X.mg X.base k f n G) (hr : Room j X.A) (hi : ρ[i]? = some (some (.ow d))) (ha : JA X es (fzR ρ) ds) (hG : G d ds P) (hk : k ≤ j := by decide) (hn : ds.length + 1 = n := by rfl)
    (hN : X.N[i]? = some x := by rfl) (hv : L2.Vis X.env.scope x := by first | exact Or.inl rfl | exact Or.inr (Or.inl rfl)) (hd : (x == ("__debug__" : Str)) = false := by decide) (hcd : (x == ("__classdict__" : Str)) = false := by decide)
    (hg : Gl X f := by rfl) (hdb : (f == ("__debug__" : Str)) = false := by decide)
    (he : starEach (.Name x p1 :: es) X.env = (false, eval (.Name x p1) X.env) :: starEach es X.env := by rfl) (hpl : (backTo pos (starEach es X.env)).any (·.1) = false := by rfl) :
    JM X pin (.Call (.Name f p) (.Name x p1 :: es) [] pos) ρ (fun r ρ' => ∃ d', P r d' ∧ ρ' = ρ.set i (some (.ow d'))) := ⟨fun E σ H hpn ⟨Hf, A, s⟩ Q g => by
  obtain ⟨ff, fd, ps, F, hme, hkp, hb⟩ := M.ex
  refine .of (pe_call (F.mono hk) hr hg hme hkp hb .nil pass0 (pa_cons (pe_var hN hv hd hcd) pa_w he) hdb he hpl) ?_
  obtain ⟨v, hσ, ow, ne⟩ := s.sl i _ hi
  have ow' := ow
  have : ∃ ad, v = .ref ad := by
    generalize hA : A i = Ai at ow' ne
    cases ow' with
    | fz _ => exact absurd rfl ne
    | ins _ _ _ _ => exact ⟨_, rfl⟩
    | lst _ _ _ => exact ⟨_, rfl⟩
    | dct _ _ _ _ => exact ⟨_, rfl⟩
  obtain ⟨ad, rfl⟩ := this
  refine ⟨_, hσ, ?_⟩
  refine ha Hf σ H s.fh s.vis _ fun vs W' H' st r => ?_
  have s' := s.step st
  show spM X.K n G ((V.ref ad :: vs) ++ []) H' Q E0
  rw [List.append_nil]
  obtain ⟨v2, hσ2, ow2, ne2⟩ := s'.sl i _ hi
  rw [hσ] at hσ2
  cases hσ2
  exact ⟨by rw [List.length_cons, ← r.length]; exact hn, ad, W', _, A i, vs, ds, P, rfl, s'.fh, ow2, ne2, fun b hb => ⟨(s'.ap i b hb).1, (s'.ap i b hb).2.1⟩, r, hG, fun r d' hp v W2 H2 A2 aft rr => g r _ ⟨d', hp, rfl⟩ v H2 W2 _ (s'.after hi hσ aft) rr⟩⟩
theorem JM.imp {Ψ Ψ' : D → RhoS → Prop} (h : JM X pin e ρ Ψ) (k : ∀ r ρ', Ψ r ρ' → Ψ' r ρ') : JM X pin e ρ Ψ' := ⟨fun E σ H hp s Q g => h E σ H hp s Q fun r ρ' z => g r ρ' (k r ρ' z)⟩
/-- a pure expression with a flat value -/
theorem jm_pure {r : D} (h : J X e (allR ρ) r) (hf : flatD r = true) : JM X pin e ρ (fun r' ρ' => r' = r ∧ ρ' = ρ) := ⟨fun E σ H hpn ⟨Hf, A, s⟩ Q g =>
  h H σ H (.refl _) s.visH Q fun v W' H' st rr => g r ρ ⟨rfl, rfl⟩ v H' Hf A (s.grow st.hh) (rr.any hf)⟩
theorem jtm_pure {t : Bool} (h : JT X e (allR ρ) t) : JTM X pin e ρ (fun r' ρ' => r' = t ∧ ρ' = ρ) := ⟨fun E σ H hpn ⟨Hf, A, s⟩ Q g =>
  h H σ H (.refl _) s.visH Q fun W' H' st => g t ρ ⟨rfl, rfl⟩ H' ⟨Hf, A, s.grow st.hh⟩⟩
theorem js_setM {Ψ : D → RhoS → Prop} (h : JM X pin e ρ Ψ) (hk : ∀ r ρ', Ψ r ρ' → Φ (.nx (ρ'.set i (some (.fz r))))) (hN : X.N.Nodup) (hi : X.N[i]? = some x := by rfl) (hx : Loc X.env.scope x := by first | exact Or.inl rfl | exact Or.inr rfl) (hp : i ∉ pin := by decide) (hs : swapsWith e (some (.Name x p')) pos.line X.env = pure false := by rfl)
    (hf : X.fn x = true ∨ X.env.scope.names.lookup x = some .local := by first | exact .inl rfl | exact .inr rfl) : JS X pin (.Assign [.Name x p'] e pos) ρ Φ := ⟨fun E σ H D hpn s k =>
  .of (ps_set hN hi hx pe_w hs hf) (h E σ H hpn s _ fun r ρ' hΨ v H' Hf A s' rr => k _ (hk r ρ' hΨ) _ H' ⟨Hf, _, s'.setFz rr (hpn.none hp)⟩)⟩
theorem js_dropM {Ψ : D → RhoS → Prop} (h : JM X pin e ρ Ψ) (hk : ∀ r ρ', Ψ r ρ' → Φ (.nx ρ')) (hs : swapsWith e none pos.line X.env = pure false := by rfl) : JS X pin (.Expr e pos) ρ Φ := ⟨fun E σ H D hpn s k =>
  .of (ps_expr pe_w hs) (h E σ H hpn s _ fun r ρ' hΨ v H' Hf A s' rr => k _ (hk r ρ' hΨ) σ H' ⟨Hf, A, s'⟩)⟩
theorem js_retM {Ψ : D → RhoS → Prop} (h : JM X pin e ρ Ψ) (hk : ∀ r ρ', Ψ r ρ' → Φ (.rt r ρ')) : JS X pin (.Return (some e) pos) ρ Φ := ⟨fun E σ H D hpn s k =>
  .of (ps_ret pe_w) (h E σ H hpn s _ fun r ρ' hΨ v H' Hf A s' rr => k _ (hk r ρ' hΨ) v H' ⟨σ, Hf, A, Hf, s', .refl _, s'.fh, s'.fr, fun i a ha _ => (s'.ap i a ha).1, rr⟩)⟩
theorem jtm_val {Ψ : Bool → RhoS → Prop} (h : JM X pin e ρ (fun r ρ' => ∃ t, r = .bl t ∧ Ψ t ρ')) (he : ∀ whole, isTrue e X.env whole = (do let v ← whole; standAt e.pos; holding [v] (truthy v)) := by intro _; rfl) : JTM X pin e ρ Ψ := ⟨fun E σ H hpn s Q g =>
  .of (pt_val pe_w he) (h E σ H hpn s _ fun r ρ' hΨ v H' Hf A s' rr => by
    obtain ⟨t, rfl, hΨ⟩ := hΨ
    cases rr
    exact ⟨t, rfl, g t ρ' hΨ H' ⟨Hf, A, s'⟩⟩)⟩
theorem jtm_not {Ψ : Bool → RhoS → Prop} (h : JTM X pin a ρ (fun t ρ' => Ψ (!t) ρ')) : JTM X pin (.UnaryOp .Not a pos) ρ Ψ := ⟨fun E σ H hpn s Q g =>
  .of (pt_not pt_w) (h E σ H hpn s _ fun t ρ' hΨ H' s' => g (!t) ρ' hΨ H' s')⟩
/-- e is None, e is not None -/
theorem jtm_isN {Ψ : Bool → RhoS → Prop} {k0 q} (h : JM X pin e ρ (fun r ρ' => Ψ (isNon r) ρ')) : JTM X pin (.Compare e [.Is] [.Constant .none k0 q] pos) ρ Ψ := ⟨fun E σ H hpn s Q g =>
  .of (pt_cmpR op_isN pe_w pe_non rfl) (h E σ H hpn s _ fun r ρ' hΨ v H' Hf A s' rr => ⟨rfl, _, rfl, by rw [rr.isNon]; exact g _ ρ' hΨ H' ⟨Hf, A, s'⟩⟩)⟩
theorem jtm_notN {Ψ : Bool → RhoS → Prop} {k0 q} (h : JM X pin e ρ (fun r ρ' => Ψ (!isNon r) ρ')) : JTM X pin (.Compare e [.IsNot] [.Constant .none k0 q] pos) ρ Ψ := ⟨fun E σ H hpn s Q g =>
  .of (pt_cmpR op_notN pe_w pe_non rfl) (h E σ H hpn s _ fun r ρ' hΨ v H' Hf A s' rr => ⟨rfl, _, rfl, by rw [rr.isNon]; exact g _ ρ' hΨ H' ⟨Hf, A, s'⟩⟩)⟩
theorem js_ifM {a b : List Stmt} {Ψ : Bool → RhoS → Prop} (hc : JTM X pin c ρ Ψ) (hk : ∀ t ρ', Ψ t ρ' → JSs X pin (if t = true then a else b) ρ' Φ) : JS X pin (.If c a b pos) ρ Φ := ⟨fun E σ H D hpn s k =>
  .of (ps_if pt_w pss_w pss_w) (hc E σ H hpn s _ fun t ρ' hΨ H' s' => by
    have := hk t ρ' hΨ E σ H' D hpn s' k
    cases t with
    | true => rw [if_pos rfl]; rw [if_pos rfl] at this; exact this
    | false => rw [if_neg Bool.false_ne_true]; rw [if_neg Bool.false_ne_true] at this; exact this)⟩
/-! ### x.f = e, x in the slot i -/
def putD (f : Str) (v : D) : List (Str × D) → List (Str × D)
  | [] => [(f, v)]
  | (g, u) :: r => if g = f then (g, v) :: r else (g, u) :: putD f v r
theorem putD_names {f : Str} {d : D} {v : V} : ∀ {fds : List (Str × D)} {fs : List (Str × V)}, fs.map (·.1) = fds.map (·.1) → (putF f v fs).map (·.1) = (putD f d fds).map (·.1)
  | [], [], _ => rfl
  | [], _ :: _, h => by cases h
  | _ :: _, [], h => by cases h
  | (g, u) :: r, (g', u') :: r', h => by
    simp only [List.map_cons, List.cons.injEq] at h
    obtain ⟨rfl, h⟩ := h
    unfold putF putD
    by_cases e : g' = f
    · rw [if_pos e, if_pos e]; simp [h]
    · rw [if_neg e, if_neg e]; simp only [List.map_cons, putD_names (d := d) (v := v) (f := f) h]
/-- the flat fields of an instance: each frozen -/
theorem putD_rep {K : PySem.W.Frag} {H : Hp} {f : Str} {d : D} {v : V} (r : Rep K H d v) : ∀ {fds : List (Str × D)} {fs : List (Str × V)}, fs.map (·.1) = fds.map (·.1) → RepAll K H (fds.map (·.2)) (fs.map (·.2)) → RepAll K H ((putD f d fds).map (·.2)) ((putF f v fs).map (·.2))
  | [], [], _, _ => .cons r .nil
  | [], _ :: _, h, _ => by cases h
  | _ :: _, [], h, _ => by cases h
  | (g, u) :: r0, (g', u') :: r', h, hr => by
    simp only [List.map_cons, List.cons.injEq] at h
    obtain ⟨rfl, h⟩ := h
    cases hr with
    | cons q t =>
      unfold putF putD
      by_cases e : g' = f
      · rw [if_pos e, if_pos e]; exact .cons r t
      · rw [if_neg e, if_neg e]; exact .cons q (putD_rep r h t)
theorem putD_own {K : PySem.W.Frag} {Hf H : Hp} {f : Str} {d : D} {v : V} (r : Rep K Hf d v) (hm : mutD d = false) : ∀ {fds : List (Str × D)} {fs : List (Str × V)} {B : List Addr}, fs.map (·.1) = fds.map (·.1) → OwnFs K Hf H (fds.map (·.2)) (fs.map (·.2)) B → ∃ B', (∀ b ∈ B', b ∈ B) ∧ OwnFs K Hf H ((putD f d fds).map (·.2)) ((putF f v fs).map (·.2)) B'
  | [], [], _, _, _ => ⟨[] ++ [], by simp, .cons (.fz r) .nil (by simp) (by rw [hm]; simp)⟩
  | [], _ :: _, _, h, _ => by cases h
  | _ :: _, [], _, h, _ => by cases h
  | (g, u) :: r0, (g', u') :: r', _, h, hr => by
    simp only [List.map_cons, List.cons.injEq] at h
    obtain ⟨rfl, h⟩ := h
    cases hr with
    | @cons _ _ _ _ A B q t nd w =>
      unfold putF putD
      by_cases e : g' = f
      · rw [if_pos e, if_pos e]
        exact ⟨[] ++ B, fun b hb => List.mem_append_right _ (by simpa using hb), .cons (.fz r) t (by simp) (by rw [hm]; simp)⟩
      · rw [if_neg e, if_neg e]
        obtain ⟨B', h1, h2⟩ := putD_own r hm h t
        exact ⟨A ++ B', fun b hb => by
          rcases List.mem_append.mp hb with z | z
          · exact List.mem_append_left _ z
          · exact List.mem_append_right _ (h1 b z), .cons q h2 (fun a ha hb => nd a ha (h1 a hb)) w⟩
/-- x.f = e: the state behind the value -/
theorem StAt.fld {K : PySem.W.Frag} {E : Ent} {σ : L2.St} {H Hf : Hp} {A : Nat → List Addr} {v y : V} (s : StAt K E ρ σ H Hf A) (hi : ρ[i]? = some (some (.ow (.ins C fds)))) (hσ : σ[i]? = some (some v)) (r : Rep K Hf d y) (hm : mutD d = false) :
    ∃ a dx fs, v = .ref a ∧ H a = some (.ins C dx fs) ∧ fs.length = fds.length ∧ StOk K E (ρ.set i (some (.ow (.ins C (putD f d fds))))) σ (upd H a (.ins C dx (putF f y fs))) := by
  obtain ⟨v', hσ', ow, ne⟩ := s.sl i _ hi
  rw [hσ] at hσ'
  cases hσ'
  generalize hA : A i = Ai at ow ne
  cases ow with
  | fz _ => exact absurd rfl ne
  | @ins a _ dx fs _ B h1 h2 h3 nB =>
    refine ⟨a, dx, fs, rfl, h1, by have := congrArg List.length h2; simpa using this, ?_⟩
    obtain ⟨B', k1, k2⟩ := putD_own (f := f) r hm h2 h3
    refine ⟨Hf, _, s.change (B := a :: B') hi hσ (by rw [hA]; exact List.mem_cons_self) (by simp) (fun b hb => by
      rw [hA]
      rcases List.mem_cons.mp hb with z | z
      · rw [z]; exact List.mem_cons_self
      · exact List.mem_cons_of_mem _ (k1 b z)) (.ins upd_same (putD_names h2) (k2.move (.refl _) fun b hb => upd_ne fun z => nB (by rw [← z]; exact k1 b hb)) fun z => nB (k1 a z))⟩
theorem js_fld (hi : ρ[i]? = some (some (.ow (.ins C fds)))) (h : J X e (fzR ρ) d) (cl : Cls X.K C) (hn : NoAttr X.K C f) (hl : fds.length < 1000) (hk : Φ (.nx (ρ.set i (some (.ow (.ins C (putD f d fds))))))) (hmt : mutD d = false := by rfl) (hN : X.N[i]? = some x := by rfl) (hv : L2.Vis X.env.scope x := by first | exact Or.inl rfl | exact Or.inr (Or.inl rfl))
    (hd : (x == ("__debug__" : Str)) = false := by decide) (hcd : (x == ("__classdict__" : Str)) = false := by decide) (hs : swapsWith e (some (.Attribute (.Name x p1) f p')) pos.line X.env = pure false := by rfl) : JS X pin (.Assign [.Attribute (.Name x p1) f p'] e pos) ρ Φ := ⟨fun E σ H D hpn ⟨Hf, A, s⟩ k => by
  refine .of (ps_fld (pe_var hN hv hd hcd) pe_w hs) (h Hf σ H s.fh s.vis _ fun y W' H' st r => ?_)
  have s' := s.step st
  obtain ⟨v, hσ, _⟩ := s'.sl i _ hi
  obtain ⟨a, dx, fs, rfl, h1, h2, ok⟩ := s'.fld (f := f) hi hσ r hmt
  exact ⟨_, hσ, a, C, dx, fs, rfl, h1, cl, hn, by omega, k _ hk σ _ ok⟩⟩
theorem js_fldS (hi : ρ[i]? = some (some (.ow (.ins C fds)))) (h : J X e (allR ρ) d) (hfl : flatD d = true) (cl : Cls X.K C) (hn : NoAttr X.K C f) (hl : fds.length < 1000) (hk : Φ (.nx (ρ.set i (some (.ow (.ins C (putD f d fds))))))) (hmt : mutD d = false := by rfl) (hN : X.N[i]? = some x := by rfl) (hv : L2.Vis X.env.scope x := by first | exact Or.inl rfl | exact Or.inr (Or.inl rfl))
    (hd : (x == ("__debug__" : Str)) = false := by decide) (hcd : (x == ("__classdict__" : Str)) = false := by decide) (hs : swapsWith e (some (.Attribute (.Name x p1) f p')) pos.line X.env = pure false := by rfl) : JS X pin (.Assign [.Attribute (.Name x p1) f p'] e pos) ρ Φ := ⟨fun E σ H D hpn ⟨Hf, A, s⟩ k => by
  refine .of (ps_fld (pe_var hN hv hd hcd) pe_w hs) (h H σ H (.refl _) s.visH _ fun y W' H' st r => ?_)
  have s' := s.grow st.hh
  obtain ⟨v, hσ, _⟩ := s'.sl i _ hi
  obtain ⟨a, dx, fs, rfl, h1, h2, ok⟩ := s'.fld (f := f) hi hσ (r.any hfl) hmt
  exact ⟨_, hσ, a, C, dx, fs, rfl, h1, cl, hn, by omega, k _ hk σ _ ok⟩⟩

/-! ### C(..) -/
structure MMake (P : Program) (w : World) (K : PySem.W.Frag) (mg : Str → Option Value) (base : Heap) (k : Nat) (x : Str) (C : Addr) (n : Nat) (G : D → List D → (D → D → Prop) → Prop) : Prop where
  ex : ∃ f fd ps, FnOk P w K mg base CX0 k f fd ps (spM K n G) ∧ Mk K C f ∧ mg x = some (.ref C) ∧ Binds K fd ps []
/-- e is a new object of its own -/
structure JO1 (X : Cx) (e : Expr) (ρ : Rho) (P : D → Prop) : Prop where
  run : ∀ W σ H, Ex W H → Vis X.K ρ W σ → ∀ Q : VK, (∀ (d : D) (a : Addr) (W' H' : Hp) (A' : List Addr), P d → Step W H W' H' → Own X.K W' H' d (.ref a) A' → A' ≠ [] → (∀ b ∈ A', W' b = none ∧ H' b ≠ none ∧ H b = none) → Q (.ref a) H') → wE X e σ H Q
instance {X : Cx} {e : Expr} {ρ : Rho} {P : D → Prop} : CoeFun (JO1 X e ρ P) (fun _ => ∀ W σ H, Ex W H → Vis X.K ρ W σ → ∀ Q : VK, (∀ (d : D) (a : Addr) (W' H' : Hp) (A' : List Addr), P d → Step W H W' H' → Own X.K W' H' d (.ref a) A' → A' ≠ [] → (∀ b ∈ A', W' b = none ∧ H' b ≠ none ∧ H b = none) → Q (.ref a) H') → wE X e σ H Q) := ⟨JO1.run⟩
theorem JO1.imp {P1 P2 : D → Prop} {ρ : Rho} (h : JO1 X e ρ P1) (k : ∀ d, P1 d → P2 d) : JO1 X e ρ P2 := ⟨fun W σ H ex hV Q g => h W σ H ex hV Q fun d a W' H' A' hp => g d a W' H' A' (k d hp)⟩
theorem jo_make {ρ : Rho} (M : MMake X.prog X.w X.K X.mg X.base k x C n G) (hr : Room j X.A) (ha : JA X (e :: es) ρ ds) (hG : G (.ins C []) ds P) (hP : ∀ r d', P r d' → r = .non) (hk : k + 1 ≤ j := by decide) (hn : ds.length + 1 = n := by rfl) (hg : Gl X x := by rfl) (hdb : (x == ("__debug__" : Str)) = false := by decide)
    (he : starEach (e :: es) X.env = (false, eval e X.env) :: starEach es X.env := by rfl) (hpl : (backTo pos (starEach es X.env)).any (·.1) = false := by rfl) : JO1 X (.Call (.Name x p) (e :: es) [] pos) ρ (fun d => ∃ r, P r d) := ⟨fun W σ H ex hV Q g => by
  obtain ⟨ff, fd, ps, F, hme, hm, hb⟩ := M.ex
  refine .of (pe_make hme F (hr.mono hk) hg hm hb .nil pass0 pa_w hdb he hpl) (ha W σ H ex hV _ fun vs W1 H1 s1 r1 => ?_)
  intro y dx hy hdx hne
  rw [List.append_nil]
  have w1 : W1 y = none := Evl.fresh_back s1.wh hy
  have hup : ∀ b o, H1 b = some o → upd (upd H1 dx (.own y)) y (.ins C dx []) b = some o := fun b o h => by
    rw [upd_ne (ne_of_none h hy), upd_ne (ne_of_none h hdx)]; exact h
  refine ⟨by rw [List.length_cons, ← r1.length]; exact hn, y, W1, _, [y], vs, ds, P, rfl, fun b o h => hup b o (s1.wh b o h), .ins upd_same rfl .nil (by simp), by simp, fun b hb' => ?_, r1, hG, fun r d' hp v W2 H2 A2 aft rr => ?_⟩
  · have e : b = y := by simpa using hb'
    subst e
    exact ⟨w1, by rw [upd_same]; simp⟩
  · have hr0 := hP r d' hp
    subst hr0
    cases rr
    refine ⟨rfl, g d' y W2 H2 A2 ⟨_, hp⟩ (s1.trans ⟨aft.ww, aft.wh, fun b o h => aft.hh b o (hup b o h) fun hb' => ?_, fun b h1 h2 => ?_⟩) aft.ow aft.ne fun b hb' => ?_⟩
    · have e : b = y := by simpa using hb'
      subst e
      rw [hy] at h; cases h
    · exact Evl.fresh_back (fun b o h => hup b o h) (aft.fr b h1 h2)
    · obtain ⟨k1, k2, k3⟩ := aft.ap b hb'
      refine ⟨k1, k2, ?_⟩
      rcases k3 with z | z
      · have e : b = y := by simpa using z
        subst e
        exact Evl.fresh_back s1.hh hy
      · exact Evl.fresh_back s1.hh (Evl.fresh_back (fun b o h => hup b o h) z)⟩
theorem js_setO {Pd : D → Prop} (h : JO1 X e (fzR ρ) Pd) (hk : ∀ d, Pd d → Φ (.nx (ρ.set i (some (.ow d))))) (hN : X.N.Nodup) (hi : X.N[i]? = some x := by rfl) (hx : Loc X.env.scope x := by first | exact Or.inl rfl | exact Or.inr rfl) (hp : i ∉ pin := by decide) (hs : swapsWith e (some (.Name x p')) pos.line X.env = pure false := by rfl)
    (hf : X.fn x = true ∨ X.env.scope.names.lookup x = some .local := by first | exact .inl rfl | exact .inr rfl) : JS X pin (.Assign [.Name x p'] e pos) ρ Φ := ⟨fun E σ H D hpn ⟨Hf, A, s⟩ k =>
  .of (ps_set hN hi hx pe_w hs hf) (h Hf σ H s.fh s.vis _ fun d a W' H' A' hd st ow ne hA => k _ (hk d hd) _ H' ⟨W', _, (s.step st).setOw ow ne (hpn.none hp) fun b hb => by
    obtain ⟨k1, k2, k3⟩ := hA b hb
    exact ⟨k1, k2, s.kp b k3, fun j hj => (s.ap j b hj).2.1 k3⟩⟩)⟩
/-- f(C(..), ..): the new object is not seen behind the call -/
theorem j_callO {ρ : Rho} {Pd : D → Prop} {d0 : D} {o1 : Expr} (M : MFn X.prog X.w X.K X.mg X.base k f n G) (hr : Room j X.A) (h1 : JO1 X o1 ρ Pd) (ha : JA X es ρ ds) (hG : ∀ d, Pd d → G d ds P) (hP : ∀ r d', P r d' → r = d0) (hfl : flatD d0 = true) (hk : k ≤ j := by decide) (hn : ds.length + 1 = n := by rfl) (hg : Gl X f := by rfl) (hdb : (f == ("__debug__" : Str)) = false := by decide)
    (he : starEach (o1 :: es) X.env = (false, eval o1 X.env) :: starEach es X.env := by rfl) (hpl : (backTo pos (starEach es X.env)).any (·.1) = false := by rfl) : J X (.Call (.Name f p) (o1 :: es) [] pos) ρ d0 := ⟨fun W σ H ex hV Q g => by
  obtain ⟨ff, fd, ps, F, hme, hkp, hb⟩ := M.ex
  refine .of (pe_call (F.mono hk) hr hg hme hkp hb .nil pass0 (pa_cons pe_w pa_w he) hdb he hpl) ?_
  refine h1 W σ H ex hV _ fun d a W1 H1 A1 hd s1 ow ne hA => ?_
  refine ha W1 σ H1 s1.wh (hV.mono s1.ww) _ fun vs W2 H2 s2 r2 => ?_
  show spM X.K n G ((V.ref a :: vs) ++ []) H2 Q E0
  rw [List.append_nil]
  have keep : ∀ b ∈ A1, H2 b = H1 b := fun b hb => by
    have := (hA b hb).2.1
    cases q : H1 b with
    | none => exact absurd q this
    | some o => exact s2.hh _ _ q
  refine ⟨by rw [List.length_cons, ← r2.length]; exact hn, a, W2, d, A1, vs, ds, P, rfl, s2.wh, ow.move s2.ww keep, ne, fun b hb => ⟨?_, by rw [keep b hb]; exact (hA b hb).2.1⟩, r2, hG d hd, fun r d' hp v W3 H3 A3 aft rr => ?_⟩
  · cases q : W2 b with
    | none => rfl
    | some o => exact absurd (s2.fr b (by rw [q]; simp) (hA b hb).1) (hA b hb).2.1
  · have e := hP r d' hp
    subst e
    have s12 := s1.trans s2
    refine g v W3 H3 ⟨s12.ww.trans aft.ww, aft.wh, fun b o h => aft.hh b o (s12.hh b o h) fun hb => ?_, fun b h1 h2 => ?_⟩ rr
    · have := (hA b hb).2.2
      rw [h] at this; cases this
    · by_cases z : W2 b = none
      · exact Evl.fresh_back s12.hh (aft.fr b h1 z)
      · exact s12.fr b z h2⟩
end
end Pf

namespace Pf
open PySem PyProof.Rows L2
open Evl (Ex)

/-! ### rules chosen by the values -/
def OpD (X : Cx) (bo : Operator) (x y z : D) : Prop := ∃ r, OpR X (binaryOp bo) r ∧ R2D X.K r x y z
def CmD (X : Cx) (op : CmpOp) (x y : D) (b : Bool) : Prop := ∃ r, OpR X (compareOp op) r ∧ R2D X.K r x y (.bl b)
section
variable {X : Cx} {a b c e : Expr} {es : List Expr} {ρ : Rho} {x y z d : D} {ds es' : List D} {pos p p2 : Pos} {op op' : CmpOp} {bo : Operator} {t u : Bool} {i j : Int} {s s' : Str}
theorem j_bin (ha : J X a ρ x) (hb : J X b ρ y) (h : OpD X bo x y z) : J X (.BinOp a bo b pos) ρ z := by
  obtain ⟨r, h1, h2⟩ := h
  exact j_op h1 ha hb h2
theorem j_cm (ha : J X a ρ x) (hb : J X b ρ y) (h : CmD X op x y t) (hm : behindInMarks op b = false := by first | exact nobehind _ (by decide) (by decide) | rfl) : J X (.Compare a [op] [b] pos) ρ (.bl t) := by
  obtain ⟨r, h1, h2⟩ := h
  exact j_cmp h1 ha hb h2 hm
theorem jt_cm (ha : J X a ρ x) (hb : J X b ρ y) (h : CmD X op x y t) (hm : behindInMarks op b = false := by first | exact nobehind _ (by decide) (by decide) | rfl) : JT X (.Compare a [op] [b] pos) ρ t := by
  obtain ⟨r, h1, h2⟩ := h
  exact jt_cmp h1 ha hb h2 hm
theorem j_ch (ha : J X a ρ x) (hb : J X b ρ y) (hc : J X c ρ z) (h1 : CmD X op x y t) (h2 : CmD X op' y z u) (hm : lastMarks [op, op'] [b, c] = false := by with_unfolding_all rfl) : J X (.Compare a [op, op'] [b, c] pos) ρ (.bl (t && u)) := by
  obtain ⟨r, k1, k2⟩ := h1
  obtain ⟨r', k1', k2'⟩ := h2
  exact j_chain k1 k1' ha hb (fun _ => hc) k2 (fun _ => k2') hm
theorem jt_ch (ha : J X a ρ x) (hb : J X b ρ y) (hc : J X c ρ z) (h1 : CmD X op x y t) (h2 : CmD X op' y z u) (hm : lastMarks [op, op'] [b, c] = false := by with_unfolding_all rfl) : JT X (.Compare a [op, op'] [b, c] pos) ρ (t && u) := by
  obtain ⟨r, k1, k2⟩ := h1
  obtain ⟨r', k1', k2'⟩ := h2
  exact jt_chain k1 k1' ha hb (fun _ => hc) k2 (fun _ => k2') hm
theorem od_addI : OpD X .Add (.int i) (.int j) (.int (i + j)) := ⟨_, op_add, r2_I0⟩
theorem od_addS (h : s.length + s'.length ≤ sizeLine) : OpD X .Add (.str s) (.str s') (.str (s ++ s')) := ⟨_, op_add_str, r2_addS h⟩
theorem od_addL (h : ds.length + es'.length ≤ sizeLine) : OpD X .Add (.lst ds) (.lst es') (.lst (ds ++ es')) := ⟨_, op_cat, r2_addL h⟩
theorem od_addT (h : ds.length + es'.length ≤ sizeLine) : OpD X .Add (.tup ds) (.tup es') (.tup (ds ++ es')) := ⟨_, op_catA, r2_addT h⟩
theorem od_subI : OpD X .Sub (.int i) (.int j) (.int (i - j)) := ⟨_, op_sub, r2_I0⟩
theorem od_mulI (h : CMul i j) : OpD X .Mult (.int i) (.int j) (.int (i * j)) := ⟨_, op_mul, r2_I h⟩
theorem od_fdivI (h : CDiv i j) : OpD X .FloorDiv (.int i) (.int j) (.int (i / j)) := ⟨_, op_fdiv, r2_I h⟩
theorem od_modI (h : 0 < j) : OpD X .Mod (.int i) (.int j) (.int (i % j)) := ⟨_, op_mod, r2_I (C := fun _ j => 0 < j) h⟩
theorem od_powI (h : CPow i j) : OpD X .Pow (.int i) (.int j) (.int (i ^ j.toNat)) := ⟨_, op_pow, r2_I (C := CPow) (g := fun i j => i ^ j.toNat) h⟩
theorem cd_ltI : CmD X .Lt (.int i) (.int j) (decide (i < j)) := ⟨_, op_lt, r2_B0⟩
theorem cd_leI : CmD X .LtE (.int i) (.int j) (decide (i ≤ j)) := ⟨_, op_le, r2_B0⟩
theorem cd_gtI : CmD X .Gt (.int i) (.int j) (decide (j < i)) := ⟨_, op_gt, r2_B0 (g := fun i j => decide (j < i))⟩
theorem cd_geI : CmD X .GtE (.int i) (.int j) (decide (j ≤ i)) := ⟨_, op_ge, r2_B0 (g := fun i j => decide (j ≤ i))⟩
theorem cd_eqI : CmD X .Eq (.int i) (.int j) (decide (i = j)) := ⟨_, op_eq, r2_eqI⟩
theorem cd_eqS : CmD X .Eq (.str s) (.str s') (decide (s = s')) := ⟨_, op_eq, r2_eqS⟩
theorem cd_eqB : CmD X .Eq (.bl t) (.bl u) (decide (t = u)) := ⟨_, op_eq, r2_eqB⟩
theorem cd_neI : CmD X .NotEq (.int i) (.int j) (!decide (i = j)) := ⟨_, op_ne, r2_neI⟩
theorem cd_neS : CmD X .NotEq (.str s) (.str s') (!decide (s = s')) := ⟨_, op_ne, r2_neS⟩
theorem cd_neB : CmD X .NotEq (.bl t) (.bl u) (!decide (t = u)) := ⟨_, op_ne, r2_neB⟩
theorem cd_isN : CmD X .Is d .non (isNon d) := ⟨_, op_isN, r2_isN⟩
theorem cd_notN : CmD X .IsNot d .non (!isNon d) := ⟨_, op_notN, r2_notN⟩
theorem cd_inStrL {xs : List Str} : CmD X .In (.str s) (.lst (xs.map D.str)) (decide (s ∈ xs)) := ⟨_, op_in_seq, r2_inStrL⟩
theorem cd_ninStrL {xs : List Str} : CmD X .NotIn (.str s) (.lst (xs.map D.str)) (!decide (s ∈ xs)) := ⟨_, op_notIn_seq, r2_ninStrL⟩
theorem cd_inStrT {xs : List Str} : CmD X .In (.str s) (.tup (xs.map D.str)) (decide (s ∈ xs)) := ⟨_, op_in_seq, r2_inStrT⟩
theorem cd_ninStrT {xs : List Str} : CmD X .NotIn (.str s) (.tup (xs.map D.str)) (!decide (s ∈ xs)) := ⟨_, op_notIn_seq, r2_ninStrT⟩
theorem cd_inL (hd : flatD d = true) (hs : ds.all flatD = true) : CmD X .In d (.lst ds) (ds.any fun y => eqD y d) := ⟨_, op_in_seq, r2_inL (neg := false) hd hs⟩
theorem cd_ninL (hd : flatD d = true) (hs : ds.all flatD = true) : CmD X .NotIn d (.lst ds) (!(ds.any fun y => eqD y d)) := ⟨_, op_notIn_seq, r2_inL (neg := true) hd hs⟩
theorem cd_inSign {n : Nat} : CmD X .In (.str ⟨#[n]⟩) (.str s) (decide (n ∈ s.cps.toList)) := ⟨_, op_in_sign, r2_inSign⟩
theorem cd_eqD {d e : D} {p q : PyData} (hu : X.A.units + 64 < cLine) (h1 : toPy d = some p) (h2 : toPy e = some q) (s1 : SeqAt.shaped p = true) (s2 : SeqAt.shaped q = true) (hb : PyData.eqv p q = t) : CmD X .Eq d e t := ⟨_, op_eqD hu, r2_eqD h1 h2 s1 s2 hb⟩
theorem cd_neD {d e : D} {p q : PyData} (hu : X.A.units + 64 < cLine) (h1 : toPy d = some p) (h2 : toPy e = some q) (s1 : SeqAt.shaped p = true) (s2 : SeqAt.shaped q = true) (hb : PyData.eqv p q = t) : CmD X .NotEq d e (!t) := ⟨_, op_neD hu, r2_neD h1 h2 s1 s2 hb⟩
/-! subscripts -/
def IxD (x y d : D) : Prop := (∃ ds i, x = .lst ds ∧ y = .int i ∧ atI ds i = some d) ∨ (∃ ds i, x = .tup ds ∧ y = .int i ∧ atI ds i = some d) ∨ (∃ (z : Str) (i : Int) (n : Nat), x = .str z ∧ y = .int i ∧ z.length ≤ sizeLine ∧ atI z.cps.toList i = some n ∧ d = .str ⟨#[n]⟩)
theorem j_ix (ha : J X a ρ x) (hb : J X b ρ y) (h : IxD x y d) (hs : PlainIx b := by exact fun _ _ => rfl) : J X (.Subscript a b pos) ρ d := by
  rcases h with ⟨ds, i, rfl, rfl, h⟩ | ⟨ds, i, rfl, rfl, h⟩ | ⟨z, i, n, rfl, rfl, hz, h, rfl⟩
  · exact j_ixL ha hb h hs
  · exact j_ixT ha hb h hs
  · exact j_ixS ha hb hz h hs
theorem ixd_L (h : atI ds i = some d) : IxD (.lst ds) (.int i) d := .inl ⟨ds, i, rfl, rfl, h⟩
theorem ixd_T (h : atI ds i = some d) : IxD (.tup ds) (.int i) d := .inr (.inl ⟨ds, i, rfl, rfl, h⟩)
theorem ixd_I {ns : List Int} (h0 : 0 ≤ i) (h1 : i < ns.length) : IxD (.lst (ns.map D.int)) (.int i) (.int (ns.getD i.toNat 0)) := ixd_L (atI_ints h0 h1)
/-! slices -/
def SlD (x : D) (o1 o2 : Option Int) (d : D) : Prop := (∃ ds, x = .lst ds ∧ d = .lst (cut ds o1 o2)) ∨ (∃ ds, x = .tup ds ∧ d = .tup (cut ds o1 o2)) ∨ (∃ ns, x = .scr ns ∧ d = .lst ((cut ns o1 o2).map D.int)) ∨ (∃ z : Str, x = .str z ∧ z.length ≤ sizeLine ∧ d = .str (cutS z o1 o2))
theorem j_sl {lo hi : Option Expr} {o1 o2 : Option Int} (ha : J X a ρ x) (h1 : JO X lo ρ o1) (h2 : JO X hi ρ o2) (h : SlD x o1 o2 d) : J X (.Subscript a (.Slice lo hi none p2) pos) ρ d := by
  rcases h with ⟨ds, rfl, rfl⟩ | ⟨ds, rfl, rfl⟩ | ⟨ds, rfl, rfl⟩ | ⟨z, rfl, hz, rfl⟩
  · exact j_slL ha h1 h2
  · exact j_slT ha h1 h2
  · exact j_slScr ha h1 h2
  · exact j_slS ha hz h1 h2
theorem sld_L {o1 o2 : Option Int} : SlD (.lst ds) o1 o2 (.lst (cut ds o1 o2)) := .inl ⟨ds, rfl, rfl⟩
theorem sld_T {o1 o2 : Option Int} : SlD (.tup ds) o1 o2 (.tup (cut ds o1 o2)) := .inr (.inl ⟨ds, rfl, rfl⟩)
theorem sld_X {ns : List Int} {o1 o2 : Option Int} : SlD (.scr ns) o1 o2 (.lst ((cut ns o1 o2).map D.int)) := .inr (.inr (.inl ⟨ns, rfl, rfl⟩))
theorem sld_S {o1 o2 : Option Int} (h : s.length ≤ sizeLine) : SlD (.str s) o1 o2 (.str (cutS s o1 o2)) := .inr (.inr (.inr ⟨s, rfl, h, rfl⟩))
/-! what a for walks, by its value -/
theorem ji_of {tg : Expr} (h : J X e ρ x) (hx : x = .lst ds ∨ x = .tup ds ∨ ∃ ns : List Int, x = .scr ns ∧ ds = ns.map D.int) : JI X tg e ρ ds := by
  rcases hx with rfl | rfl | ⟨ns, rfl, rfl⟩
  · exact ji_list h
  · exact ji_tup h
  · exact ji_scr h
end
/-- what the built-ins' names are at the top: none of them is stored -/
structure Bt (mg : Str → Option Value) : Prop where
  len : mg "len" = none
  int : mg "int" = none
  abs : mg "abs" = none
  range : mg "range" = none
  tuple : mg "tuple" = none
  list : mg "list" = none
  sorted : mg "sorted" = none
  set : mg "set" = none
  isinstance : mg "isinstance" = none
  bool : mg "bool" = none
  min : mg "min" = none
  max : mg "max" = none
  sum : mg "sum" = none
  all : mg "all" = none
  any : mg "any" = none
  str : mg "str" = none
  zip : mg "zip" = none
  enumerate : mg "enumerate" = none
section
variable {X : Cx} {e : Expr} {es : List Expr} {ρ : Rho} {d : D} {ds : List D} {pos p : Pos} {i j : Int} {n : Nat} (T : Bt X.mg)
include T
theorem jb_len (ha : JA X [e] ρ [d]) (h : lenD d = some n) (hg : Gl X "len" := by rfl) (he : starEach [e] X.env = (false, eval e X.env) :: starEach [] X.env := by rfl) (hpl : (backTo pos (starEach [] X.env)).any (·.1) = false := by rfl) : J X (.Call (.Name "len" p) [e] [] pos) ρ (.int n) := j_cb call_len T.len PySem.boot_len ha (rc_len h) hg (by decide) (by decide) he hpl
theorem jb_int (ha : JA X [e] ρ [.int i]) (hg : Gl X "int" := by rfl) (he : starEach [e] X.env = (false, eval e X.env) :: starEach [] X.env := by rfl) (hpl : (backTo pos (starEach [] X.env)).any (·.1) = false := by rfl) : J X (.Call (.Name "int" p) [e] [] pos) ρ (.int i) := j_ct call_int1 T.int (by decide +kernel) ha rc_int hg (by decide) (by decide) he hpl
theorem jb_abs (ha : JA X [e] ρ [.int i]) (hg : Gl X "abs" := by rfl) (he : starEach [e] X.env = (false, eval e X.env) :: starEach [] X.env := by rfl) (hpl : (backTo pos (starEach [] X.env)).any (·.1) = false := by rfl) : J X (.Call (.Name "abs" p) [e] [] pos) ρ (.int (if i < 0 then -i else i)) := j_cb call_abs T.abs (by decide +kernel) ha rc_abs hg (by decide) (by decide) he hpl
theorem jb_str (ha : JA X [e] ρ [.int i]) (h : i.natAbs.log2 < 1920) (hg : Gl X "str" := by rfl) (he : starEach [e] X.env = (false, eval e X.env) :: starEach [] X.env := by rfl) (hpl : (backTo pos (starEach [] X.env)).any (·.1) = false := by rfl) : J X (.Call (.Name "str" p) [e] [] pos) ρ (.str (toString i)) := j_ct call_str_int T.str (by decide +kernel) ha (rc_strI h) hg (by decide) (by decide) he hpl
theorem jb_sum {ns : List Int} (ha : JA X [e] ρ [.lst (ns.map D.int)]) (hc : X.calm = true := by rfl) (hg : Gl X "sum" := by rfl) (he : starEach [e] X.env = (false, eval e X.env) :: starEach [] X.env := by rfl) (hpl : (backTo pos (starEach [] X.env)).any (·.1) = false := by rfl) : J X (.Call (.Name "sum" p) [e] [] pos) ρ (.int ns.sum) := j_cb (cr_sum hc) T.sum (by decide +kernel) ha rc_sum hg (by decide) (by decide) he hpl
theorem jb_all {bs : List Bool} (ha : JA X [e] ρ [.lst (bs.map D.bl)]) (hc : X.calm = true := by rfl) (hg : Gl X "all" := by rfl) (he : starEach [e] X.env = (false, eval e X.env) :: starEach [] X.env := by rfl) (hpl : (backTo pos (starEach [] X.env)).any (·.1) = false := by rfl) : J X (.Call (.Name "all" p) [e] [] pos) ρ (.bl (bs.all id)) := j_cb (cr_all hc) T.all (by decide +kernel) ha rc_all hg (by decide) (by decide) he hpl
theorem jb_sortedI {ns : List Int} (ha : JA X [e] ρ [.lst (ns.map D.int)]) (hg : Gl X "sorted" := by rfl) (he : starEach [e] X.env = (false, eval e X.env) :: starEach [] X.env := by rfl) (hpl : (backTo pos (starEach [] X.env)).any (·.1) = false := by rfl) : J X (.Call (.Name "sorted" p) [e] [] pos) ρ (.lst ((sortI ns).map D.int)) := j_cb cr_sortedI T.sorted (by decide +kernel) ha rc_sortI hg (by decide) (by decide) he hpl
theorem jb_tupleL (ha : JA X [e] ρ [.lst ds]) (hg : Gl X "tuple" := by rfl) (he : starEach [e] X.env = (false, eval e X.env) :: starEach [] X.env := by rfl) (hpl : (backTo pos (starEach [] X.env)).any (·.1) = false := by rfl) : J X (.Call (.Name "tuple" p) [e] [] pos) ρ (.tup ds) := j_ct call_tuple_of T.tuple (by decide +kernel) ha rc_tupleL hg (by decide) (by decide) he hpl
theorem jb_listL (ha : JA X [e] ρ [.lst ds]) (hg : Gl X "list" := by rfl) (he : starEach [e] X.env = (false, eval e X.env) :: starEach [] X.env := by rfl) (hpl : (backTo pos (starEach [] X.env)).any (·.1) = false := by rfl) : J X (.Call (.Name "list" p) [e] [] pos) ρ (.lst ds) := j_ct call_list_of T.list (by decide +kernel) ha rc_listL hg (by decide) (by decide) he hpl
theorem jb_max2 {e2 : Expr} (ha : JA X [e, e2] ρ [.int i, .int j]) (hc : X.calm = true := by rfl) (hg : Gl X "max" := by rfl) (he : starEach [e, e2] X.env = (false, eval e X.env) :: starEach [e2] X.env := by rfl) (hpl : (backTo pos (starEach [e2] X.env)).any (·.1) = false := by rfl) : J X (.Call (.Name "max" p) [e, e2] [] pos) ρ (.int (if j > i then j else i)) := j_cb (call_max2 hc) T.max (by decide +kernel) ha rc_max2 hg (by decide) (by decide) he hpl
theorem jb_min2 {e2 : Expr} (ha : JA X [e, e2] ρ [.int i, .int j]) (hc : X.calm = true := by rfl) (hg : Gl X "min" := by rfl) (he : starEach [e, e2] X.env = (false, eval e X.env) :: starEach [e2] X.env := by rfl) (hpl : (backTo pos (starEach [e2] X.env)).any (·.1) = false := by rfl) : J X (.Call (.Name "min" p) [e, e2] [] pos) ρ (.int (if j < i then j else i)) := j_cb (call_min2 hc) T.min (by decide +kernel) ha rc_min2 hg (by decide) (by decide) he hpl
theorem jb_isi {e2 : Expr} {Ty : String} {t : Value} {b : Bool} (ha : JA X [e, e2] ρ [d, .ty Ty]) (h : tyD d = some t) (hk : PySem.W.kitOne X.K t (.type Ty) = some b) (hg : Gl X "isinstance" := by rfl) (he : starEach [e, e2] X.env = (false, eval e X.env) :: starEach [e2] X.env := by rfl) (hpl : (backTo pos (starEach [e2] X.env)).any (·.1) = false := by rfl) : J X (.Call (.Name "isinstance" p) [e, e2] [] pos) ρ (.bl b) := j_cb call_isi T.isinstance (by decide +kernel) ha (rc_isi h hk) hg (by decide) (by decide) he hpl
end
end Pf

namespace Pf
open PySem PyProof.Rows L2
open Evl (Ex)
section
variable {X : Cx} {pin : List Nat} {st : Stmt} {rest body : List Stmt} {ρ : Rho} {σ : RhoS} {Φ : Out → Prop} {e iter tg : Expr} {d : D} {ds : List D} {pos : Pos} {n : Str}
theorem jv (i : Nat) (hr : ρ[i]? = some (some d)) (hN : X.N[i]? = some n := by rfl) (hv : L2.Vis X.env.scope n := by first | exact Or.inl rfl | exact Or.inr (Or.inl rfl) | exact Or.inr (Or.inr rfl)) (hd : (n == ("__debug__" : Str)) = false := by decide) (hcd : (n == ("__classdict__" : Str)) = false := by decide) : J X (.Name n pos) ρ d := j_var hr hN hv hd hcd
theorem jss_mid (Ψ : RhoS → Prop) (h : JS X pin st σ (fun o => ∃ ρ', o = .nx ρ' ∧ Ψ ρ')) (k : ∀ ρ', Ψ ρ' → JSs X pin rest ρ' Φ) : JSs X pin (st :: rest) σ Φ := jss_cons (h.imp fun o ⟨ρ', e, h⟩ => by subst e; exact k ρ' h)
theorem rangeD_get {lo : Int} {n k : Nat} (h : (rangeD lo n)[k]? = some d) : d = .int (lo + k) ∧ k < n := by
  unfold rangeD at h
  rw [List.getElem?_map] at h
  cases e : (List.range n)[k]? with
  | none => rw [e] at h; cases h
  | some m =>
    rw [e] at h
    obtain ⟨hk, e'⟩ := List.getElem?_eq_some_iff.mp e
    rw [List.getElem_range] at e'
    subst e'
    cases h
    rw [List.length_range] at hk
    exact ⟨rfl, hk⟩
theorem rangeD_length {lo : Int} {n : Nat} : (rangeD lo n).length = n := by unfold rangeD; rw [List.length_map, List.length_range]
theorem rangeD_mem {lo : Int} {n : Nat} (h : d ∈ rangeD lo n) : ∃ k : Nat, d = .int (lo + k) ∧ k < n := by
  obtain ⟨i, hi, e⟩ := List.getElem_of_mem h
  obtain ⟨h1, h2⟩ := rangeD_get (k := i) (by rw [List.getElem?_eq_getElem hi, e])
  exact ⟨i, h1, h2⟩
theorem map_get {α : Type} {f : α → D} {xs : List α} {k : Nat} (h : (xs.map f)[k]? = some d) : ∃ x, xs[k]? = some x ∧ d = f x := by
  rw [List.getElem?_map] at h
  cases e : xs[k]? with
  | none => rw [e] at h; cases h
  | some x => rw [e] at h; cases h; exact ⟨x, rfl, rfl⟩
/-- for k in range(..) -/
theorem js_range {i : Nat} {p : Pos} {a : Expr} (m : Nat) (I : Nat → RhoS → Prop) (T : Bt X.mg) (ha : J X a (fzR σ) (.int (m : Int))) (hm : m < 2 ^ 62) (nd : X.N.Nodup) (h0 : I 0 σ) (turn : ∀ (k : Nat) σ, k < m → I k σ → JSs X pin body (σ.set i (some (.fz (.int (k : Int))))) (turnO (I (k + 1)) Φ)) (done : ∀ σ, I m σ → Φ (.nx σ))
    (hi : X.N[i]? = some n := by rfl) (hx : Loc X.env.scope n := by first | exact Or.inl rfl | exact Or.inr rfl) (hf : X.fn n = true ∨ X.env.scope.names.lookup n = some .local := by first | exact .inl rfl | exact .inr rfl) (hp : i ∉ pin := by decide) (hps : PassesOwn (model X.prog X.w) X.A X.env X.xe := by first | exact PassesOwn.never | assumption)
    (hg : Gl X "range" := by rfl) (hs : starEach [a] X.env = [(false, eval a X.env)] := by rfl) (hc : X.calm = true := by rfl) (hfs : ∀ x, foldedSetIterable (.Call (.Name "range" p) [a] [] pos) X.env x = pure x := by intro _; rfl) {q pos' : Pos} :
    JS X pin (.For (.Name n q) (.Call (.Name "range" p) [a] [] pos) body [] pos') σ Φ := by
  have hj : JI X (.Name n q) (.Call (.Name "range" p) [a] [] pos) (fzR σ) (rangeD 0 m) := by
    have := ji_range1 (X := X) (tg := .Name n q) (p := p) (pos := pos) T.range ha (by omega) (by omega) hg hs
    rwa [Int.toNat_natCast] at this
  refine js_for (pat := .nm i) I hj (pg_name nd hi hx hf) h0 (fun k d σ hd hI => ?_) (fun σ h => done σ (by rw [rangeD_length] at h; exact h)) hps (fun j hj => (List.mem_singleton.mp hj : j = i) ▸ hp) hc hfs
  obtain ⟨rfl, hk⟩ := rangeD_get hd
  refine ⟨_, rfl, ?_⟩
  rw [Int.zero_add]
  exact turn k σ hk hI
/-- for x in a list or tuple of a kind -/
theorem js_each {α : Type} {i : Nat} (xs : List α) (g : α → D) (I : Nat → RhoS → Prop) (hj : JI X (.Name n pos) iter (fzR σ) (xs.map g)) (nd : X.N.Nodup) (h0 : I 0 σ) (turn : ∀ (k : Nat) x σ, xs[k]? = some x → I k σ → JSs X pin body (σ.set i (some (.fz (g x)))) (turnO (I (k + 1)) Φ)) (done : ∀ σ, I xs.length σ → Φ (.nx σ))
    (hi : X.N[i]? = some n := by rfl) (hx : Loc X.env.scope n := by first | exact Or.inl rfl | exact Or.inr rfl) (hf : X.fn n = true ∨ X.env.scope.names.lookup n = some .local := by first | exact .inl rfl | exact .inr rfl) (hp : i ∉ pin := by decide) (hps : PassesOwn (model X.prog X.w) X.A X.env X.xe := by first | exact PassesOwn.never | assumption)
    (hc : X.calm = true := by rfl) (hfs : ∀ x, foldedSetIterable iter X.env x = pure x := by intro _; rfl) {pos' : Pos} :
    JS X pin (.For (.Name n pos) iter body [] pos') σ Φ := by
  refine js_for (pat := .nm i) I hj (pg_name nd hi hx hf) h0 (fun k d σ hd hI => ?_) (fun σ h => done σ (by rw [List.length_map] at h; exact h)) hps (fun j hj => (List.mem_singleton.mp hj : j = i) ▸ hp) hc hfs
  obtain ⟨x, hx, rfl⟩ := map_get hd
  exact ⟨_, rfl, turn k x σ hx hI⟩
end
theorem cmulL {i j : Int} (h1 : -(2 ^ 64) < i := by decide) (h2 : i < 2 ^ 64 := by decide) : CMul i j := .inl ⟨h1, h2⟩
theorem cmulR {i j : Int} (h1 : -(2 ^ 64) < j := by decide) (h2 : j < 2 ^ 64 := by decide) : CMul i j := .inr ⟨h1, h2⟩
end Pf

namespace Pf
open PySem PyProof.Rows L2
open Evl (Ex)
/-! ### == of data of any depth -/
mutual
def fitD : Nat → D → Bool
  | _, .non => true
  | _, .bl _ => true
  | _, .int _ => true
  | _, .str x => PySem.PyData.strOk x
  | n + 1, .lst xs => fitAllD n xs
  | n + 1, .tup xs => fitAllD n xs
  | _, _ => false
def fitAllD : Nat → List D → Bool
  | _, [] => true
  | n, x :: xs => fitD n x && fitAllD n xs
end
mutual
def eqvD : D → D → Bool
  | .non, .non => true
  | .bl a, .bl b => a == b
  | .bl a, .int b => (if a then 1 else 0) == b
  | .int a, .bl b => a == (if b then 1 else 0)
  | .int a, .int b => a == b
  | .str a, .str b => a == b
  | .lst xs, .lst ys => eqvAllD xs ys
  | .tup xs, .tup ys => eqvAllD xs ys
  | _, _ => false
def eqvAllD : List D → List D → Bool
  | [], [] => true
  | x :: xs, y :: ys => eqvD x y && eqvAllD xs ys
  | _, _ => false
end
mutual
theorem fit_py : ∀ (n : Nat) (d : D), fitD n d = true → ∃ p, toPy d = some p ∧ p.canLay0 = true ∧ p.depth ≤ n
  | _, .non, _ => ⟨.none, by simp [toPy], by simp [PyData.canLay0], by simp [PyData.depth]⟩
  | _, .bl b, _ => ⟨.bool b, by simp [toPy], by simp [PyData.canLay0], by simp [PyData.depth]⟩
  | _, .int b, _ => ⟨.int b, by simp [toPy], by simp [PyData.canLay0], by simp [PyData.depth]⟩
  | _, .str x, h => ⟨.str x, by simp [toPy], by simpa [PyData.canLay0, fitD] using h, by simp [PyData.depth]⟩
  | n + 1, .lst xs, h => by
    obtain ⟨ps, h1, h2, h3⟩ := fitAll_py n xs (by simpa [fitD] using h)
    exact ⟨.list ps, by simp [toPy, h1], by simpa [PyData.canLay0] using h2, by simp [PyData.depth]; omega⟩
  | n + 1, .tup xs, h => by
    obtain ⟨ps, h1, h2, h3⟩ := fitAll_py n xs (by simpa [fitD] using h)
    exact ⟨.tuple ps, by simp [toPy, h1], by simpa [PyData.canLay0] using h2, by simp [PyData.depth]; omega⟩
  | 0, .lst xs, h => by simp [fitD] at h
  | 0, .tup xs, h => by simp [fitD] at h
  | _, .dct _, h => by simp [fitD] at h
  | _, .ins _ _, h => by simp [fitD] at h
  | _, .scr _, h => by simp [fitD] at h
  | _, .ty _, h => by simp [fitD] at h
theorem fitAll_py : ∀ (n : Nat) (ds : List D), fitAllD n ds = true → ∃ ps, toPys ds = some ps ∧ PyData.canLayAll0 ps = true ∧ PyData.depthAll ps ≤ n
  | _, [], _ => ⟨[], by simp [toPys], by simp [PyData.canLayAll0], by simp [PyData.depthAll]⟩
  | n, x :: xs, h => by
    have h' : fitD n x = true ∧ fitAllD n xs = true := by simpa [fitAllD] using h
    obtain ⟨p, h1, h2, h3⟩ := fit_py n x h'.1
    obtain ⟨ps, k1, k2, k3⟩ := fitAll_py n xs h'.2
    exact ⟨p :: ps, by simp [toPys, h1, k1], by simp [PyData.canLayAll0, h2, k2], by simp [PyData.depthAll]; omega⟩
end
mutual
theorem eqv_py : ∀ (n : Nat) (d e : D) (p q : PyData), fitD n d = true → fitD n e = true → toPy d = some p → toPy e = some q → PyData.eqv p q = eqvD d e := by
  intro n d e p q h1 h2 h3 h4
  cases d <;> simp only [toPy, Option.some.injEq, Option.map_eq_some_iff, reduceCtorEq] at h3 <;>
    cases e <;> simp only [toPy, Option.some.injEq, Option.map_eq_some_iff, reduceCtorEq] at h4 <;>
    first
    | (subst h3; subst h4; simp [PyData.eqv, eqvD]; done)
    | (obtain ⟨ps, h3, rfl⟩ := h3; subst h4; simp [PyData.eqv, eqvD]; done)
    | (obtain ⟨ps, h4, rfl⟩ := h4; subst h3; simp [PyData.eqv, eqvD]; done)
    | (obtain ⟨ps, h3, rfl⟩ := h3
       obtain ⟨qs, h4, rfl⟩ := h4
       first
       | (simp [PyData.eqv, eqvD]; done)
       | (simp only [PyData.eqv, eqvD]
          cases n with
          | zero => simp [fitD] at h1
          | succ n => exact eqvAll_py n _ _ ps qs (by simpa [fitD] using h1) (by simpa [fitD] using h2) h3 h4))
theorem eqvAll_py : ∀ (n : Nat) (ds es : List D) (ps qs : List PyData), fitAllD n ds = true → fitAllD n es = true → toPys ds = some ps → toPys es = some qs → PyData.eqvAll ps qs = eqvAllD ds es
  | n, [], [], ps, qs, _, _, h3, h4 => by simp [toPys] at h3 h4; subst h3; subst h4; simp [PyData.eqvAll, eqvAllD]
  | n, [], e :: es, ps, qs, _, h2, h3, h4 => by
    have h' : fitD n e = true ∧ fitAllD n es = true := by simpa [fitAllD] using h2
    obtain ⟨q, k1, _, _⟩ := fit_py n e h'.1
    obtain ⟨qs', k2, _, _⟩ := fitAll_py n es h'.2
    simp [toPys] at h3; subst h3
    simp [toPys, k1, k2] at h4; subst h4
    simp [PyData.eqvAll, eqvAllD]
  | n, e :: es, [], ps, qs, h2, _, h4, h3 => by
    have h' : fitD n e = true ∧ fitAllD n es = true := by simpa [fitAllD] using h2
    obtain ⟨q, k1, _, _⟩ := fit_py n e h'.1
    obtain ⟨qs', k2, _, _⟩ := fitAll_py n es h'.2
    simp [toPys] at h3; subst h3
    simp [toPys, k1, k2] at h4; subst h4
    simp [PyData.eqvAll, eqvAllD]
  | n, d :: ds, e :: es, ps, qs, h1, h2, h3, h4 => by
    have h1' : fitD n d = true ∧ fitAllD n ds = true := by simpa [fitAllD] using h1
    have h2' : fitD n e = true ∧ fitAllD n es = true := by simpa [fitAllD] using h2
    obtain ⟨p, k1, _, _⟩ := fit_py n d h1'.1
    obtain ⟨ps', k2, _, _⟩ := fitAll_py n ds h1'.2
    obtain ⟨q, l1, _, _⟩ := fit_py n e h2'.1
    obtain ⟨qs', l2, _, _⟩ := fitAll_py n es h2'.2
    simp [toPys, k1, k2] at h3; subst h3
    simp [toPys, l1, l2] at h4; subst h4
    simp only [PyData.eqvAll, eqvAllD, eqv_py n d e p q h1'.1 h2'.1 k1 l1, eqvAll_py n ds es ps' qs' h1'.2 h2'.2 k2 l2]
end
theorem shaped_of {p : PyData} {n : Nat} (h1 : p.canLay0 = true) (h2 : p.depth ≤ n) (hn : n ≤ 60) : SeqAt.shaped p = true := by
  unfold SeqAt.shaped
  rw [h1, Bool.true_and]
  exact decide_eq_true (by omega)
section
variable {X : Cx} {d e : D} {n : Nat}
theorem cd_eqF (n : Nat) (hu : X.A.units + 64 < cLine) (h1 : fitD n d = true) (h2 : fitD n e = true) (hn : n ≤ 60 := by decide) : CmD X .Eq d e (eqvD d e) := by
  obtain ⟨p, a1, a2, a3⟩ := fit_py n d h1
  obtain ⟨q, b1, b2, b3⟩ := fit_py n e h2
  exact cd_eqD hu a1 b1 (shaped_of a2 a3 hn) (shaped_of b2 b3 hn) (eqv_py n d e p q h1 h2 a1 b1)
theorem cd_neF (n : Nat) (hu : X.A.units + 64 < cLine) (h1 : fitD n d = true) (h2 : fitD n e = true) (hn : n ≤ 60 := by decide) : CmD X .NotEq d e (!eqvD d e) := by
  obtain ⟨p, a1, a2, a3⟩ := fit_py n d h1
  obtain ⟨q, b1, b2, b3⟩ := fit_py n e h2
  exact cd_neD hu a1 b1 (shaped_of a2 a3 hn) (shaped_of b2 b3 hn) (eqv_py n d e p q h1 h2 a1 b1)
end
mutual
theorem eqvD_refl : ∀ (n : Nat) (d : D), fitD n d = true → eqvD d d = true
  | _, .non, _ => by simp [eqvD]
  | _, .bl b, _ => by simp [eqvD]
  | _, .int b, _ => by simp [eqvD]
  | _, .str x, h => by simp [eqvD]
  | n + 1, .lst xs, h => by simp only [eqvD]; exact eqvAllD_refl n xs (by simpa [fitD] using h)
  | n + 1, .tup xs, h => by simp only [eqvD]; exact eqvAllD_refl n xs (by simpa [fitD] using h)
  | 0, .lst xs, h => by simp [fitD] at h
  | 0, .tup xs, h => by simp [fitD] at h
  | _, .dct _, h => by simp [fitD] at h
  | _, .ins _ _, h => by simp [fitD] at h
  | _, .scr _, h => by simp [fitD] at h
  | _, .ty _, h => by simp [fitD] at h
theorem eqvAllD_refl : ∀ (n : Nat) (ds : List D), fitAllD n ds = true → eqvAllD ds ds = true
  | _, [], _ => by simp [eqvAllD]
  | n, x :: xs, h => by
    have h' : fitD n x = true ∧ fitAllD n xs = true := by simpa [fitAllD] using h
    simp [eqvAllD, eqvD_refl n x h'.1, eqvAllD_refl n xs h'.2]
end
theorem fitStrs (n : Nat) : ∀ (xs : List Str), (∀ x ∈ xs, PySem.PyData.strOk x = true) → fitAllD n (xs.map D.str) = true
  | [], _ => by simp [fitAllD]
  | x :: xs, h => by simp [fitAllD, fitD, h x List.mem_cons_self, fitStrs n xs fun y hy => h y (List.mem_cons_of_mem _ hy)]
theorem fitInts (n : Nat) : ∀ (xs : List Int), fitAllD n (xs.map D.int) = true
  | [] => by simp [fitAllD]
  | x :: xs => by simp [fitAllD, fitD, fitInts n xs]
theorem eqv_strsNil : ∀ (xs : List Str), eqvD (.tup (xs.map D.str)) (.tup []) = decide (xs = [])
  | [] => by simp [eqvD, eqvAllD]
  | x :: xs => by simp [eqvD, eqvAllD]
end Pf

namespace Pf
open PySem PyProof.Rows L2
open Evl (Ex)
theorem atI_mem {α : Type} {L : List α} {i : Int} (h0 : 0 ≤ i) (h1 : i < L.length) : ∃ d, atI L i = some d ∧ d ∈ L := by
  have h2 : i.toNat < L.length := by omega
  refine ⟨L[i.toNat], ?_, List.getElem_mem _⟩
  unfold atI ixN
  rw [if_pos h0, if_pos h1]
  show L[i.toNat]? = _
  rw [List.getElem?_eq_getElem h2]
theorem atI_map {α : Type} (f : α → D) (x0 : α) {L : List α} {i : Int} (h0 : 0 ≤ i) (h1 : i < L.length) : atI (L.map f) i = some (f (L.getD i.toNat x0)) := by
  have h2 : i.toNat < L.length := by omega
  unfold atI ixN
  rw [List.length_map, if_pos h0, if_pos h1]
  show (L.map f)[i.toNat]? = _
  rw [List.getElem?_map, List.getElem?_eq_getElem h2, List.getD_eq_getElem?_getD, List.getElem?_eq_getElem h2]
  rfl
theorem cut_map {α β : Type} (f : α → β) (xs : List α) (a b : Option Int) : cut (xs.map f) a b = (cut xs a b).map f := by
  unfold cut
  rw [List.length_map, ← List.map_drop, ← List.map_take]
theorem cut_len {α : Type} (xs : List α) (a b : Option Int) : (cut xs a b).length ≤ xs.length := by
  unfold cut
  rw [List.length_take, List.length_drop]
  omega
theorem cut_sub {α : Type} {xs : List α} {a b : Option Int} {x : α} (h : x ∈ cut xs a b) : x ∈ xs := List.mem_of_mem_drop (List.mem_of_mem_take h)
section
variable {X : Cx} {elt tg iter : Expr} {ifs : List Expr} {scope : Scope} {own : List (Str × Nat)} {pos : Pos} {ρ : Rho}
/-- a comprehension without a test -/
theorem j_lcM {α : Type} {i : Nat} (xs : List α) (g : α → D) (h : α → D) (hi : JI X tg iter ρ (xs.map g)) (ok : BlkOk X.N X.env.scope scope own) (hg : ∀ s H C cl fp, PG (blkX X scope s H C cl fp) tg (gName i)) (hlen : xs.length < sizeLine)
    (turn : ∀ x ∈ xs, ∀ s H C cl fp, J (blkX X scope s H C cl fp) elt ((wipeR ρ (own.map (·.2))).set i (some (g x))) (h x)) (hN : X.N.Nodup) (hown : i ∈ own.map (·.2) := by decide) (hc : X.calm = true := by rfl) (hs : ∀ x, foldedSetIterable iter X.env x = pure x := by intro _; rfl) :
    J X (.ListComp elt [⟨tg, iter, [], 0⟩] scope pos) ρ (.lst (xs.map h)) := by
  have := j_lcN (X := X) (elt := elt) (tg := tg) (iter := iter) (ifs := []) (scope := scope) (own := own) (pos := pos) (ρ := ρ) (i := i) xs g (fun _ => true) h hi ok hg hlen (fun x hx s H C cl fp => ⟨jts_nil, fun _ => turn x hx s H C cl fp⟩) hN hown hc hs
  rwa [List.filter_eq_self.mpr (fun _ _ => rfl)] at this
theorem j_slStrs {a : Expr} {lo hi : Option Expr} {o1 o2 : Option Int} {p2 : Pos} {ds : List D} (xs : List Str) (ha : J X a ρ (.tup ds)) (hx : ds = xs.map D.str) (h1 : JO X lo ρ o1) (h2 : JO X hi ρ o2) : J X (.Subscript a (.Slice lo hi none p2) pos) ρ (.tup ((cut xs o1 o2).map D.str)) := by
  rw [← cut_map]; subst hx; exact j_slT ha h1 h2
/-- a call whose first argument is known by a property -/
theorem jp_call1 {e : Expr} {es : List Expr} {ds : List D} {p : Pos} {x : Str} {k j n : Nat} {G : List D → (D → Prop) → Prop} {P1 P : D → Prop} (c : PFn X.prog X.w X.K X.mg X.base k x n G) (hr : Room j X.A) (h1 : JP X e ρ P1) (ha : JA X es ρ ds) (hG : ∀ d, P1 d → G (d :: ds) P) (hk : k ≤ j := by decide) (hn : ds.length + 1 = n := by rfl) (hg : Gl X x := by rfl) (hdb : (x == ("__debug__" : Str)) = false := by decide)
    (he : starEach (e :: es) X.env = (false, eval e X.env) :: starEach es X.env := by rfl) (hpl : (backTo pos (starEach es X.env)).any (·.1) = false := by rfl) : JP X (.Call (.Name x p) (e :: es) [] pos) ρ P := ⟨fun W σ H ex hV Q g => by
  obtain ⟨f, fd, ps, F, hm, hkp, hb⟩ := c.ex
  refine .of (pe_call (F.mono hk) hr hg hm hkp hb .nil pass0 (pa_cons pe_w pa_w he) hdb he hpl) ?_
  refine h1 W σ H ex hV _ fun d1 hd1 v W1 H1 s1 r1 => ?_
  refine ha W1 σ H1 s1.wh (hV.mono s1.ww) _ fun vs W2 H2 s2 r2 => ?_
  show spP X.K n G ((v :: vs) ++ []) H2 Q E0
  rw [List.append_nil]
  exact ⟨by rw [List.length_cons, ← r2.length]; exact hn, W2, _, P, s2.wh, .cons (r1.mono s2.ww) r2, hG d1 hd1, fun d' hd => (g d' hd).step (s1.trans s2)⟩⟩
end
section
variable {X : Cx} {a b c : Expr} {rest : List Expr} {ρ : Rho} {pos : Pos} {d1 d2 : D}
theorem jw_orT (h : JT X a ρ true) : JW X (.BoolOp .Or (a :: b :: rest) pos) ρ true := jw_or (u := true) h (fun z => Bool.noConfusion z)
theorem jw_andF (h : JT X a ρ false) : JW X (.BoolOp .And (a :: b :: rest) pos) ρ false := jw_and (u := true) h (fun z => Bool.noConfusion z)
theorem j_orTr (h : J X a ρ (.bl true)) : J X (.BoolOp .Or (a :: b :: rest) pos) ρ (.bl true) := j_or (u := true) h (fun z => Bool.noConfusion z)
theorem j_andFa (h : J X a ρ (.bl false)) : J X (.BoolOp .And (a :: b :: rest) pos) ρ (.bl false) := j_and (u := true) h (fun z => Bool.noConfusion z)
theorem j_ifT (h : JT X c ρ true) (h1 : J X a ρ d1) : J X (.IfExp c a b pos) ρ d1 := (j_ifExp (d2 := d1) h (fun _ => h1) (fun z => Bool.noConfusion z)).to (by rw [if_pos rfl])
theorem j_ifF (h : JT X c ρ false) (h1 : J X b ρ d1) : J X (.IfExp c a b pos) ρ d1 := (j_ifExp (d1 := d1) h (fun z => Bool.noConfusion z) (fun _ => h1)).to (by rw [if_neg Bool.false_ne_true])
end
theorem ji_rangeN {X : Cx} {tg a : Expr} {ρ : Rho} {i : Int} {p pos : Pos} (n : Nat) (T : Bt X.mg) (h : J X a ρ (.int i)) (hn : i.toNat = n) (h1 : -(2 ^ 62) ≤ i) (h2 : i < 2 ^ 62) (hg : Gl X "range" := by rfl) (hs : starEach [a] X.env = [(false, eval a X.env)] := by rfl) :
    JI X tg (.Call (.Name "range" p) [a] [] pos) ρ ((List.range n).map fun k => D.int (0 + (k : Nat))) := by
  have := ji_range1 (X := X) (tg := tg) (p := p) (pos := pos) T.range h h1 h2 hg hs
  rw [hn] at this
  exact this
theorem atI_mapN {α : Type} (f : α → D) (x0 : α) {L : List α} {i : Int} (n : Nat) (h0 : i = (n : Int)) (h1 : n < L.length) : atI (L.map f) i = some (f (L.getD n x0)) := by
  subst h0
  have := atI_map f x0 (L := L) (i := (n : Int)) (by omega) (by omega)
  rwa [Int.toNat_natCast] at this
theorem ble {n m : Nat} (h : Nat.ble n m = true) : n ≤ m := Nat.le_of_ble_eq_true h
/-- None or an int -/
def optI : Option Int → D
  | none => .non
  | some i => .int i
end Pf

namespace Pf
open PySem L2
open Evl (Ex)
/-! ### own objects in the fields of an own object -/
section
variable {K : PySem.W.Frag} {Hf H : Hp}
/-- the value of a field, and how the whole stands when it alone is changed -/
theorem own_at {f : Str} {d : D} : ∀ {fds : List (Str × D)} {fs : List (Str × V)} {B : List Addr}, fs.map (·.1) = fds.map (·.1) → OwnFs K Hf H (fds.map (·.2)) (fs.map (·.2)) B → fds.lookup f = some d →
    ∃ v Af, fs.lookup f = some v ∧ Own K Hf H d v Af ∧ (mutD d = true → Af ≠ []) ∧ (∀ a ∈ Af, a ∈ B) ∧ ∀ {H' : Hp} {d' : D} {Ag : List Addr}, (∀ b ∈ B, b ∉ Af → H' b = H b) → Own K Hf H' d' v Ag → (∀ a ∈ Ag, a ∈ Af ∨ a ∉ B) → (mutD d' = true → Ag ≠ []) →
      ∃ B', OwnFs K Hf H' ((putD f d' fds).map (·.2)) (fs.map (·.2)) B' ∧ (putD f d' fds).map (·.1) = fds.map (·.1) ∧ ∀ a ∈ B', a ∈ B ∨ a ∈ Ag
  | [], _, _, _, _, h => by cases h
  | _ :: _, [], _, h, _, _ => by cases h
  | (g, u) :: r0, (g', u') :: r', _, hn, hr, hf => by
    simp only [List.map_cons, List.cons.injEq] at hn
    obtain ⟨hg, hn⟩ := hn
    subst hg
    cases hr with
    | @cons _ _ _ _ A0 B0 q t nd w =>
      rw [List.lookup_cons] at hf
      by_cases e : g' = f
      · subst e
        rw [show (g' == g') = true from beq_self_eq_true _] at hf
        cases hf
        refine ⟨u', A0, by rw [List.lookup_cons, show (g' == g') = true from beq_self_eq_true _], q, w, fun a ha => List.mem_append_left _ ha, fun {H' d' Ag} hH ow hA hw => ⟨Ag ++ B0, ?_, ?_, ?_⟩⟩
        · unfold putD
          rw [if_pos rfl]
          refine .cons ow (t.move (.refl _) fun b hb => hH b (List.mem_append_right _ hb) fun z => nd b z hb) (fun a ha hb => ?_) hw
          rcases hA a ha with z | z
          · exact nd a z hb
          · exact z (List.mem_append_right _ hb)
        · unfold putD; rw [if_pos rfl]; rfl
        · intro a ha
          rcases List.mem_append.mp ha with z | z
          · exact .inr z
          · exact .inl (List.mem_append_right _ z)
      · have e' : (f == g') = false := by rw [beq_eq_false_iff_ne]; exact fun z => e z.symm
        rw [e'] at hf
        obtain ⟨v, Af, k1, k2, kw, k3, k4⟩ := own_at hn t hf
        refine ⟨v, Af, by rw [List.lookup_cons, e']; exact k1, k2, kw, fun a ha => List.mem_append_right _ (k3 a ha), fun {H' d' Ag} hH ow hA hw => ?_⟩
        obtain ⟨B', m1, m2, m3⟩ := k4 (fun b hb => hH b (List.mem_append_right _ hb)) ow (fun a ha => by
          rcases hA a ha with z | z
          · exact .inl z
          · exact .inr fun y => z (List.mem_append_right _ y)) hw
        refine ⟨A0 ++ B', ?_, ?_, ?_⟩
        · unfold putD
          rw [if_neg e]
          refine .cons (q.move (.refl _) fun a ha => hH a (List.mem_append_left _ ha) fun z => nd a ha (k3 a z)) m1 (fun a ha hb => ?_) w
          rcases m3 a hb with z | z
          · exact nd a ha z
          · rcases hA a z with y | y
            · exact nd a ha (k3 a y)
            · exact y (List.mem_append_left _ ha)
        · unfold putD; rw [if_neg e]; simp only [List.map_cons, m2]
        · intro a ha
          rcases List.mem_append.mp ha with z | z
          · exact .inl (List.mem_append_left _ z)
          · rcases m3 a z with y | y
            · exact .inl (List.mem_append_right _ y)
            · exact .inr y
/-- a field is set to a new own object -/
theorem putD_ownG {f : Str} {d : D} {v : V} {Ag : List Addr} (r : Own K Hf H d v Ag) (hw : Ag ≠ []) : ∀ {fds : List (Str × D)} {fs : List (Str × V)} {B : List Addr}, fs.map (·.1) = fds.map (·.1) → OwnFs K Hf H (fds.map (·.2)) (fs.map (·.2)) B → (∀ a ∈ Ag, a ∉ B) →
    ∃ B', (∀ b ∈ B', b ∈ B ∨ b ∈ Ag) ∧ OwnFs K Hf H ((putD f d fds).map (·.2)) ((putF f v fs).map (·.2)) B'
  | [], [], _, _, _, _ => ⟨Ag ++ [], fun b hb => .inr (by simpa using hb), .cons r .nil (fun _ _ h => by cases h) (fun _ => hw)⟩
  | [], _ :: _, _, h, _, _ => by cases h
  | _ :: _, [], _, h, _, _ => by cases h
  | (g, u) :: r0, (g', u') :: r', _, h, hr, hA => by
    simp only [List.map_cons, List.cons.injEq] at h
    obtain ⟨hg, h⟩ := h
    subst hg
    cases hr with
    | @cons _ _ _ _ A B q t nd w =>
      unfold putF putD
      by_cases e : g' = f
      · rw [if_pos e, if_pos e]
        exact ⟨Ag ++ B, fun b hb => by
          rcases List.mem_append.mp hb with z | z
          · exact .inr z
          · exact .inl (List.mem_append_right _ z), .cons r t (fun a ha hb => hA a ha (List.mem_append_right _ hb)) fun _ => hw⟩
      · rw [if_neg e, if_neg e]
        obtain ⟨B', h1, h2⟩ := putD_ownG r hw h t fun a ha hb => hA a ha (List.mem_append_right _ hb)
        exact ⟨A ++ B', fun b hb => by
          rcases List.mem_append.mp hb with z | z
          · exact .inl (List.mem_append_left _ z)
          · exact (h1 b z).imp_left fun y => List.mem_append_right _ y, .cons q h2 (fun a ha hb => by
          rcases h1 a hb with z | z
          · exact nd a ha z
          · exact hA a z (List.mem_append_left _ ha)) w⟩
end
section
variable {K : PySem.W.Frag} {E : Ent} {ρ : RhoS} {σ : L2.St} {H Hf : Hp} {A : Nat → List Addr} {i : Nat} {C : Addr} {fds : List (Str × D)} {f : Str} {d : D}
theorem StAt.updF (s : StAt K E ρ σ H Hf A) (hi : ρ[i]? = some (some (.ow (.ins C fds)))) (hf : fds.lookup f = some d) :
    ∃ ad dx fs v Af, σ[i]? = some (some (.ref ad)) ∧ H ad = some (.ins C dx fs) ∧ fs.length = fds.length ∧ fs.lookup f = some v ∧ Own K Hf H d v Af ∧ (mutD d = true → Af ≠ []) ∧ ad ∉ Af ∧ (∀ a ∈ Af, Hf a = none ∧ H a ≠ none) ∧
      ∀ {H' : Hp} {d' : D} {Ag : List Addr}, (∀ b, b ∉ Af → H b ≠ none → H' b = H b) → (∀ b, H' b = none → H b = none) → Own K Hf H' d' v Ag → (∀ a ∈ Ag, H' a ≠ none ∧ (a ∈ Af ∨ H a = none)) → (mutD d' = true → Ag ≠ []) →
        StOk K E (ρ.set i (some (.ow (.ins C (putD f d' fds))))) σ H' := by
  obtain ⟨v0, hσ, ow, ne⟩ := s.sl i _ hi
  generalize hA : A i = Ai at ow ne
  cases ow with
  | fz _ => exact absurd rfl ne
  | @ins ad _ dx fs _ B h1 h2 h3 nB =>
    obtain ⟨v, Af, k1, k2, kw, k3, k4⟩ := own_at h2 h3 hf
    have inA : ∀ a ∈ B, a ∈ A i := fun a ha => by rw [hA]; exact List.mem_cons_of_mem _ ha
    have adA : ad ∈ A i := by rw [hA]; exact List.mem_cons_self
    have nAf : ad ∉ Af := fun z => nB (k3 _ z)
    refine ⟨ad, dx, fs, v, Af, hσ, h1, by have := congrArg List.length h2; simpa using this, k1, k2, kw, nAf, fun a ha => ⟨(s.ap i a (inA a (k3 a ha))).1, (s.ap i a (inA a (k3 a ha))).2.1⟩, fun {H' d' Ag} c1 c2 c3 c4 c5 => ?_⟩
    have live : ∀ b ∈ A i, H b ≠ none := fun b hb => (s.ap i b hb).2.1
    obtain ⟨B', m1, m2, m3⟩ := k4 (fun b hb hn => c1 b hn (live b (inA b hb))) c3 (fun a ha => (c4 a ha).2.imp_right fun z y => live a (inA a y) z) c5
    have nB' : ad ∉ B' := fun z => by
      rcases m3 ad z with y | y
      · exact nB y
      · rcases (c4 ad y).2 with x | x
        · exact nAf x
        · exact live ad adA x
    refine ⟨Hf, _, s.after hi hσ (A' := ad :: B') ⟨.refl _, fun b o h => ?_, fun b o h hb => ?_, c2, fun b h1 h2 => absurd h2 h1, .ins (by rw [c1 ad nAf (live ad adA)]; exact h1) (by rw [m2]; exact h2) m1 nB', by simp, fun b hb => ?_⟩⟩
    · have hb : b ∉ Af := fun z => by
        have := (s.ap i b (inA b (k3 b z))).1
        rw [h] at this; cases this
      have hs := s.fh b o h
      rw [c1 b hb (by rw [hs]; simp)]; exact hs
    · rw [c1 b (fun z => hb (inA b (k3 b z))) (by rw [h]; simp)]; exact h
    · rcases List.mem_cons.mp hb with z | z
      · rw [z]; exact ⟨(s.ap i ad adA).1, by rw [c1 ad nAf (live ad adA)]; exact live ad adA, .inl adA⟩
      · by_cases hg : b ∈ Ag
        · have h5 := c4 b hg
          rcases h5.2 with y | y
          · exact ⟨(s.ap i b (inA b (k3 b y))).1, h5.1, .inl (inA b (k3 b y))⟩
          · exact ⟨Evl.fresh_back s.fh y, h5.1, .inr y⟩
        · have hB : b ∈ B := (m3 b z).resolve_right hg
          refine ⟨(s.ap i b (inA b hB)).1, ?_, .inl (inA b hB)⟩
          intro hz
          exact live b (inA b hB) (c2 b hz)
/-- a field is set to an object that has just been made -/
theorem StAt.newF (s : StAt K E ρ σ H Hf A) (hi : ρ[i]? = some (some (.ow (.ins C fds)))) {l : Addr} {o : HO} {d' : D} (hl : H l = none) (ow : ∀ H', H' l = some o → Own K Hf H' d' (.ref l) [l]) :
    ∃ ad dx fs, σ[i]? = some (some (.ref ad)) ∧ ad ≠ l ∧ H ad = some (.ins C dx fs) ∧ fs.length = fds.length ∧ StOk K E (ρ.set i (some (.ow (.ins C (putD f d' fds))))) σ (upd (upd H l o) ad (.ins C dx (putF f (.ref l) fs))) := by
  obtain ⟨v0, hσ, ow0, ne⟩ := s.sl i _ hi
  generalize hA : A i = Ai at ow0 ne
  cases ow0 with
  | fz _ => exact absurd rfl ne
  | @ins ad _ dx fs _ B h1 h2 h3 nB =>
    have inA : ∀ a ∈ B, a ∈ A i := fun a ha => by rw [hA]; exact List.mem_cons_of_mem _ ha
    have adA : ad ∈ A i := by rw [hA]; exact List.mem_cons_self
    have live : ∀ b ∈ A i, H b ≠ none := fun b hb => (s.ap i b hb).2.1
    have nl : ad ≠ l := fun z => live ad adA (by rw [z]; exact hl)
    refine ⟨ad, dx, fs, hσ, nl, h1, by have := congrArg List.length h2; simpa using this, ?_⟩
    have hB : ∀ b ∈ B, upd (upd H l o) ad (.ins C dx (putF f (.ref l) fs)) b = H b := fun b hb => by
      rw [upd_ne fun z => nB (by rw [← z]; exact hb), upd_ne fun z => live b (inA b hb) (by rw [z]; exact hl)]
    have hll : upd (upd H l o) ad (.ins C dx (putF f (.ref l) fs)) l = some o := by rw [upd_ne nl.symm, upd_same]
    obtain ⟨B', m1, m2⟩ := putD_ownG (f := f) (ow _ hll) (by simp) h2 (h3.move (.refl _) hB) (fun a ha hb => by
      have e : a = l := by simpa using ha
      subst e
      exact live _ (inA _ hb) hl)
    have hu : ∀ b, b ≠ ad → b ≠ l → upd (upd H l o) ad (.ins C dx (putF f (.ref l) fs)) b = H b := fun b q1 q2 => by rw [upd_ne q1, upd_ne q2]
    have nB' : ad ∉ B' := fun z => by
      rcases m1 ad z with y | y
      · exact nB y
      · exact nl (by simpa using y)
    refine ⟨Hf, _, s.after hi hσ (A' := ad :: B') ⟨.refl _, fun b o' h => ?_, fun b o' h hb => ?_, fun b h => ?_, fun b h1 h2 => absurd h2 h1, .ins upd_same (putD_names h2) m2 nB', by simp, fun b hb => ?_⟩⟩
    · have e1 : b ≠ ad := fun z => by
        have := (s.ap i ad adA).1
        rw [← z, h] at this; cases this
      have hs := s.fh b o' h
      have e2 : b ≠ l := fun z => by rw [z, hl] at hs; cases hs
      rw [hu b e1 e2]; exact hs
    · have e1 : b ≠ ad := fun z => hb (by rw [z]; exact adA)
      have e2 : b ≠ l := fun z => by rw [z, hl] at h; cases h
      rw [hu b e1 e2]; exact h
    · by_cases e1 : b = ad
      · rw [e1, upd_same] at h; cases h
      · by_cases e2 : b = l
        · rw [e2]; exact hl
        · rw [hu b e1 e2] at h; exact h
    · rcases List.mem_cons.mp hb with z | z
      · rw [z]; exact ⟨(s.ap i ad adA).1, by rw [upd_same]; simp, .inl adA⟩
      · rcases m1 b z with y | y
        · exact ⟨(s.ap i b (inA b y)).1, by rw [hB b y]; exact live b (inA b y), .inl (inA b y)⟩
        · have e : b = l := by simpa using y
          rw [e]
          exact ⟨Evl.fresh_back s.fh hl, by rw [hll]; simp, .inr hl⟩
end
end Pf

namespace Pf
open PySem L2
open Evl (Ex)
/-! ### dicts as data -/
def getD (kds : List (Key × D)) (k : Key) : Option D := (kds.find? fun kv => decide (kv.1 = k)).map (·.2)
def hasD (kds : List (Key × D)) (k : Key) : Bool := kds.any fun kv => decide (kv.1 = k)
def setD (kds : List (Key × D)) (k : Key) (d : D) : List (Key × D) := if hasD kds k = true then kds.map (fun kv => if kv.1 = k then (kv.1, d) else kv) else kds ++ [(k, d)]
def delD (kds : List (Key × D)) (k : Key) : List (Key × D) := kds.filter fun kv => decide (kv.1 ≠ k)
section
variable {K : PySem.W.Frag} {Hf H : Hp}
theorem has_keys : ∀ {kds : List (Key × D)} {kvs : List (Key × V)} {k : Key}, kvs.map (·.1) = kds.map (·.1) → (kvs.any fun kv => decide (kv.1 = k)) = hasD kds k
  | [], [], _, _ => rfl
  | [], _ :: _, _, h => by cases h
  | _ :: _, [], _, h => by cases h
  | (g, u) :: r, (g', u') :: r', k, h => by
    simp only [List.map_cons, List.cons.injEq] at h
    obtain ⟨hg, h⟩ := h
    subst hg
    have := has_keys (k := k) h
    unfold hasD at this ⊢
    rw [List.any_cons, List.any_cons, this]
theorem get_rep : ∀ {kds : List (Key × D)} {kvs : List (Key × V)} {k : Key} {d : D}, kvs.map (·.1) = kds.map (·.1) → RepAll K H (kds.map (·.2)) (kvs.map (·.2)) → getD kds k = some d → ∃ v, valV kvs k = some v ∧ Rep K H d v
  | [], [], _, _, _, _, h => by cases h
  | [], _ :: _, _, _, h, _, _ => by cases h
  | _ :: _, [], _, _, h, _, _ => by cases h
  | (g, u) :: r, (g', u') :: r', k, d, h, hr, hd => by
    simp only [List.map_cons, List.cons.injEq] at h
    obtain ⟨hg, h⟩ := h
    subst hg
    cases hr with
    | cons q t =>
      by_cases e : g' = k
      · subst e
        have : u = d := by simpa [getD] using hd
        subst this
        exact ⟨u', valV_pos rfl, q⟩
      · have hd' : getD r k = some d := by simpa [getD, e] using hd
        obtain ⟨v, h1, h2⟩ := get_rep h t hd'
        exact ⟨v, by rw [valV_neg (p := (g', u')) e]; exact h1, h2⟩
theorem set_keys {k : Key} {d : D} {v : V} {kds : List (Key × D)} {kvs : List (Key × V)} (h : kvs.map (·.1) = kds.map (·.1)) : (putK kvs k v).map (·.1) = (setD kds k d).map (·.1) := by
  unfold putK setD
  rw [has_keys h]
  split
  · rw [List.map_map, List.map_map]
    rw [show ((fun x : Key × V => x.1) ∘ fun kv : Key × V => if kv.1 = k then (kv.1, v) else kv) = fun x => x.1 from funext fun x => by simp only [Function.comp]; split <;> rfl]
    rw [show ((fun x : Key × D => x.1) ∘ fun kv : Key × D => if kv.1 = k then (kv.1, d) else kv) = fun x => x.1 from funext fun x => by simp only [Function.comp]; split <;> rfl]
    exact h
  · rw [List.map_append, List.map_append, h]; rfl
theorem set_map {k : Key} {d : D} {v : V} (r : Rep K Hf d v) : ∀ {kds : List (Key × D)} {kvs : List (Key × V)} {B : List Addr}, kvs.map (·.1) = kds.map (·.1) → OwnAll K Hf H (kds.map (·.2)) (kvs.map (·.2)) B →
    ∃ B', (∀ b ∈ B', b ∈ B) ∧ OwnAll K Hf H ((kds.map fun kv => if kv.1 = k then (kv.1, d) else kv).map (·.2)) ((kvs.map fun kv => if kv.1 = k then (kv.1, v) else kv).map (·.2)) B'
  | [], [], _, _, _ => ⟨[], by simp, .nil⟩
  | [], _ :: _, _, h, _ => by cases h
  | _ :: _, [], _, h, _ => by cases h
  | (g, u) :: r0, (g', u') :: r', _, h, hr => by
    simp only [List.map_cons, List.cons.injEq] at h
    obtain ⟨hg, h⟩ := h
    subst hg
    cases hr with
    | @cons _ _ _ _ A B q t nd =>
      obtain ⟨B', h1, h2⟩ := set_map r h t
      by_cases e : g' = k
      · refine ⟨[] ++ B', fun b hb => List.mem_append_right _ (h1 b (by simpa using hb)), ?_⟩
        simp only [List.map_cons, if_pos e]
        exact .cons (.fz r) h2 (by simp)
      · refine ⟨A ++ B', fun b hb => ?_, ?_⟩
        · rcases List.mem_append.mp hb with z | z
          · exact List.mem_append_left _ z
          · exact List.mem_append_right _ (h1 b z)
        · simp only [List.map_cons, if_neg e]
          exact .cons q h2 fun a ha hb => nd a ha (h1 a hb)
theorem set_own {k : Key} {d : D} {v : V} (r : Rep K Hf d v) {kds : List (Key × D)} {kvs : List (Key × V)} {B : List Addr} (h : kvs.map (·.1) = kds.map (·.1)) (hr : OwnAll K Hf H (kds.map (·.2)) (kvs.map (·.2)) B) :
    ∃ B', (∀ b ∈ B', b ∈ B) ∧ OwnAll K Hf H ((setD kds k d).map (·.2)) ((putK kvs k v).map (·.2)) B' := by
  unfold putK setD
  rw [has_keys h]
  split
  · exact set_map r h hr
  · refine ⟨B, fun _ h => h, ?_⟩
    rw [List.map_append, List.map_append]
    exact hr.snoc r
theorem del_keys {k : Key} : ∀ {kds : List (Key × D)} {kvs : List (Key × V)}, kvs.map (·.1) = kds.map (·.1) → (dropK kvs k).map (·.1) = (delD kds k).map (·.1)
  | [], [], _ => rfl
  | [], _ :: _, h => by cases h
  | _ :: _, [], h => by cases h
  | (g, u) :: r, (g', u') :: r', h => by
    simp only [List.map_cons, List.cons.injEq] at h
    obtain ⟨hg, h⟩ := h
    subst hg
    have := del_keys (k := k) h
    unfold dropK delD at this ⊢
    by_cases e : g' = k
    · rw [List.filter_cons_of_neg (by simpa using e), List.filter_cons_of_neg (by simpa using e)]
      exact this
    · rw [List.filter_cons_of_pos (by simpa using e), List.filter_cons_of_pos (by simpa using e), List.map_cons, List.map_cons, this]
theorem del_own {k : Key} : ∀ {kds : List (Key × D)} {kvs : List (Key × V)} {B : List Addr}, kvs.map (·.1) = kds.map (·.1) → OwnAll K Hf H (kds.map (·.2)) (kvs.map (·.2)) B →
    ∃ B', (∀ b ∈ B', b ∈ B) ∧ OwnAll K Hf H ((delD kds k).map (·.2)) ((dropK kvs k).map (·.2)) B'
  | [], [], _, _, _ => ⟨[], by simp, .nil⟩
  | [], _ :: _, _, h, _ => by cases h
  | _ :: _, [], _, h, _ => by cases h
  | (g, u) :: r0, (g', u') :: r', _, h, hr => by
    simp only [List.map_cons, List.cons.injEq] at h
    obtain ⟨hg, h⟩ := h
    subst hg
    cases hr with
    | @cons _ _ _ _ A B q t nd =>
      obtain ⟨B', h1, h2⟩ := del_own (k := k) h t
      unfold dropK delD at h2 ⊢
      by_cases e : g' = k
      · refine ⟨B', fun b hb => List.mem_append_right _ (h1 b hb), ?_⟩
        rw [List.filter_cons_of_neg (by simpa using e), List.filter_cons_of_neg (by simpa using e)]
        exact h2
      · refine ⟨A ++ B', fun b hb => ?_, ?_⟩
        · rcases List.mem_append.mp hb with z | z
          · exact List.mem_append_left _ z
          · exact List.mem_append_right _ (h1 b z)
        · rw [List.filter_cons_of_pos (by simpa using e), List.filter_cons_of_pos (by simpa using e)]
          exact .cons q h2 fun a ha hb => nd a ha (h1 a hb)
end
/-! ### rules -/
section
variable {X : Cx} {pin : List Nat} {ρ : RhoS} {Φ : Out → Prop} {e ke : Expr} {d : D} {pos p' p1 p2 p3 : Pos} {i : Nat} {x f : Str} {C : Addr} {fds : List (Str × D)}
/-- x.f = [] and x.f = {} -/
theorem js_fldL0 (hi : ρ[i]? = some (some (.ow (.ins C fds)))) (cl : Cls X.K C) (hn : NoAttr X.K C f) (hl : fds.length < 1000) (hk : Φ (.nx (ρ.set i (some (.ow (.ins C (putD f (.lst []) fds))))))) (hN : X.N[i]? = some x := by rfl) (hv : L2.Vis X.env.scope x := by first | exact Or.inl rfl | exact Or.inr (Or.inl rfl))
    (hd : (x == ("__debug__" : Str)) = false := by decide) (hcd : (x == ("__classdict__" : Str)) = false := by decide) (hs : swapsWith (.List [] p2) (some (.Attribute (.Name x p1) f p')) pos.line X.env = pure false := by rfl) : JS X pin (.Assign [.Attribute (.Name x p1) f p'] (.List [] p2) pos) ρ Φ := ⟨fun E σ H D hpn ⟨Hf, A, s⟩ k => by
  refine .of (ps_fld (pe_var hN hv hd hcd) (pe_lst pa_nil) hs) ⟨by decide, fun q hq => ?_⟩
  obtain ⟨ad, dx, fs, h1, h2, h3, h4, ok⟩ := s.newF (f := f) hi (o := .lst []) (d' := .lst []) hq fun H' h => .lst h .nil (by simp)
  exact ⟨_, h1, ad, C, dx, fs, rfl, by rw [upd_ne h2]; exact h3, cl, hn, by omega, k _ hk σ _ ok⟩⟩
theorem js_fldD0 (hi : ρ[i]? = some (some (.ow (.ins C fds)))) (cl : Cls X.K C) (hn : NoAttr X.K C f) (hl : fds.length < 1000) (hk : Φ (.nx (ρ.set i (some (.ow (.ins C (putD f (.dct []) fds))))))) (hN : X.N[i]? = some x := by rfl) (hv : L2.Vis X.env.scope x := by first | exact Or.inl rfl | exact Or.inr (Or.inl rfl))
    (hd : (x == ("__debug__" : Str)) = false := by decide) (hcd : (x == ("__classdict__" : Str)) = false := by decide) (hs : swapsWith (.Dict [] [] p2) (some (.Attribute (.Name x p1) f p')) pos.line X.env = pure false := by rfl) : JS X pin (.Assign [.Attribute (.Name x p1) f p'] (.Dict [] [] p2) pos) ρ Φ := ⟨fun E σ H D hpn ⟨Hf, A, s⟩ k => by
  refine .of (ps_fld (pe_var hN hv hd hcd) pe_dnewK hs) fun q hq => ?_
  obtain ⟨ad, dx, fs, h1, h2, h3, h4, ok⟩ := s.newF (f := f) hi (o := .dK []) (d' := .dct []) hq fun H' h => .dct h rfl .nil (by simp)
  exact ⟨_, h1, ad, C, dx, fs, rfl, by rw [upd_ne h2]; exact h3, cl, hn, by omega, k _ hk σ _ ok⟩⟩
/-- x = {} -/
theorem js_setD0 (hk : Φ (.nx (ρ.set i (some (.ow (.dct [])))))) (hN : X.N.Nodup) (hi : X.N[i]? = some x := by rfl) (hx : Loc X.env.scope x := by first | exact Or.inl rfl | exact Or.inr rfl) (hp : i ∉ pin := by decide) (hs : swapsWith (.Dict [] [] p2) (some (.Name x p')) pos.line X.env = pure false := by rfl)
    (hf : X.fn x = true ∨ X.env.scope.names.lookup x = some .local := by first | exact .inl rfl | exact .inr rfl) : JS X pin (.Assign [.Name x p'] (.Dict [] [] p2) pos) ρ Φ := ⟨fun E σ H D hpn ⟨Hf, A, s⟩ k => by
  refine .of (ps_set hN hi hx pe_dnewK hs hf) fun q hq => ?_
  have s' := s.grow (Evl.Ex.new (H := H) (o := .dK []) hq)
  refine k _ hk _ _ ⟨Hf, _, s'.setOw (.dct upd_same rfl .nil (by simp)) (by simp) (hpn.none hp) fun b hb => ?_⟩
  have e : b = q := by simpa using hb
  subst e
  exact ⟨Evl.fresh_back s.fh hq, by rw [upd_same]; simp, s.kp b hq, fun j hj => (s.ap j b hj).2.1 hq⟩⟩
/-- x.f op= e, ints -/
theorem js_fldAdd {m n : Int} (hi : ρ[i]? = some (some (.ow (.ins C fds)))) (hf : fds.lookup f = some (.int m)) (h : J X e (allR ρ) (.int n)) (cl : Cls X.K C) (hn : NoAttr X.K C f) (hl : fds.length < 1000) (hk : Φ (.nx (ρ.set i (some (.ow (.ins C (putD f (.int (m + n)) fds))))))) (hN : X.N[i]? = some x := by rfl) (hv : L2.Vis X.env.scope x := by first | exact Or.inl rfl | exact Or.inr (Or.inl rfl))
    (hd : (x == ("__debug__" : Str)) = false := by decide) (hcd : (x == ("__classdict__" : Str)) = false := by decide) : JS X pin (.AugAssign (.Attribute (.Name x p1) f p') .Add e pos) ρ Φ := ⟨fun E σ H D hpn ⟨Hf, A, s⟩ k => by
  refine .of (ps_fldaug (pe_var hN hv hd hcd) pe_w in_add) ?_
  obtain ⟨ad, dx, fs, v, Af, h1, h2, h3, h4, h5, _, h6, h7, _⟩ := s.updF hi hf
  cases h5 with
  | fz r =>
    cases r
    refine ⟨_, h1, ad, C, dx, fs, _, rfl, h2, cl, hn, h4, ?_⟩
    refine h H σ H (.refl _) s.visH _ fun y W' H' st r => ?_
    cases r
    obtain ⟨a, dx', fs', e, g1, g2, ok⟩ := (s.grow st.hh).fld (f := f) (y := .int (m + n)) hi h1 (.int (m + n)) rfl
    cases e
    exact ⟨m, n, rfl, rfl, dx', fs', g1, by omega, k _ hk σ _ ok⟩⟩
theorem js_fldSub {m n : Int} (hi : ρ[i]? = some (some (.ow (.ins C fds)))) (hf : fds.lookup f = some (.int m)) (h : J X e (allR ρ) (.int n)) (cl : Cls X.K C) (hn : NoAttr X.K C f) (hl : fds.length < 1000) (hk : Φ (.nx (ρ.set i (some (.ow (.ins C (putD f (.int (m - n)) fds))))))) (hN : X.N[i]? = some x := by rfl) (hv : L2.Vis X.env.scope x := by first | exact Or.inl rfl | exact Or.inr (Or.inl rfl))
    (hd : (x == ("__debug__" : Str)) = false := by decide) (hcd : (x == ("__classdict__" : Str)) = false := by decide) : JS X pin (.AugAssign (.Attribute (.Name x p1) f p') .Sub e pos) ρ Φ := ⟨fun E σ H D hpn ⟨Hf, A, s⟩ k => by
  refine .of (ps_fldaug (pe_var hN hv hd hcd) pe_w in_sub) ?_
  obtain ⟨ad, dx, fs, v, Af, h1, h2, h3, h4, h5, _, h6, h7, _⟩ := s.updF hi hf
  cases h5 with
  | fz r =>
    cases r
    refine ⟨_, h1, ad, C, dx, fs, _, rfl, h2, cl, hn, h4, ?_⟩
    refine h H σ H (.refl _) s.visH _ fun y W' H' st r => ?_
    cases r
    obtain ⟨a, dx', fs', e, g1, g2, ok⟩ := (s.grow st.hh).fld (f := f) (y := .int (m - n)) hi h1 (.int (m - n)) rfl
    cases e
    exact ⟨m, n, rfl, rfl, dx', fs', g1, by omega, k _ hk σ _ ok⟩⟩
end
section
variable {K : PySem.W.Frag} {E : Ent} {ρ : RhoS} {σ : L2.St} {H Hf : Hp} {A : Nat → List Addr} {i : Nat} {C : Addr} {fds : List (Str × D)} {f : Str} {d : D} {kds : List (Key × D)}
/-- the own dict in a field -/
theorem StAt.dctF (s : StAt K E ρ σ H Hf A) (hi : ρ[i]? = some (some (.ow (.ins C fds)))) (hf : fds.lookup f = some (.dct kds)) :
    ∃ ad dx fs l kvs, σ[i]? = some (some (.ref ad)) ∧ H ad = some (.ins C dx fs) ∧ fs.length = fds.length ∧ fs.lookup f = some (.ref l) ∧ l ≠ ad ∧ H l = some (.dK kvs) ∧ kvs.map (·.1) = kds.map (·.1) ∧ RepAll K H (kds.map (·.2)) (kvs.map (·.2)) ∧
      (∀ {d : D} {v : V} {k : Key}, Rep K Hf d v → StOk K E (ρ.set i (some (.ow (.ins C (putD f (.dct (setD kds k d)) fds))))) σ (upd H l (.dK (putK kvs k v)))) ∧
      (∀ {k : Key}, StOk K E (ρ.set i (some (.ow (.ins C (putD f (.dct (delD kds k)) fds))))) σ (upd H l (.dK (dropK kvs k)))) := by
  obtain ⟨ad, dx, fs, v, Af, h1, h2, h3, h4, h5, hw, h6, h7, h8⟩ := s.updF hi hf
  have hr := h5.rep s.fh fun _ _ => rfl
  cases h5 with
  | fz r => exact absurd rfl (hw rfl)
  | @dct l kvs _ A1 g1 g2 g3 g4 =>
    cases hr with
    | dct r1 r2 r3 =>
      have e0 : some (HO.dK kvs) = _ := g1.symm.trans r1
      cases e0
      have hl : ∀ o, (∀ b, b ∉ l :: A1 → H b ≠ none → upd H l o b = H b) ∧ (∀ b, upd H l o b = none → H b = none) := fun o => ⟨fun b hb _ => upd_ne fun z => hb (by rw [z]; exact List.mem_cons_self), fun b hb => by
        by_cases z : b = l
        · rw [z, upd_same] at hb; cases hb
        · rw [upd_ne z] at hb; exact hb⟩
      have stay : ∀ o, ∀ a ∈ A1, upd H l o a = H a := fun o a ha => upd_ne fun z => g4 (by rw [← z]; exact ha)
      have fin : ∀ (o : HO) (B' : List Addr), (∀ b ∈ B', b ∈ A1) → ∀ a ∈ l :: B', upd H l o a ≠ none ∧ (a ∈ l :: A1 ∨ H a = none) := fun o B' hB a ha => by
        rcases List.mem_cons.mp ha with z | z
        · rw [z, upd_same]; exact ⟨by simp, .inl List.mem_cons_self⟩
        · rw [stay o a (hB a z)]; exact ⟨(h7 a (List.mem_cons_of_mem _ (hB a z))).2, .inl (List.mem_cons_of_mem _ (hB a z))⟩
      refine ⟨ad, dx, fs, l, kvs, h1, h2, h3, h4, fun z => h6 (by rw [z]; exact List.mem_cons_self), g1, g2, r3, fun {d v k} r => ?_, fun {k} => ?_⟩
      · obtain ⟨B', m1, m2⟩ := set_own (k := k) r g2 g3
        exact h8 (hl _).1 (hl _).2 (.dct upd_same (set_keys g2) (m2.move (.refl _) fun a ha => stay _ a (m1 a ha)) fun z => g4 (m1 _ z)) (fin _ B' m1) (fun _ => by simp)
      · obtain ⟨B', m1, m2⟩ := del_own (k := k) g2 g3
        exact h8 (hl _).1 (hl _).2 (.dct upd_same (del_keys g2) (m2.move (.refl _) fun a ha => stay _ a (m1 a ha)) fun z => g4 (m1 _ z)) (fin _ B' m1) (fun _ => by simp)
end
section
variable {X : Cx} {pin : List Nat} {ρ : RhoS} {Φ : Out → Prop} {e ke : Expr} {d : D} {pos p' p1 p2 p3 : Pos} {i : Nat} {x f : Str} {C : Addr} {fds : List (Str × D)} {kds : List (Key × D)} {z : Str}
/-- x.f[k] = e -/
theorem js_dputF (hu : X.A.units + 1 < cLine) (hi : ρ[i]? = some (some (.ow (.ins C fds)))) (hf : fds.lookup f = some (.dct kds)) (h : J X e (fzR ρ) d) (hke : J X ke (allR ρ) (.str z)) (hsz : kds.length < sizeLine) (cl : Cls X.K C) (hn : NoAttr X.K C f) (hk : Φ (.nx (ρ.set i (some (.ow (.ins C (putD f (.dct (setD kds (.inr z) d)) fds)))))))
    (hN : X.N[i]? = some x := by rfl) (hv : L2.Vis X.env.scope x := by first | exact Or.inl rfl | exact Or.inr (Or.inl rfl)) (hd : (x == ("__debug__" : Str)) = false := by decide) (hcd : (x == ("__classdict__" : Str)) = false := by decide)
    (hb : attributeBase (.Name x p1) f X.env (eval (.Name x p1) X.env) = eval (.Name x p1) X.env := by rfl) (hs : swapsWith e (some (.Subscript (.Attribute (.Name x p1) f p2) ke p')) pos.line X.env = pure false := by rfl) : JS X pin (.Assign [.Subscript (.Attribute (.Name x p1) f p2) ke p'] e pos) ρ Φ := ⟨fun E σ H D hpn ⟨Hf, A, s⟩ k => by
  refine .of (ps_dput hu (pe_fld (pe_var hN hv hd hcd) hb) pe_w pe_w hs) ?_
  refine h Hf σ H s.fh s.vis _ fun v W' H' st r => ?_
  have s1 := s.step st
  obtain ⟨ad, dx, fs, l, kvs, h1, h2, h3, h4, h5, h6, _⟩ := s1.dctF hi hf
  refine ⟨_, h1, ad, C, dx, fs, _, rfl, h2, cl, hn, h4, ?_⟩
  refine hke H' σ H' (.refl _) s1.visH _ fun y W2 H2 st2 r2 => ?_
  cases r2
  have s2 := s1.grow st2.hh
  obtain ⟨ad2, dx2, fs2, l2, kvs2, g1, g2, g3, g4, g5, g6, g7, g8, g9, _⟩ := s2.dctF hi hf
  have e1 : some (some (V.ref ad)) = _ := h1.symm.trans g1
  cases e1
  have e2 := (st2.hh _ _ h2).symm.trans g2
  cases e2
  have e3 := h4.symm.trans g4
  cases e3
  refine ⟨l, _, rfl, DPut.k (k := Sum.inr z) g6 (by have := congrArg List.length g7; simp at this; omega), k _ hk σ _ (g9 r)⟩⟩
/-- k in d, k not in d -/
theorem jt_din {o : Expr} {ρ : Rho} (hu : X.A.units + 1 < cLine) (hke : J X ke ρ (.str z)) (ho : J X o ρ (.dct kds)) (hbi : behindInMarks CmpOp.In o = false := by rfl) : JT X (.Compare ke [.In] [o] pos) ρ (hasD kds (.inr z)) := ⟨fun W σ H ex V Q g => by
  refine .of (pt_cmp (pc_din hu pe_w pe_w) hbi) (hke W σ H ex V _ fun y W1 H1 s1 r1 => ho W1 σ H1 s1.wh (V.mono s1.ww) _ fun v W2 H2 s2 r2 => ?_)
  cases r1
  cases r2 with
  | dct k1 k2 k3 =>
    refine ⟨_, _, rfl, DGet.k (k := Sum.inr z) (s2.wh _ _ k1), ?_⟩
    rw [← valV_any, has_keys k2]
    exact ⟨_, rfl, g W2 H2 (s1.trans s2)⟩⟩
theorem j_din {o : Expr} {ρ : Rho} (hu : X.A.units + 1 < cLine) (hke : J X ke ρ (.str z)) (ho : J X o ρ (.dct kds)) (hbi : behindInMarks CmpOp.In o = false := by rfl) : J X (.Compare ke [.In] [o] pos) ρ (.bl (hasD kds (.inr z))) := ⟨fun W σ H ex V Q g => by
  refine .of (pe_cmp (pc_din hu pe_w pe_w) hbi) (hke W σ H ex V _ fun y W1 H1 s1 r1 => ho W1 σ H1 s1.wh (V.mono s1.ww) _ fun v W2 H2 s2 r2 => ?_)
  cases r1
  cases r2 with
  | dct k1 k2 k3 =>
    refine ⟨_, _, rfl, DGet.k (k := Sum.inr z) (s2.wh _ _ k1), ?_⟩
    rw [← valV_any, has_keys k2]
    exact g _ W2 H2 (s1.trans s2) (.bl _)⟩
theorem jt_dnin {o : Expr} {ρ : Rho} (hu : X.A.units + 1 < cLine) (hke : J X ke ρ (.str z)) (ho : J X o ρ (.dct kds)) (hbi : behindInMarks CmpOp.NotIn o = false := by rfl) : JT X (.Compare ke [.NotIn] [o] pos) ρ (!hasD kds (.inr z)) := ⟨fun W σ H ex V Q g => by
  refine .of (pt_cmp (pc_dnotin hu pe_w pe_w) hbi) (hke W σ H ex V _ fun y W1 H1 s1 r1 => ho W1 σ H1 s1.wh (V.mono s1.ww) _ fun v W2 H2 s2 r2 => ?_)
  cases r1
  cases r2 with
  | dct k1 k2 k3 =>
    refine ⟨_, _, rfl, DGet.k (k := Sum.inr z) (s2.wh _ _ k1), ?_⟩
    rw [← valV_any, has_keys k2]
    exact ⟨_, rfl, g W2 H2 (s1.trans s2)⟩⟩
/-- x.f op= x.g.pop(k), the key there, an int -/
theorem js_fldSubPop {f2 : Str} {m n : Int} {apos cpos : Pos} (hi : ρ[i]? = some (some (.ow (.ins C fds)))) (hf : fds.lookup f = some (.int m)) (hf2 : fds.lookup f2 = some (.dct kds)) (hke : J X ke (allR ρ) (.str z)) (hg : getD kds (.inr z) = some (.int n)) (cl : Cls X.K C) (hn : NoAttr X.K C f) (hn2 : NoAttr X.K C f2) (hl : fds.length < 1000)
    (hl2 : (putD f2 (.dct (delD kds (.inr z))) fds).length = fds.length) (hk : Φ (.nx (ρ.set i (some (.ow (.ins C (putD f (.int (m - n)) (putD f2 (.dct (delD kds (.inr z))) fds)))))))) (hil : i < ρ.length)
    (hN : X.N[i]? = some x := by rfl) (hv : L2.Vis X.env.scope x := by first | exact Or.inl rfl | exact Or.inr (Or.inl rfl)) (hd : (x == ("__debug__" : Str)) = false := by decide) (hcd : (x == ("__classdict__" : Str)) = false := by decide)
    (hb : attributeBase (.Name x p1) f2 X.env (eval (.Name x p1) X.env) = eval (.Name x p1) X.env := by rfl) (m1 : M1 X (.Attribute (.Name x p1) f2 p2) "pop" apos ke cpos := by exact ⟨rfl, rfl, rfl, rfl⟩) : JS X pin (.AugAssign (.Attribute (.Name x p3) f p') .Sub (.Call (.Attribute (.Attribute (.Name x p1) f2 p2) "pop" apos) [ke] [] cpos) pos) ρ Φ := ⟨fun E σ H D hpn ⟨Hf, A, s⟩ k => by
  refine .of (ps_fldaug (pe_var hN hv hd hcd) (pe_dpop1 (pe_fld (pe_var hN hv hd hcd) hb) pe_w m1) in_sub) ?_
  obtain ⟨ad0, dx0, fs0, v, Af, a1, a2, a3, a4, a5, _, a6, a7, _⟩ := s.updF hi hf
  cases a5 with
  | fz r =>
    cases r
    refine ⟨_, a1, ad0, C, dx0, fs0, _, rfl, a2, cl, hn, a4, ?_⟩
    obtain ⟨ad, dx, fs, l, kvs, h1, h2, h3, h4, h5, h6, h7, h8, _⟩ := s.dctF hi hf2
    refine ⟨_, h1, ad, C, dx, fs, _, rfl, h2, cl, hn2, h4, l, rfl, .inl ⟨kvs, .inl h6⟩, ?_⟩
    refine hke H σ H (.refl _) s.visH _ fun y W2 H2 st2 r2 => ?_
    cases r2
    have s2 := s.grow st2.hh
    obtain ⟨v0, e0, r0⟩ := get_rep h7 h8 hg
    cases r0
    refine ⟨kvs, Sum.inr z, _, st2.hh _ _ h6, rfl, e0, m, n, rfl, rfl, ?_⟩
    obtain ⟨ad2, dx2, fs2, l2, kvs2, g1, g2, g3, g4, g5, g6, g7, g8, _, g9⟩ := s2.dctF hi hf2
    have e1 : some (some (V.ref ad)) = _ := h1.symm.trans g1
    cases e1
    have e2 := (st2.hh _ _ h2).symm.trans g2
    cases e2
    have e3 := h4.symm.trans g4
    cases e3
    have e4 := (st2.hh _ _ h6).symm.trans g6
    cases e4
    obtain ⟨Hf3, A3, s3⟩ := g9 (k := Sum.inr z)
    obtain ⟨a, dx', fs', e, q1, q2, ok⟩ := s3.fld (f := f) (y := .int (m - n)) (by rw [List.getElem?_set_self hil]) h1 (.int (m - n)) rfl
    cases e
    have e5 : some (V.ref ad) = _ := Option.some.inj (h1.symm.trans a1)
    cases e5
    rw [List.set_set] at ok
    exact ⟨dx', fs', q1, by omega, k _ hk σ _ ok⟩⟩
/-- the own dict in a slot -/
theorem StAt.dctS {K : PySem.W.Frag} {E : Ent} {σ : L2.St} {H Hf : Hp} {A : Nat → List Addr} (s : StAt K E ρ σ H Hf A) (hi : ρ[i]? = some (some (.ow (.dct kds)))) :
    ∃ l kvs, σ[i]? = some (some (.ref l)) ∧ H l = some (.dK kvs) ∧ kvs.map (·.1) = kds.map (·.1) ∧ RepAll K H (kds.map (·.2)) (kvs.map (·.2)) ∧
      (∀ {d : D} {v : V} {k : Key}, Rep K Hf d v → StOk K E (ρ.set i (some (.ow (.dct (setD kds k d))))) σ (upd H l (.dK (putK kvs k v)))) ∧
      (∀ {k : Key}, StOk K E (ρ.set i (some (.ow (.dct (delD kds k))))) σ (upd H l (.dK (dropK kvs k)))) := by
  obtain ⟨v, hσ, ow, ne⟩ := s.sl i _ hi
  have hr := ow.rep s.fh fun _ _ => rfl
  generalize hA : A i = Ai at ow ne
  cases ow with
  | fz _ => exact absurd rfl ne
  | @dct l kvs _ A1 g1 g2 g3 g4 =>
    cases hr with
    | dct r1 r2 r3 =>
      have e0 : some (HO.dK kvs) = _ := g1.symm.trans r1
      cases e0
      have hm : l ∈ A i := by rw [hA]; exact List.mem_cons_self
      have stay : ∀ o, ∀ a ∈ A1, upd H l o a = H a := fun o a ha => upd_ne fun z => g4 (by rw [← z]; exact ha)
      refine ⟨l, kvs, hσ, g1, g2, r3, fun {d v k} r => ?_, fun {k} => ?_⟩
      · obtain ⟨B', m1, m2⟩ := set_own (k := k) r g2 g3
        exact ⟨Hf, _, s.change (B := l :: B') hi hσ hm (by simp) (fun b hb => by
          rw [hA]
          rcases List.mem_cons.mp hb with z | z
          · rw [z]; exact List.mem_cons_self
          · exact List.mem_cons_of_mem _ (m1 b z)) (.dct upd_same (set_keys g2) (m2.move (.refl _) fun a ha => stay _ a (m1 a ha)) fun z => g4 (m1 _ z))⟩
      · obtain ⟨B', m1, m2⟩ := del_own (k := k) g2 g3
        exact ⟨Hf, _, s.change (B := l :: B') hi hσ hm (by simp) (fun b hb => by
          rw [hA]
          rcases List.mem_cons.mp hb with z | z
          · rw [z]; exact List.mem_cons_self
          · exact List.mem_cons_of_mem _ (m1 b z)) (.dct upd_same (del_keys g2) (m2.move (.refl _) fun a ha => stay _ a (m1 a ha)) fun z => g4 (m1 _ z))⟩
/-- x[k] = e -/
theorem js_dput (hu : X.A.units + 1 < cLine) (hi : ρ[i]? = some (some (.ow (.dct kds)))) (h : J X e (fzR ρ) d) (hke : J X ke (allR ρ) (.str z)) (hsz : kds.length < sizeLine) (hk : Φ (.nx (ρ.set i (some (.ow (.dct (setD kds (.inr z) d)))))))
    (hN : X.N[i]? = some x := by rfl) (hv : L2.Vis X.env.scope x := by first | exact Or.inl rfl | exact Or.inr (Or.inl rfl)) (hd : (x == ("__debug__" : Str)) = false := by decide) (hcd : (x == ("__classdict__" : Str)) = false := by decide)
    (hs : swapsWith e (some (.Subscript (.Name x p1) ke p')) pos.line X.env = pure false := by rfl) : JS X pin (.Assign [.Subscript (.Name x p1) ke p'] e pos) ρ Φ := ⟨fun E σ H D hpn ⟨Hf, A, s⟩ k => by
  refine .of (ps_dput hu (pe_var hN hv hd hcd) pe_w pe_w hs) ?_
  refine h Hf σ H s.fh s.vis _ fun v W' H' st r => ?_
  have s1 := s.step st
  obtain ⟨l, kvs, h1, h2, _⟩ := s1.dctS hi
  refine ⟨_, h1, ?_⟩
  refine hke H' σ H' (.refl _) s1.visH _ fun y W2 H2 st2 r2 => ?_
  cases r2
  have s2 := s1.grow st2.hh
  obtain ⟨l2, kvs2, g1, g2, g3, g4, g5, _⟩ := s2.dctS hi
  have e1 : some (some (V.ref l)) = _ := h1.symm.trans g1
  cases e1
  exact ⟨l, _, rfl, DPut.k (k := Sum.inr z) g2 (by have := congrArg List.length g3; simp at this; omega), k _ hk σ _ (g5 r)⟩⟩
/-- x.pop(k, None), its value not used -/
theorem js_dpop2 {apos cpos : Pos} {fe : Expr} (hi : ρ[i]? = some (some (.ow (.dct kds)))) (hke : J X ke (allR ρ) (.str z)) (hfe : J X fe (allR ρ) .non) (hk : Φ (.nx (ρ.set i (some (.ow (.dct (delD kds (.inr z)))))))) (hN : X.N[i]? = some x := by rfl) (hv : L2.Vis X.env.scope x := by first | exact Or.inl rfl | exact Or.inr (Or.inl rfl)) (hd : (x == ("__debug__" : Str)) = false := by decide) (hcd : (x == ("__classdict__" : Str)) = false := by decide)
    (m2 : M2 X (.Name x p1) "pop" apos ke fe cpos := by exact ⟨rfl, rfl, rfl, rfl⟩) (hs : swapsWith (.Call (.Attribute (.Name x p1) "pop" apos) [ke, fe] [] cpos) none pos.line X.env = pure false := by rfl) : JS X pin (.Expr (.Call (.Attribute (.Name x p1) "pop" apos) [ke, fe] [] cpos) pos) ρ Φ := ⟨fun E σ H D hpn ⟨Hf, A, s⟩ k => by
  refine .of (ps_expr (pe_dpop2 (pe_var hN hv hd hcd) pe_w pe_w m2) hs) ?_
  obtain ⟨l, kvs, h1, h2, _⟩ := s.dctS hi
  refine ⟨_, h1, l, rfl, .inl ⟨kvs, .inl h2⟩, ?_⟩
  refine hke H σ H (.refl _) s.visH _ fun y W2 H2 st2 r2 => ?_
  cases r2
  have s2 := s.grow st2.hh
  refine hfe H2 σ H2 (.refl _) s2.visH _ fun y W3 H3 st3 r3 => ?_
  cases r3
  have s3 := s2.grow st3.hh
  obtain ⟨l2, kvs2, g1, g2, g3, g4, _, g5⟩ := s3.dctS hi
  have e1 : some (some (V.ref l)) = _ := h1.symm.trans g1
  cases e1
  refine ⟨kvs2, Sum.inr z, g2, rfl, fun v hv => k _ hk σ _ g5, fun hv => k _ hk σ _ ?_⟩
  have hd0 : hasD kds (Sum.inr z) = false := by rw [← has_keys g3, valV_any, hv]; rfl
  have e2 : delD kds (Sum.inr z) = kds := by
    unfold delD
    refine List.filter_eq_self.mpr fun p hp => ?_
    unfold hasD at hd0
    rw [List.any_eq_false] at hd0
    simpa using hd0 p hp
  rw [e2]
  have hil : i < ρ.length := (List.getElem?_eq_some_iff.mp hi).1
  have e3 : ρ.set i (some (.ow (.dct kds))) = ρ := by
    refine List.ext_getElem? fun j => ?_
    by_cases hj : i = j
    · subst hj; rw [List.getElem?_set_self hil, hi]
    · rw [List.getElem?_set_ne hj]
  rw [e3]
  exact ⟨_, _, s3⟩⟩
end
end Pf

namespace Pf
open PySem L2
open Evl (Ex)
/-! ### sorted(xs), xs a list of data -/
def encD (d : D) : PyData := (toPy d).getD .none
noncomputable def sortD (ds : List D) : List D := ds.mergeSort (PySem.W.dataLe false encD)
theorem toPys_enc : ∀ {ds : List D} {ps : List PyData}, toPys ds = some ps → ps = ds.map encD
  | [], ps, h => by cases h; rfl
  | d :: ds, ps, h => by
    simp only [toPys] at h
    split at h
    · rename_i y ys e1 e2
      cases h
      rw [List.map_cons, ← toPys_enc e2]
      unfold encD
      rw [e1]; rfl
    · cases h
theorem RepAll.dps {K : PySem.W.Frag} {H : Hp} : ∀ {ds : List D} {vs : List V} {ps : List PyData}, RepAll K H ds vs → toPys ds = some ps → DpAll K H vs ps
  | _, _, _, .nil, h => by cases h; exact .nil
  | _, _, _, .cons r t, h => by
    simp only [toPys] at h
    split at h
    · rename_i y ys e1 e2
      cases h
      exact .cons (r.dp _ e1) (RepAll.dps t e2)
    · cases h
open PySem.W in
theorem each_val {K : PySem.W.Frag} {H : Hp} : ∀ {xs : List V} {items : List Value} {ps : List PyData}, Vals xs items → DpAll K H xs ps → EachIs (fun (v : Value) (b : V × PyData) => RelV b.1 v) items (xs.zip ps)
  | _, _, _, .nil, .nil => .nil
  | _, _, _, .cons r t, .cons _ q => .cons r (each_val t q)
open PySem.W in
theorem each_read {X : Cx} {pins : List (Addr × Obj)} {σ : L2.St} {H : Hp} {s : Shared} (Jv : Inv X pins σ H s) : ∀ {xs : List V} {items : List Value} {ps : List PyData}, Vals xs items → DpAll X.K H xs ps → EachIs (fun (v : Value) (b : V × PyData) => ∃ as, Reads s.heap v b.2 as) items (xs.zip ps)
  | _, _, _, .nil, .nil => .nil
  | _, _, _, .cons r t, .cons d q => .cons (Dp.reads Jv _ _ _ d r) (each_read Jv t q)
open PySem.W in
theorem each_back : ∀ {out : List Value} {zs : List (V × PyData)}, EachIs (fun (v : Value) (b : V × PyData) => RelV b.1 v) out zs → Vals (zs.map (·.1)) out
  | _, _, .nil => .nil
  | _, _, .cons r t => .cons r (each_back t)
theorem DpAll.len {K : PySem.W.Frag} {H : Hp} : ∀ {xs : List V} {ps : List PyData}, DpAll K H xs ps → xs.length = ps.length
  | _, _, .nil => rfl
  | _, _, .cons _ t => congrArg (· + 1) (DpAll.len t)
/-- the items with what they read as, sorted -/
noncomputable def sortZ (zs : List (V × PyData)) : List (V × PyData) := zs.mergeSort (PySem.W.dataLe false (·.2))
def rSortD (K : PySem.W.Frag) : List V → Hp → VK → Prop := fun vs H Q => ∃ (a : Addr) (xs : List V) (ps : List PyData), vs = [V.ref a] ∧ SqL K H a xs ∧ DpAll K H xs ps ∧ PySem.W.AllAlike ps ∧ PySem.W.Sortable ps ∧ (∀ p ∈ ps, p.depth ≤ 60) ∧
  ∀ q, H q = none → Q (.ref q) (upd H q (.lst ((sortZ (xs.zip ps)).map (·.1))))
theorem cr_sortedD {X : Cx} (hu : X.A.units + 64 < cLine) : CallR X (.builtin "sorted") (rSortD X.K) := by
  intro pins s σ H vs us Q Jv r h
  obtain ⟨a, xs, ps, rfl, hs, hd, hal, hk, hdep, q⟩ := h
  obtain ⟨items, valsIn, lenH, szH⟩ := Jv.list hs
  obtain ⟨u, rfl, relU⟩ := vals1 r
  obtain rfl : u = Value.ref a := relU
  have lx := DpAll.len hd
  have e2 : (xs.zip ps).map (fun b : V × PyData => b.2) = ps := List.map_snd_zip (by omega)
  have ln : (xs.zip ps).length = xs.length := by rw [List.length_zip]; omega
  refine PySem.W.sorted_data (R := fun (v : Value) (b : V × PyData) => RelV b.1 v) (enc := fun b : V × PyData => b.2) (bs := xs.zip ps) (vs := items) lenH.isList (each_val valsIn hd) (each_read Jv valsIn hd) (by rw [e2]; exact hal) (by rw [e2]; exact hk) (by rw [ln]; exact szH) (fun b hb => ?_) fun out ho eo => ?_
  · have := hdep b.2 (by rw [← e2]; exact List.mem_map.mpr ⟨b, hb, rfl⟩)
    omega
  · obtain ⟨n, hn⟩ := PyProof.Rows.sortedAll_at s.heap items out.toArray
    have hv := each_back eo
    have hsz : s.heap.objs.size ≤ s.heap.objs.size + 1 := Nat.le_succ _
    refine ⟨.ref (s.heap.objs.size + 1), upd H (s.heap.objs.size + 1) (.lst ((sortZ (xs.zip ps)).map (·.1))), Jv.laid (t' := s.toks) (fun _ _ => PyProof.Rows.sortedAll_old) hsz ⟨?_, out, n, hv, hn⟩, rfl, q _ (Jv.hok.fresh hsz)⟩
    unfold sortZ
    rw [List.length_map, List.length_mergeSort, ln]
    exact szH
theorem sortZ_eq {K : PySem.W.Frag} {W : Hp} {ds : List D} {vs : List V} (r : RepAll K W ds vs) : RepAll K W (sortD ds) ((sortZ (vs.zip (ds.map encD))).map (·.1)) := by
  have lenH : vs.length = ds.length := r.length.symm
  have e1 : vs.zip (ds.map encD) = (vs.zip ds).map fun z : V × D => (z.1, encD z.2) := by rw [List.zip_map_right]; rfl
  have e2 : sortZ (vs.zip (ds.map encD)) = ((vs.zip ds).mergeSort (PySem.W.dataLe false fun z : V × D => encD z.2)).map fun z : V × D => (z.1, encD z.2) := by
    unfold sortZ
    rw [e1]
    exact (List.map_mergeSort (r := PySem.W.dataLe false fun z : V × D => encD z.2) (s := PySem.W.dataLe false fun b : V × PyData => b.2) (f := fun z : V × D => (z.1, encD z.2)) (fun a _ b _ => rfl)).symm
  have e3 : sortD ds = ((vs.zip ds).mergeSort (PySem.W.dataLe false fun z : V × D => encD z.2)).map (·.2) := by
    unfold sortD
    refine Eq.trans ?_ (List.map_mergeSort (r := PySem.W.dataLe false fun z : V × D => encD z.2) (s := PySem.W.dataLe false encD) (f := fun z : V × D => z.2) (fun a _ b _ => rfl)).symm
    exact congrArg (fun l => List.mergeSort l (PySem.W.dataLe false encD)) (List.map_snd_zip (by omega)).symm
  rw [e2, e3, List.map_map]
  have hall : ∀ z ∈ vs.zip ds, Rep K W z.2 z.1 := by
    clear e1 e2 e3 lenH
    intro z szH
    obtain ⟨i, hi⟩ := List.getElem?_of_mem szH
    rw [List.getElem?_zip_eq_some] at hi
    obtain ⟨v, h1, h2⟩ := r.get hi.2
    rw [hi.1] at h1
    cases h1
    exact h2
  have hp : ∀ z ∈ (vs.zip ds).mergeSort (PySem.W.dataLe false fun z : V × D => encD z.2), Rep K W z.2 z.1 := fun z szH => hall z ((List.mergeSort_perm _ _).mem_iff.mp szH)
  revert hp
  generalize (vs.zip ds).mergeSort (PySem.W.dataLe false fun z : V × D => encD z.2) = L
  intro hp
  induction L with
  | nil => exact .nil
  | cons z L ih => exact .cons (hp z (by simp)) (ih fun y hy => hp y (by simp [hy]))
theorem rc_sortedD {K : PySem.W.Frag} {ds : List D} {ps : List PyData} (h : toPys ds = some ps) (hal : PySem.W.AllAlike ps) (hk : PySem.W.Sortable ps) (hd : ∀ p ∈ ps, p.depth ≤ 60) : RCD K (rSortD K) [.lst ds] (.lst (sortD ds)) := fun W H vs ex r Q q => by
  cases r with
  | cons r t =>
    cases t
    cases r with
    | @lst a vs _ h1 k =>
      refine ⟨a, vs, ps, rfl, SqL.of (ex _ _ h1), RepAll.dps (k.mono ex) h, hal, hk, hd, fun l lenH => ?_⟩
      refine q _ _ _ (.new ex lenH) (.lst upd_same ?_)
      rw [toPys_enc h]
      exact sortZ_eq (k.mono (Evl.Ex.new (Evl.fresh_back ex lenH)))
end Pf

namespace Pf
open PySem L2
open Evl (Ex)
/-! ### [.. for k, v in x.f.items()], x read only, the values flat -/
def keyD : Key → D
  | .inl i => .int i
  | .inr s => .str s
def itemD (kv : Key × D) : D := .tup [keyD kv.1, kv.2]
theorem keyD_rep {K : PySem.W.Frag} {H : Hp} : ∀ k : Key, Rep K H (keyD k) (kV k)
  | .inl i => .int i
  | .inr s => .str s
theorem walks_items {K : PySem.W.Frag} {W : Hp} {d : Addr} {o : Obj} {kvs : List (Key × V)} {kds : List (Key × D)} (h : W d = some (.frz o (.dK kvs))) (hk : kvs.map (·.1) = kds.map (·.1)) {H0 : Hp} (hr : RepAll K H0 (kds.map (·.2)) (kvs.map (·.2))) (hf : ∀ kv ∈ kds, flatD kv.2 = true) : Walks K (Iti d o kvs) W (kds.map itemD) where
  go := fun i H ex hi => ⟨ex _ _ h, by rw [List.length_map] at hi; have := congrArg List.length hk; simp at this; omega⟩
  yld := fun i H x H' e ex hd hy W2 e1 e2 => by
    obtain ⟨T, k, v, g1, rfl, g2, rfl⟩ := hy
    rw [List.getElem?_map] at hd
    cases hkd : kds[i]? with
    | none => rw [hkd] at hd; cases hd
    | some kd =>
      rw [hkd] at hd
      cases hd
      have e3 : k = kd.1 := by
        have h1 : (kvs.map (·.1))[i]? = some k := by rw [List.getElem?_map, g1]; rfl
        rw [hk, List.getElem?_map, hkd] at h1
        exact (Option.some.inj h1).symm
      subst e3
      obtain ⟨v', k1, k2⟩ := hr.get (i := i) (d := kd.2) (by rw [List.getElem?_map, hkd]; rfl)
      rw [List.getElem?_map, g1] at k1
      cases k1
      refine ⟨upd W2 T (.tup [kV kd.1, v]), .new e2 g2, .tup (SqT.of upd_same) (.cons (keyD_rep _) (.cons (k2.any (hf kd (List.mem_of_getElem? hkd))) .nil))⟩
  stop := fun H ex => ⟨ex _ _ h, by have := congrArg List.length hk; simp at this ⊢; omega⟩
/-- what is read does not lean on a locked dict -/
theorem Rep.unlock {K : PySem.W.Frag} {W : Hp} {a : Addr} {od : Obj} {kvs : List (Key × V)} {o : HO} (hl : W a = some (.frz od (.dK kvs))) {d : D} {v : V} (h : Rep K W d v) : Rep K (upd W a o) d v := by
  have ne : ∀ {b u}, W b = some u → (∀ q w, u ≠ .frz q w) → upd W a o b = some u := fun {b u} hb hu => by
    rw [upd_ne fun z => by rw [z, hl] at hb; cases hb; exact hu _ _ rfl]; exact hb
  have sl : ∀ {b xs}, SqL K W b xs → SqL K (upd W a o) b xs := fun {b xs} hb => by
    rcases hb with h | h
    · refine .inl ?_
      rcases h with h | ⟨q, h⟩
      · exact .inl (ne h fun _ _ => by simp)
      · exact .inr ⟨q, by rw [upd_ne fun z => by rw [z, hl] at h; cases h]; exact h⟩
    · exact .inr h
  have st : ∀ {b xs}, SqT K W b xs → SqT K (upd W a o) b xs := fun {b xs} hb => by
    rcases hb with h | h
    · refine .inl ?_
      rcases h with h | ⟨q, h⟩
      · exact .inl (ne h fun _ _ => by simp)
      · exact .inr ⟨q, by rw [upd_ne fun z => by rw [z, hl] at h; cases h]; exact h⟩
    · exact .inr h
  refine Rep.rec (motive_1 := fun d v _ => Rep K (upd W a o) d v) (motive_2 := fun ds vs _ => RepAll K (upd W a o) ds vs) ?_ ?_ ?_ ?_ ?_ ?_ ?_ ?_ ?_ ?_ ?_ ?_ ?_ ?_ h
  · exact .non
  · exact fun b => .bl b
  · exact fun b => .int b
  · exact fun b => .str b
  · exact fun b => .ty b
  · exact fun h k _ ih => .exc (fun dd q => ne (h dd q) fun _ _ => by simp) k ih
  · exact fun h => .scr (sl h)
  · exact fun h _ ih => .lst (ne h fun _ _ => by simp) ih
  · exact fun h _ ih => .tup (st h) ih
  · exact fun h k _ ih => .dct (ne h fun _ _ => by simp) k ih
  · exact fun h k _ ih => .ins (ne h fun _ _ => by simp) k ih
  · exact fun h k1 k2 _ ih => .ftup (by rw [upd_ne fun z => by rw [z, hl] at h; cases h]; exact h) k1 k2 ih
  · exact .nil
  · exact fun _ _ i1 i2 => .cons i1 i2
theorem RepAll.unlock {K : PySem.W.Frag} {W : Hp} {a : Addr} {od : Obj} {kvs : List (Key × V)} {o : HO} (hl : W a = some (.frz od (.dK kvs))) : ∀ {ds : List D} {vs : List V}, RepAll K W ds vs → RepAll K (upd W a o) ds vs
  | _, _, .nil => .nil
  | _, _, .cons r t => .cons (r.unlock hl) (RepAll.unlock hl t)
section
variable {X : Cx} {elt : Expr} {elts : List Expr} {scope : Scope} {own : List (Str × Nat)} {pos tpos apos cpos p1 p2 : Pos} {kk : Nat} {ρ : Rho} {its : List (D × Option D)} {is : List Nat} {x f : Str} {i : Nat} {C : Addr} {fds : List (Str × D)} {kds : List (Key × D)}
theorem j_lcItems (hi : ρ[i]? = some (some (.ins C fds))) (hf : fds.lookup f = some (.dct kds)) (hfl : ∀ kv ∈ kds, flatD kv.2 = true) (hits : its.map (·.1) = kds.map itemD) (cl : Cls X.K C) (hn : NoAttr X.K C f) (ok : BlkOk X.N X.env.scope scope own) (hg : ∀ s H C cl fp, PG (blkX X scope s H C cl fp) (.Tuple elts kk tpos) ((Pat.tp is).g X.K)) (hown : ∀ j ∈ is, j ∈ own.map (·.2)) (hlen : kds.length < sizeLine)
    (turn : ∀ q ∈ its, LcTurn X scope (.tp is) elt [] (wipeR (ρ.map fun _ => none) (own.map (·.2))) q.1 q.2) (hN : X.N.Nodup) (hNi : X.N[i]? = some x := by rfl) (hv : L2.Vis X.env.scope x := by first | exact Or.inl rfl | exact Or.inr (Or.inl rfl)) (hd : (x == ("__debug__" : Str)) = false := by decide) (hcd : (x == ("__classdict__" : Str)) = false := by decide)
    (hb : attributeBase (.Name x p1) f X.env (eval (.Name x p1) X.env) = eval (.Name x p1) X.env := by rfl) (hb2 : attributeBase (.Attribute (.Name x p1) f p2) "items" X.env (eval (.Attribute (.Name x p1) f p2) X.env) = eval (.Attribute (.Name x p1) f p2) X.env := by rfl) (hline : (apos.endLine == cpos.line) = true := by rfl)
    (hc : X.calm = true := by rfl) (hs : ∀ y, foldedSetIterable (.Call (.Attribute (.Attribute (.Name x p1) f p2) "items" apos) [] [] cpos) X.env y = pure y := by intro _; rfl) :
    J X (.ListComp elt [⟨.Tuple elts kk tpos, .Call (.Attribute (.Attribute (.Name x p1) f p2) "items" apos) [] [] cpos, [], 0⟩] scope pos) ρ (.lst (its.filterMap (·.2))) := ⟨fun W σ H ex hV Q g => by
  obtain ⟨v, hσ, r⟩ := hV.at_ i _ hi
  cases r with
  | @ins ad _ dx fs _ h1 h2 h3 =>
    obtain ⟨vd, e1, e2⟩ := lookup_rep h2 h3 hf
    cases e2 with
    | @dct d kvs _ k1 k2 k3 =>
      refine .of (pe_lock (pe_lc (pos := pos) (tt := fun σ H Q => ∀ s H0 C cl fp, wTs (blkX X scope s H0 C cl fp) [] σ H Q) (te := fun σ H Q => ∀ s H0 C cl fp, wE (blkX X scope s H0 C cl fp) elt σ H Q) hc hN pi_w ok hg
        (fun s H0 C cl fp => ⟨fun pins s' σ' H' Q' I h => h s H0 C cl fp pins s' I⟩) (fun s H0 C cl fp => ⟨fun pins s' σ' H' Q' I h => h s H0 C cl fp pins s' I⟩) hs)) ?_
      refine ⟨d, .dK kvs, ex _ _ k1, trivial, fun od => ?_⟩
      have nad : ad ≠ d := fun z => by rw [z, k1] at h1; cases h1
      have exl : Ex (upd W d (.frz od (.dK kvs))) (upd H d (.frz od (.dK kvs))) := fun b o h => by
        by_cases z : b = d
        · rw [z, upd_same] at h ⊢; exact h
        · rw [upd_ne z] at h ⊢; exact ex b o h
      have hVn : Vis X.K (ρ.map fun _ => none) (upd W d (.frz od (.dK kvs))) σ := ⟨by rw [List.length_map]; exact hV.len, fun j e hj => by
        rw [List.getElem?_map] at hj
        cases q : ρ[j]? with
        | none => rw [q] at hj; cases hj
        | some o => rw [q] at hj; cases hj⟩
      refine lc_readAt (its := its) (pat := .tp is) (fun R k => .of (pi_items (pe_fld (pe_var hNi hv hd hcd) hb) hb2 hline) ⟨_, hσ, ad, C, dx, fs, _, rfl, by rw [upd_ne nad]; exact ex _ _ h1, cl, hn, e1, d, od, kvs, rfl, upd_same, k _ _ _ (.refl exl) (by rw [hits]; exact walks_items upd_same k2 k3 hfl)⟩) hown (by have := congrArg List.length hits; simp at this; omega) turn exl hVn fun Dn W' H' vs st q1 q2 q3 rv => ?_
      have hd' : W' d = some (.frz od (.dK kvs)) := st.ww _ _ upd_same
      refine ⟨st.wh _ _ hd', ?_⟩
      have nD : Dn ≠ d := fun z => by rw [z, upd_same] at q1; cases q1
      have rv' := RepAll.unlock (o := .dK kvs) hd' rv
      have nW : upd W' d (.dK kvs) Dn = none := by rw [upd_ne nD]; exact q2
      have hD : upd H' d (.dK kvs) Dn = some (.lst vs) := by rw [upd_ne nD]; exact q3
      have q1' : H Dn = none := by rw [upd_ne nD] at q1; exact q1
      have st0 : Step W H (upd W' d (.dK kvs)) (upd H' d (.dK kvs)) := by
        refine ⟨fun b o h => ?_, fun b o h => ?_, fun b o h => ?_, fun b z1 z2 => ?_⟩
        · by_cases z : b = d
          · rw [z, k1] at h; cases h; rw [z, upd_same]
          · rw [upd_ne z]; exact st.ww _ _ (by rw [upd_ne z]; exact h)
        · by_cases z : b = d
          · rw [z, upd_same] at h ⊢; exact h
          · rw [upd_ne z] at h ⊢; exact st.wh _ _ h
        · by_cases z : b = d
          · rw [z, ex _ _ k1] at h; cases h; rw [z, upd_same]
          · rw [upd_ne z]; exact st.hh _ _ (by rw [upd_ne z]; exact h)
        · by_cases z : b = d
          · rw [z, k1] at z2; cases z2
          · rw [upd_ne z] at z1
            have := st.fr b z1 (by rw [upd_ne z]; exact z2)
            rw [upd_ne z] at this; exact this
      exact g _ _ _ (st0.show' q1' nW hD) (.lst upd_same (rv'.mono fun a u h => by rw [upd_ne (ne_of_none h nW)]; exact h))⟩
end
end Pf

namespace Pf
open PySem PySem.Spec PyProof.Rows L2
open Evl (Ex)
/-! ### list(d.values()) -/
def tListVals (te : TE) : TE := fun σ H Q => te σ H fun x Hn => ∃ (d : Addr) (kvs : List (Key × V)), x = .ref d ∧ Hn d = some (.dK kvs) ∧ ∀ l, Hn l = none → Q (.ref l) (upd Hn l (.lst (kvs.map (·.2))))
section
variable {X : Cx} {e : Expr} {te : TE} {p apos cpos pos : Pos}
theorem vals_of : ∀ {xs : List V} {ys : List Value}, xs.length = ys.length → (∀ (j : Nat) x y, xs[j]? = some x → ys[j]? = some y → RelV x y) → Vals xs ys
  | [], [], _, _ => .nil
  | [], _ :: _, h, _ => by simp at h
  | _ :: _, [], h, _ => by simp at h
  | x :: xs, y :: ys, h, k => .cons (k 0 x y rfl rfl) (vals_of (by simpa using h) fun j a b h1 h2 => k (j + 1) a b (by simpa using h1) (by simpa using h2))
theorem vals_acc {kvs : List (Key × V)} {vs : List (Key × Value)} (kv : KV kvs vs) {acc : Array Value} (h : ItemsOf (fun i v => ∃ k, vs[i]? = some (k, v)) acc vs.length) : Vals (kvs.map (·.2)) acc.toList := by
  have lenE : kvs.length = vs.length := Paired.length kv
  have szE : acc.toList.length = vs.length := h.1
  refine vals_of (by rw [List.length_map, szE]; exact lenE) fun j x y h1 h2 => ?_
  rw [List.getElem?_map] at h1
  rw [Array.getElem?_toList] at h2
  obtain ⟨k, oldKept⟩ := h.2 j y h2
  cases e : kvs[j]? with
  | none => rw [e] at h1; cases h1
  | some z =>
    rw [e] at h1
    cases h1
    obtain ⟨q, g1, g2, g3⟩ := LiI.paired_get kv e
    rw [oldKept] at g1
    cases g1
    exact g3
theorem pe_listVals (hc : X.calm = true) (he : PE X e te) (hg : Gl X "list") (hm : X.mg "list" = none) (hv : bootBuiltins "list" = some (.type "list")) (hbase : attributeBase e "values" X.env (eval e X.env) = eval e X.env := by rfl) (hline : (apos.endLine == cpos.line) = true := by rfl)
    (hs : starEach [.Call (.Attribute e "values" apos) [] [] cpos] X.env = (false, eval (.Call (.Attribute e "values" apos) [] [] cpos) X.env) :: starEach [] X.env := by rfl) :
    PE X (.Call (.Name "list" p) [.Call (.Attribute e "values" apos) [] [] cpos] [] pos) (tListVals te) := by
  refine ⟨fun pins s σ H Q Jv hq => ?_⟩
  refine wpAny_Call_Name_kw (ld_blt Jv hg hm hv ?_)
  refine PyProof.Rows.callWith_type1 ?_ hs rfl
  rw [hs]
  refine Calls.spliced_cons (rest := backTo pos (starEach [] X.env)) ?_
  refine wpAny_Call_method (T := "dict") (id := "dict.values") hbase rfl hline F.plainAttrs_dict F.slot_dict_values F.type_dict_values (thn (he.run pins s σ H _ Jv hq) fun u tn ⟨x, Hn, Jn, relX, d, kvs, ex, hd, q⟩ => ?_)
  subst ex
  obtain rfl : u = Value.ref d := relX
  obtain ⟨szE, notSys, vs, kv, dOf⟩ := Jn.hok d _ hd
  obtain ⟨ep, dAt⟩ := dOf.dictAt
  have lenE : kvs.length = vs.length := Paired.length kv
  refine ⟨dOf.typeIs, dOf.mapOf.noDict, ?_⟩
  refine method_meetsIn F.slot_dict_values F.entry_dict_values rfl (PySem.evalArgs_none ⟨rfl, dOf.typeIs, F.args_dict_values_1 _, _, meets_dict_values (mixKind X.prog X.w) d notSys, ⟨vs, dOf⟩, ?_⟩)
  refine Calls.spliced_nil ?_
  have Jm : Inv X pins σ Hn { tn with heap := tn.heap.push { cls := .type "dict_values", data := .fields #[.ref d] } } := Jn.kept (t' := tn.toks) fun b ob q => Heap.get?_push_of_some _ q
  refine PySem.W.kdl_call (PySem.W.kdl_values (knd := mixKind X.prog X.w) (kvs := vs) (ep := ep) (d := d)) (Jn.ok.hd hc) ⟨⟨_, Heap.get?_push_size _ rfl, rfl, rfl⟩, dAt.push _⟩ (by omega) fun h' tk acc c oldKept hS hacc => ?_
  refine ⟨.ref _, _, Jm.laid (o := .lst (kvs.map (·.2))) (t' := tk) oldKept (Nat.le_refl _) ⟨by rw [List.length_map]; omega, acc.toList, c, vals_acc kv hacc, by rw [Array.toArray_toList]; exact hS⟩, rfl, q _ (Jm.hok.fresh (Nat.le_refl _))⟩
end
end Pf

namespace Pf
open PySem PySem.Spec PyProof.Rows L2
open Evl (Ex)
/-! ### sorted(d.items()) -/
def encV : V → PyData
  | .int i => .int i
  | .str s => .str s
  | .bl b => .bool b
  | _ => .none
def flatV : V → Bool
  | .int _ => true
  | .str _ => true
  | .bl _ => true
  | .non => true
  | _ => false
theorem reads_flat {h : Heap} {x : V} {u : Value} (r : RelV x u) (hf : flatV x = true) : Reads h u (encV x) [] := by
  cases x with
  | int i => obtain ⟨t, rfl⟩ := (show ∃ t, u = Value.int i t from r); exact .int _ _
  | str s => obtain ⟨t, rfl⟩ := (show ∃ t, u = Value.str s t from r); exact .str _ _
  | bl b => obtain rfl := (show u = Value.bool b from r); exact .bool _
  | non => obtain rfl := (show u = Value.none from r); exact .none
  | _ => cases hf
def encKV (kv : Key × V) : PyData := .tuple [encV (kV kv.1), encV kv.2]
theorem depth_kv (kv : Key × V) : (encKV kv).depth ≤ 5 := by
  obtain ⟨k, v⟩ := kv
  unfold encKV
  cases k <;> cases v <;> simp [kV, encV, PyData.depth, PyData.depthAll]
open PySem.W in
theorem each_eq {β : Type} : ∀ {out : List Value} {zs : List (Addr × β)}, EachIs (fun (v : Value) (z : Addr × β) => v = .ref z.1) out zs → out = zs.map fun z => Value.ref z.1
  | _, _, .nil => rfl
  | _, _, .cons r t => by rw [r, each_eq t]; rfl
def tItemsK (te : TE) : TE := fun σ H Q => te σ H fun x Hn => ∃ (d : Addr) (kvs : List (Key × V)), x = .ref d ∧ Hn d = some (.dK kvs) ∧ ∀ q, Hn q = none → Q (.ref q) (upd Hn q (DX.itemsO q d))
def rSortItK : List V → Hp → VK → Prop := fun vs H Q => ∃ (p a : Addr) (kvs : List (Key × V)), vs = [.ref p] ∧ H p = some (DX.itemsO p a) ∧ H a = some (.dK kvs) ∧ (∀ kv ∈ kvs, flatV kv.2 = true) ∧ PySem.W.AllAlike (kvs.map encKV) ∧
  ∀ (H' : Hp) (l : Addr) (zs : List (Addr × (Key × V))), (∀ b o, H b = some o → H' b = some o) → H l = none → (∀ z ∈ zs, H z.1 = none) → zs.map (·.2) = kvs.mergeSort (PySem.W.dataLe false encKV) → H' l = some (.lst (zs.map fun z => V.ref z.1)) → (∀ z ∈ zs, H' z.1 = some (.tup [kV z.2.1, z.2.2])) → Q (.ref l) H'
section
variable {X : Cx} {e : Expr} {te : TE} {apos cpos : Pos}
theorem pe_itemsK (he : PE X e te) (hbase : attributeBase e "items" X.env (eval e X.env) = eval e X.env := by rfl) (hline : (apos.endLine == cpos.line) = true := by rfl) : PE X (.Call (.Attribute e "items" apos) [] [] cpos) (tItemsK te) := by
  refine ⟨fun pins s σ H Q Jv hq => ?_⟩
  refine wpAny_Call_method (T := "dict") (id := "dict.items") hbase rfl hline F.plainAttrs_dict F.slot_dict_items F.type_dict_items (thn (he.run pins s σ H _ Jv hq) fun u tn ⟨x, Hn, Jn, relX, d, kvs, ex, hd, q⟩ => ?_)
  subst ex
  obtain rfl : u = Value.ref d := relX
  obtain ⟨szE, notSys, vs, kv, dOf⟩ := Jn.hok d _ hd
  refine ⟨dOf.typeIs, dOf.mapOf.noDict, ?_⟩
  show wpAny _ _ (callWith cpos (.builtin "dict.items") [.ref d] [] []) _ X.xe tn
  refine method_meetsIn F.slot_dict_items F.entry_dict_items rfl (PySem.evalArgs_none ⟨rfl, dOf.typeIs, F.args_dict_items_1 _, _, meets_dict_items (mixKind X.prog X.w) d notSys, ⟨vs, dOf⟩, ?_⟩)
  exact ⟨.ref _, _, Jn.laid (t' := tn.toks) (fun b ob q => Heap.get?_push_of_some _ q) (Nat.le_refl _) (DX.itemsO_ok (Heap.get?_push_size _ rfl)), rfl, q _ (Jn.hok.fresh (Nat.le_refl _))⟩
open PySem.W in
theorem each_zip {α β : Type} {R : Value → α × β → Prop} : ∀ {as : List α} {bs : List β} {f : α → Value}, as.length = bs.length → (∀ (j : Nat) a b, as[j]? = some a → bs[j]? = some b → R (f a) (a, b)) → EachIs R (as.map f) (as.zip bs)
  | [], [], _, _, _ => .nil
  | [], _ :: _, _, h, _ => by simp at h
  | _ :: _, [], _, h, _ => by simp at h
  | a :: as, b :: bs, f, h, k => .cons (k 0 a b rfl rfl) (each_zip (by simpa using h) fun j x y h1 h2 => k (j + 1) x y (by simpa using h1) (by simpa using h2))
theorem cr_sortedItK (hc : X.calm = true) (hu : X.A.units + 64 < cLine) : CallR X (.builtin "sorted") rSortItK := by
  intro pins s σ H xs us Q Jv r h
  obtain ⟨p, a, kvs, rfl, hp, ha, hfl, hal, q⟩ := h
  obtain rfl := Vals.ref1 r
  have view : s.heap.IsItemsView p a := (show ObjOk X.prog X.w H s.heap p (DX.itemsO p a) from Jv.hok p _ hp).1
  obtain ⟨szE, notSys, vs, kv, dOf⟩ := Jv.hok a _ ha
  obtain ⟨es, ep, hraw, hsz, hent⟩ := dOf.raw
  have lenE : kvs.length = vs.length := Paired.length kv
  have hh : X.A.handled = none := Jv.ok.hd hc
  refine DT.sortedI (es := es) (ep := ep) hh view hraw (by omega) fun h' tk as oldKept grewA hl madeA => ?_
  have lenA : as.length = kvs.length := by omega
  have noDup : as.Nodup := List.Pairwise.imp (fun h => Nat.ne_of_lt h) madeA.rise
  have pairAt : ∀ (j : Nat) (b : Addr), as[j]? = some b → ∃ (kv : Key × V) (u1 u2 : Value), kvs[j]? = some kv ∧ RelV (kV kv.1) u1 ∧ RelV kv.2 u2 ∧ h'.get? b = some { cls := .type "tuple", data := .seq #[u1, u2] } := by
    intro j b hj
    obtain ⟨en, he, hg⟩ := madeA.pairs j b hj
    have hjl : j < es.size := by
      rcases Nat.lt_or_ge j es.size with z | z
      · exact z
      · rw [Array.getElem?_eq_none z] at he; cases he
    obtain ⟨qv, hq⟩ : ∃ qv, vs[j]? = some qv := ⟨vs[j]'(by omega), by simp [show j < vs.length by omega]⟩
    obtain ⟨pk, hpk⟩ : ∃ pk, kvs[j]? = some pk := ⟨kvs[j]'(by omega), by simp [show j < kvs.length by omega]⟩
    obtain ⟨qv', g1, g2, g3⟩ := LiI.paired_get kv hpk
    rw [hq] at g1
    cases g1
    obtain ⟨r1, r2⟩ := hent j hjl qv.1 qv.2 hq
    have een : es[j] = en := by rw [Array.getElem?_eq_getElem hjl] at he; exact Option.some.inj he
    rw [een] at r1 r2
    refine ⟨pk, en.key, en.val, hpk, ?_, by rw [r2]; exact g3, hg⟩
    rw [g2]
    exact relV_key (show keyIs qv.1 en.key = true from r1)
  have atList : (h'.push { cls := .type "list", data := .seq (as.map Value.ref).toArray }).get? h'.objs.size = some (seqObj "list" (as.map Value.ref).toArray 0) := Heap.get?_push_size _ rfl
  have keepB : ∀ b o, s.heap.get? b = some o → (h'.push { cls := .type "list", data := .seq (as.map Value.ref).toArray }).get? b = some o := fun b o e => Heap.get?_push_of_some _ (oldKept b o e)
  have notNew : ∀ b o, h'.get? b = some o → b ≠ h'.objs.size := fun b o e => Nat.ne_of_lt (Heap.lt_size e)
  generalize hh2 : h'.push { cls := .type "list", data := .seq (as.map Value.ref).toArray } = h2 at atList keepB ⊢
  have keepA : ∀ b o, h'.get? b = some o → h2.get? b = some o := fun b o e => by rw [← hh2]; exact Heap.get?_push_of_some _ e
  have e2 : (as.zip kvs).map (fun z : Addr × (Key × V) => encKV z.2) = kvs.map encKV := by
    have z : (as.zip kvs).map (fun z : Addr × (Key × V) => encKV z.2) = ((as.zip kvs).map (fun z => z.2)).map encKV := by rw [List.map_map]; rfl
    rw [z, List.map_snd_zip (by omega)]
  have ln : (as.zip kvs).length = kvs.length := by rw [List.length_zip]; omega
  refine PySem.W.list_sort_data (A := X.A.in1) (s := { s with heap := h2, toks := tk }) (R := fun (v : Value) (z : Addr × (Key × V)) => v = .ref z.1) (enc := fun z : Addr × (Key × V) => encKV z.2) (bs := as.zip kvs) (vs := as.map Value.ref) atList (each_zip (by omega) fun j x y _ _ => rfl)
    (each_zip (by omega) fun j x y h1 h2' => ?_) (by rw [e2]; exact hal) (.inl fun d hd => by
      rw [e2] at hd
      obtain ⟨z, _, rfl⟩ := List.mem_map.mp hd
      exact ⟨_, _, rfl⟩) (by rw [ln]; exact szE) (fun b hb => ?_) fun out ho eo => ?_
  · obtain ⟨kv', u1, u2, g1, g2, g3, g4⟩ := pairAt j x h1
    rw [h2'] at g1
    cases g1
    refine ⟨[], .tuple (keepA _ _ g4) rfl rfl (readsAll_cons_val (reads_flat g2 ?_) (readsAll_cons_val (reads_flat g3 (hfl _ (List.mem_of_getElem? h2'))) .nil)), by simp⟩
    cases y.1 <;> rfl
  · have hd := depth_kv b.2
    show X.A.units + 1 + 1 + (encKV b.2).depth < cLine
    omega
  · show EP X pins σ Q (.ref h'.objs.size) { s with heap := sortedHeap h2 h'.objs.size (as.map Value.ref) (List.toArray out), toks := tk }
    generalize hzs : (as.zip kvs).mergeSort (PySem.W.dataLe false fun z : Addr × (Key × V) => encKV z.2) = zs at eo
    have pz : zs.Perm (as.zip kvs) := by rw [← hzs]; exact List.mergeSort_perm _ _
    have outIs := each_eq eo
    have placeOf : ∀ z ∈ zs, ∃ j : Nat, as[j]? = some z.1 ∧ kvs[j]? = some z.2 := by
      intro z hz'
      obtain ⟨j, hj⟩ := List.mem_iff_getElem?.mp (pz.mem_iff.mp hz')
      exact ⟨j, List.getElem?_zip_eq_some.mp hj⟩
    have hmap : zs.map (·.2) = kvs.mergeSort (PySem.W.dataLe false encKV) := by
      rw [← hzs]
      refine Eq.trans (List.map_mergeSort (r := PySem.W.dataLe false fun z : Addr × (Key × V) => encKV z.2) (s := PySem.W.dataLe false encKV) (f := fun z : Addr × (Key × V) => z.2) (fun a _ b _ => rfl)) ?_
      exact congrArg (fun l => List.mergeSort l (PySem.W.dataLe false encKV)) (List.map_snd_zip (by omega))
    have keepF : ∀ b o, b ≠ h'.objs.size → h2.get? b = some o → (sortedHeap h2 h'.objs.size (as.map Value.ref) (List.toArray out)).get? b = some o := fun b o hb e => (PyProof.Rows.sortedHeap_old hb (Heap.lt_size e)).trans e
    have keepS : ∀ b o, s.heap.get? b = some o → (sortedHeap h2 h'.objs.size (as.map Value.ref) (List.toArray out)).get? b = some o := fun b o e => keepF b o (notNew _ _ (oldKept b o e)) (keepB b o e)
    obtain ⟨eF, sortedAt⟩ := PyProof.Rows.sortedHeap_at (vs := as.map Value.ref) (out := List.toArray out) atList
    have Jn : Inv X pins σ H { s with heap := sortedHeap h2 h'.objs.size (as.map Value.ref) (List.toArray out), toks := tk } := Jv.kept (t' := tk) keepS
    have newNone : H h'.objs.size = none := Jv.hok.fresh (Nat.le_of_lt grewA)
    have lenOk : (zs.map fun z => V.ref z.1).length ≤ sizeLine := by
      have e := pz.length_eq
      rw [List.length_map]
      omega
    have rv : Vals (zs.map fun z => V.ref z.1) out := by
      rw [outIs]
      exact vals_maps (fun z : Addr × (Key × V) => V.ref z.1) (fun z => Value.ref z.1) zs fun _ _ => rfl
    have Jm : Inv X pins σ (upd H h'.objs.size (.lst (zs.map fun z => V.ref z.1))) { s with heap := sortedHeap h2 h'.objs.size (as.map Value.ref) (List.toArray out), toks := tk } :=
      Jn.take (h' := sortedHeap h2 h'.objs.size (as.map Value.ref) (List.toArray out)) (t' := tk) (fun b ob _ e => e) (Jv.fpOk (Nat.le_of_lt grewA) newNone) ⟨lenOk, out, eF, rv, sortedAt⟩
    obtain ⟨H2, Jk, g, qt⟩ := DX.takeT (P := fun b us => ∃ (j : Nat) (kw : Key × V), as[j]? = some b ∧ kvs[j]? = some kw ∧ us = [kV kw.1, kw.2]) Jv as _ Jm noDup fun b hb => by
      obtain ⟨j, hj⟩ := List.mem_iff_getElem?.mp hb
      obtain ⟨kw, u1, u2, g1, g2, g3, g4⟩ := pairAt j b hj
      have hbl : s.heap.objs.size ≤ b := Nat.le_of_lt (madeA.above b hb)
      refine ⟨hbl, ?_, [kV kw.1, kw.2], ⟨j, kw, hj, g1, rfl⟩, fun H3 => ⟨(by show 2 ≤ sizeLine; decide), [u1, u2], .cons g2 (.cons g3 .nil), ⟨_, keepF _ _ (notNew _ _ g4) (keepA _ _ g4), rfl, 0, rfl⟩⟩⟩
      rw [upd_ne (notNew _ _ g4)]
      exact Jv.hok.fresh hbl
    have grows : ∀ b o, H b = some o → H2 b = some o := fun b o e => g b o (by rw [upd_ne (ne_of_none e newNone)]; exact e)
    refine ⟨.ref h'.objs.size, H2, Jk, rfl, q H2 h'.objs.size zs grows newNone (fun z hz' => ?_) hmap (g _ _ upd_same) fun z hz' => ?_⟩
    · obtain ⟨j, j1, _⟩ := placeOf z hz'
      exact Jv.hok.fresh (Nat.le_of_lt (madeA.above _ (List.mem_of_getElem? j1)))
    · obtain ⟨i, i1, i2⟩ := placeOf z hz'
      obtain ⟨us, ⟨j, kw, j1, j2, ev⟩, hH⟩ := qt z.1 (List.mem_of_getElem? i1)
      have eij : i = j := (List.getElem?_inj (List.getElem?_eq_some_iff.mp i1).1 noDup).mp (i1.trans j1.symm)
      subst eij
      have ee : kw = z.2 := Option.some.inj (j2.symm.trans i2)
      rw [ev, ee] at hH
      exact hH
end
end Pf

namespace Pf
open PySem L2
open Evl (Ex)
theorem enc_flat {K : PySem.W.Frag} {H : Hp} {d : D} {v : V} (r : Rep K H d v) (h : flatD d = true) : encV v = encD d ∧ flatV v = true := by
  cases r <;> first | exact ⟨rfl, rfl⟩ | cases h
theorem enc_key : ∀ k : Key, encV (kV k) = encD (keyD k)
  | .inl _ => rfl
  | .inr _ => rfl
theorem enc_item {K : PySem.W.Frag} {H : Hp} {k : Key} {d : D} {v : V} (r : Rep K H d v) (h : flatD d = true) : encKV (k, v) = encD (itemD (k, d)) := by
  unfold encKV
  have e1 := (enc_flat r h).1
  have e2 := enc_key k
  have hk : ∃ p, toPy (keyD k) = some p := by cases k <;> exact ⟨_, rfl⟩
  have hd : ∃ p, toPy d = some p := by cases r <;> first | exact ⟨_, rfl⟩ | cases h
  obtain ⟨p, hp⟩ := hk
  obtain ⟨q, hq⟩ := hd
  have hi : encD (itemD (k, d)) = .tuple [encD (keyD k), encD d] := by
    unfold encD itemD
    simp only [toPy, toPys, hp, hq]
    rfl
  rw [hi, ← e1, ← e2]
theorem each_item {K : PySem.W.Frag} {H : Hp} : ∀ {kds : List (Key × D)} {kvs : List (Key × V)}, kvs.map (·.1) = kds.map (·.1) → RepAll K H (kds.map (·.2)) (kvs.map (·.2)) → (∀ kv ∈ kds, flatD kv.2 = true) →
    (∀ z ∈ kds.zip kvs, z.1.1 = z.2.1 ∧ Rep K H z.1.2 z.2.2 ∧ flatD z.1.2 = true) ∧ kds.length = kvs.length
  | [], [], _, _, _ => ⟨by simp, rfl⟩
  | [], _ :: _, h, _, _ => by cases h
  | _ :: _, [], h, _, _ => by cases h
  | kd :: kds, kv :: kvs, h, hr, hf => by
    simp only [List.map_cons, List.cons.injEq] at h
    cases hr with
    | cons q t =>
      obtain ⟨h1, h2⟩ := each_item h.2 t fun z hz => hf z (by simp [hz])
      refine ⟨fun z hz => ?_, by simp [h2]⟩
      rcases List.mem_cons.mp hz with e | e
      · subst e; exact ⟨h.1.symm, q, hf kd (by simp)⟩
      · exact h1 z e
section
variable {X : Cx} {o : Expr} {ρ : Rho} {kds : List (Key × D)} {p pos apos cpos : Pos}
theorem repItems {K : PySem.W.Frag} {W H : Hp} : ∀ {ws : List ((Key × D) × (Key × V))} {zs : List (Addr × (Key × V))}, zs.map (·.2) = ws.map (·.2) → (∀ z ∈ ws, z.1.1 = z.2.1 ∧ Rep K H z.1.2 z.2.2 ∧ flatD z.1.2 = true) → (∀ z ∈ zs, W z.1 = some (.tup [kV z.2.1, z.2.2])) → RepAll K W (ws.map fun z => itemD z.1) (zs.map fun z => V.ref z.1)
  | [], [], _, _, _ => .nil
  | [], _ :: _, h, _, _ => by cases h
  | _ :: _, [], h, _, _ => by cases h
  | w :: ws, z :: zs, h, hw, hz => by
    simp only [List.map_cons, List.cons.injEq] at h
    obtain ⟨e1, e2⟩ := h
    obtain ⟨k1, k2, k3⟩ := hw w (by simp)
    refine .cons (.tup (SqT.of (hz z (by simp))) (.cons ?_ (.cons ?_ .nil))) (repItems e2 (fun y hy => hw y (by simp [hy])) fun y hy => hz y (by simp [hy]))
    · rw [e1, ← k1]; exact keyD_rep _
    · rw [e1]; exact k2.any k3
theorem j_sortedItems (hc : X.calm = true) (hu : X.A.units + 64 < cLine) (hm : X.mg "sorted" = none) (ho : J X o ρ (.dct kds)) (hfl : ∀ kv ∈ kds, flatD kv.2 = true) (hal : PySem.W.AllAlike ((kds.map itemD).map encD)) (hg : Gl X "sorted" := by rfl)
    (hbase : attributeBase o "items" X.env (eval o X.env) = eval o X.env := by rfl) (hline : (apos.endLine == cpos.line) = true := by rfl)
    (he : starEach [.Call (.Attribute o "items" apos) [] [] cpos] X.env = (false, eval (.Call (.Attribute o "items" apos) [] [] cpos) X.env) :: starEach [] X.env := by rfl) (hpl : (backTo pos (starEach [] X.env)).any (·.1) = false := by rfl) :
    J X (.Call (.Name "sorted" p) [.Call (.Attribute o "items" apos) [] [] cpos] [] pos) ρ (.lst (sortD (kds.map itemD))) := ⟨fun W σ H ex hV Q g => by
  refine .of (pe_callB (cr_sortedItK hc hu) hg hm (by decide +kernel) (pa_cons (pe_itemsK pe_w hbase hline) pa_nil he) (by decide) (by decide) he hpl) ?_
  refine ho W σ H ex hV _ fun v W1 H1 s1 r1 => ?_
  cases r1 with
  | @dct a kvs _ k1 k2 k3 =>
    refine ⟨a, kvs, rfl, s1.wh _ _ k1, fun q hq => ?_⟩
    obtain ⟨hpair, hlen⟩ := each_item k2 k3 hfl
    have henc : ∀ z ∈ kds.zip kvs, encKV z.2 = encD (itemD z.1) := fun z hz => by
      obtain ⟨⟨k, d⟩, ⟨k', v⟩⟩ := z
      obtain ⟨e1, e2, e3⟩ := hpair _ hz
      have e1' : k = k' := e1
      subst e1'
      exact enc_item e2 e3
    have hall : kvs.map encKV = (kds.map itemD).map encD := by
      have z1 : kvs.map encKV = (kds.zip kvs).map fun z => encKV z.2 := by
        have : (kds.zip kvs).map (fun z => encKV z.2) = ((kds.zip kvs).map (·.2)).map encKV := by rw [List.map_map]; rfl
        rw [this, List.map_snd_zip (by omega)]
      have z2 : (kds.map itemD).map encD = (kds.zip kvs).map fun z => encD (itemD z.1) := by
        have : (kds.zip kvs).map (fun z => encD (itemD z.1)) = (((kds.zip kvs).map (·.1)).map itemD).map encD := by rw [List.map_map, List.map_map]; rfl
        rw [this, List.map_fst_zip (by omega)]
      rw [z1, z2]
      exact List.map_congr_left henc
    have nqa : a ≠ q := fun z => by have := s1.wh _ _ k1; rw [z, hq] at this; cases this
    refine ⟨q, a, kvs, rfl, upd_same, by rw [upd_ne nqa]; exact s1.wh _ _ k1, fun kv hkv => ?_, by rw [hall]; exact hal, fun H' l zs x1 x2 x3 x4 x5 x6 => ?_⟩
    · obtain ⟨j, hj⟩ := List.mem_iff_getElem?.mp hkv
      obtain ⟨kd, hkd⟩ : ∃ kd, kds[j]? = some kd := ⟨kds[j]'(by have := (List.getElem?_eq_some_iff.mp hj).1; omega), by simp [show j < kds.length by have := (List.getElem?_eq_some_iff.mp hj).1; omega]⟩
      obtain ⟨_, e2, e3⟩ := hpair (kd, kv) (List.mem_of_getElem? (List.getElem?_zip_eq_some.mpr ⟨hkd, hj⟩))
      exact (enc_flat e2 e3).2
    · have y1 : ∀ b o', H1 b = some o' → H' b = some o' := fun b o' h => x1 b o' (by rw [upd_ne (ne_of_none h hq)]; exact h)
      have fresh : ∀ b, upd H1 q (DX.itemsO q a) b = none → H1 b = none := fun b h => by
        by_cases z : b = q
        · rw [z]; exact hq
        · rw [upd_ne z] at h; exact h
      -- the frozen heap with the list and its pairs
      let S : List Addr := l :: zs.map (·.1)
      have hS : ∀ b ∈ S, H1 b = none := fun b hb => by
        rcases List.mem_cons.mp hb with z | z
        · rw [z]; exact fresh _ x2
        · obtain ⟨y, hy, rfl⟩ := List.mem_map.mp z
          exact fresh _ (x3 y hy)
      let W' : Hp := fun b => if b ∈ S then H' b else W1 b
      have inS : ∀ b ∈ S, W' b = H' b := fun b hb => if_pos hb
      have st : Step W1 H1 W' H' := by
        refine ⟨fun b u h => ?_, fun b u h => ?_, y1, fun b z1 z2 => ?_⟩
        · have nb : b ∉ S := fun z => by have := s1.wh _ _ h; rw [hS b z] at this; cases this
          show (if b ∈ S then H' b else W1 b) = some u
          rw [if_neg nb]; exact h
        · by_cases nb : b ∈ S
          · rw [inS b nb] at h; exact h
          · have e : W' b = W1 b := if_neg nb
            rw [e] at h; exact y1 _ _ (s1.wh _ _ h)
        · by_cases nb : b ∈ S
          · exact hS b nb
          · have e : W' b = W1 b := if_neg nb
            rw [e] at z1; exact absurd z2 z1
      refine g _ _ _ (s1.trans st) (.lst (by rw [inS l (by simp [S])]; exact x5) ?_)
      generalize hws : (kds.zip kvs).mergeSort (PySem.W.dataLe false fun z : (Key × D) × (Key × V) => encKV z.2) = ws
      have pw : ∀ z ∈ ws, z ∈ kds.zip kvs := fun z hz => by rw [← hws] at hz; exact (List.mergeSort_perm _ _).mem_iff.mp hz
      have w2 : ws.map (·.2) = kvs.mergeSort (PySem.W.dataLe false encKV) := by
        rw [← hws]
        refine Eq.trans (List.map_mergeSort (r := PySem.W.dataLe false fun z : (Key × D) × (Key × V) => encKV z.2) (s := PySem.W.dataLe false encKV) (f := fun z : (Key × D) × (Key × V) => z.2) (fun a _ b _ => rfl)) ?_
        exact congrArg (fun l => List.mergeSort l (PySem.W.dataLe false encKV)) (List.map_snd_zip (by omega))
      have w1 : (ws.map fun z => itemD z.1) = sortD (kds.map itemD) := by
        rw [← hws]
        unfold sortD
        refine Eq.trans (List.map_mergeSort (r := PySem.W.dataLe false fun z : (Key × D) × (Key × V) => encKV z.2) (s := PySem.W.dataLe false encD) (f := fun z : (Key × D) × (Key × V) => itemD z.1) (fun a ha b hb => ?_)) ?_
        · show PySem.W.dataLe false id (encKV a.2) (encKV b.2) = PySem.W.dataLe false id (encD (itemD a.1)) (encD (itemD b.1))
          rw [henc a ha, henc b hb]
        · have : (kds.zip kvs).map (fun z => itemD z.1) = ((kds.zip kvs).map (·.1)).map itemD := by rw [List.map_map]; rfl
          rw [this, List.map_fst_zip (by omega)]
      rw [← w1]
      refine repItems (H := W1) (x4.trans w2.symm) (fun z hz => ?_) (fun z hz => by rw [inS z.1 (by simp [S]; exact .inr ⟨_, _, hz⟩)]; exact x6 z hz)
      exact hpair z (pw z hz)⟩
/-- list(x.values()) -/
theorem j_listVals (hc : X.calm = true) (hm : X.mg "list" = none) (ho : J X o ρ (.dct kds)) (hg : Gl X "list" := by rfl) (hbase : attributeBase o "values" X.env (eval o X.env) = eval o X.env := by rfl) (hline : (apos.endLine == cpos.line) = true := by rfl)
    (hs : starEach [.Call (.Attribute o "values" apos) [] [] cpos] X.env = (false, eval (.Call (.Attribute o "values" apos) [] [] cpos) X.env) :: starEach [] X.env := by rfl) : J X (.Call (.Name "list" p) [.Call (.Attribute o "values" apos) [] [] cpos] [] pos) ρ (.lst (kds.map (·.2))) := ⟨fun W σ H ex hV Q g => by
  refine .of (pe_listVals hc pe_w hg hm (by decide +kernel) hbase hline hs) ?_
  refine ho W σ H ex hV _ fun v W1 H1 s1 r1 => ?_
  cases r1 with
  | @dct a kvs _ k1 k2 k3 =>
    exact ⟨a, kvs, rfl, s1.wh _ _ k1, fun l hl => g _ _ _ (s1.trans (.new s1.wh hl)) (.lst upd_same (k3.mono (Evl.Ex.new (Evl.fresh_back s1.wh hl))))⟩⟩
/-- sorted(xs) of data -/
theorem jb_sortedD {e : Expr} {ds : List D} {ps : List PyData} (hu : X.A.units + 64 < cLine) (hm : X.mg "sorted" = none) (h : toPys ds = some ps) (hal : PySem.W.AllAlike ps) (hk : PySem.W.Sortable ps) (hd : ∀ p ∈ ps, p.depth ≤ 60) (ha : JA X [e] ρ [.lst ds]) (hg : Gl X "sorted" := by rfl) (he : starEach [e] X.env = (false, eval e X.env) :: starEach [] X.env := by rfl) (hpl : (backTo pos (starEach [] X.env)).any (·.1) = false := by rfl) : J X (.Call (.Name "sorted" p) [e] [] pos) ρ (.lst (sortD ds)) :=
  j_cb (cr_sortedD hu) hm (by decide +kernel) ha (rc_sortedD h hal hk hd) hg (by decide) (by decide) he hpl
end
end Pf

namespace Pf
open PySem L2
open Evl (Ex)
/-! ### dict comprehensions -/
theorem put_rep {K : PySem.W.Frag} {H : Hp} {k : Key} {d : D} {v : V} (r : Rep K H d v) {kds : List (Key × D)} {kvs : List (Key × V)} (h : kvs.map (·.1) = kds.map (·.1)) (hr : RepAll K H (kds.map (·.2)) (kvs.map (·.2))) : RepAll K H ((setD kds k d).map (·.2)) ((putK kvs k v).map (·.2)) := by
  have key : ∀ {kds : List (Key × D)} {kvs : List (Key × V)}, kvs.map (·.1) = kds.map (·.1) → RepAll K H (kds.map (·.2)) (kvs.map (·.2)) → RepAll K H ((kds.map fun kv => if kv.1 = k then (kv.1, d) else kv).map (·.2)) ((kvs.map fun kv => if kv.1 = k then (kv.1, v) else kv).map (·.2)) := fun {kds} => by
    induction kds with
    | nil => intro kvs h hr; cases kvs with
      | nil => exact .nil
      | cons _ _ => cases h
    | cons p kds ih =>
      intro kvs h hr
      cases kvs with
      | nil => cases h
      | cons q kvs =>
        simp only [List.map_cons, List.cons.injEq] at h
        obtain ⟨hg, h⟩ := h
        cases hr with
        | cons r1 t1 =>
          simp only [List.map_cons]
          rw [hg]
          refine .cons ?_ (ih h t1)
          by_cases e : p.1 = k
          · rw [if_pos e, if_pos e]; exact r
          · rw [if_neg e, if_neg e]; exact r1
  unfold putK setD
  rw [has_keys h]
  split
  · exact key h hr
  · rw [List.map_append, List.map_append]
    exact hr.append (.cons r .nil)
theorem setD_len (kds : List (Key × D)) (k : Key) (d : D) : (setD kds k d).length ≤ kds.length + 1 := by
  unfold setD
  split
  · rw [List.length_map]; omega
  · rw [List.length_append]; exact Nat.le_refl _
def dcD (its : List (D × (Str × D))) : List (Key × D) := its.foldl (fun kds q => setD kds (.inr q.2.1) q.2.2) []
theorem dcD_snoc (its : List (D × (Str × D))) (q : D × (Str × D)) : dcD (its ++ [q]) = setD (dcD its) (.inr q.2.1) q.2.2 := by
  unfold dcD; rw [List.foldl_append]; rfl
theorem dcD_take_len (its : List (D × (Str × D))) : ∀ i, (dcD (its.take i)).length ≤ i
  | 0 => by simp [dcD]
  | i + 1 => by
    by_cases h : i < its.length
    · rw [List.take_succ_eq_append_getElem h, dcD_snoc]
      exact Nat.le_trans (setD_len _ _ _) (Nat.succ_le_succ (dcD_take_len its i))
    · rw [List.take_of_length_le (by omega), ← List.take_of_length_le (i := i) (by omega : its.length ≤ i)]
      exact Nat.le_succ_of_le (dcD_take_len its i)
/-- different keys: the pairs in order -/
theorem dcD_nodup : ∀ (its : List (D × (Str × D))), (its.map fun q => q.2.1).Nodup → dcD its = its.map fun q => ((Sum.inr q.2.1 : Key), q.2.2) := fun its h => by
  have key : ∀ (its : List (D × (Str × D))) (acc : List (Key × D)), (∀ q ∈ its, hasD acc (.inr q.2.1) = false) → (its.map fun q => q.2.1).Nodup → its.foldl (fun kds q => setD kds (.inr q.2.1) q.2.2) acc = acc ++ its.map fun q => ((Sum.inr q.2.1 : Key), q.2.2) := fun its => by
    induction its with
    | nil => intro acc _ _; simp
    | cons q its ih =>
      intro acc hn hd
      rw [List.map_cons, List.nodup_cons] at hd
      rw [List.foldl_cons]
      have e : setD acc (.inr q.2.1) q.2.2 = acc ++ [((Sum.inr q.2.1 : Key), q.2.2)] := by
        unfold setD; rw [hn q List.mem_cons_self, if_neg (by decide)]
      rw [e, ih _ (fun q' hq' => ?_) hd.2]
      · simp
      · have h1 := hn q' (List.mem_cons_of_mem _ hq')
        unfold hasD at h1 ⊢
        rw [List.any_append, h1]
        have : q.2.1 ≠ q'.2.1 := fun z => hd.1 (by rw [z]; exact List.mem_map.mpr ⟨q', hq', rfl⟩)
        simp [this]
  have := key its [] (fun _ _ => rfl) h
  simpa [dcD] using this
structure JDC (X : Cx) (e : Expr) (ρ : Rho) (kds : List (Key × D)) : Prop where
  run : ∀ W σ H, Ex W H → Vis X.K ρ W σ → ∀ Q : VK, (∀ (a : Addr) (W' H' : Hp) (kvs : List (Key × V)), Step W H W' H' → H a = none → W' a = none → H' a = some (.dK kvs) → kvs.map (·.1) = kds.map (·.1) → RepAll X.K W' (kds.map (·.2)) (kvs.map (·.2)) → Q (.ref a) H') → wE X e σ H Q
section
variable {X : Cx} {kx vx tg iter : Expr} {scope : Scope} {own : List (Str × Nat)} {pos : Pos} {ρ : Rho} {its : List (D × (Str × D))} {pat : Pat}
theorem jd_dc (hi : JI X tg iter ρ (its.map (·.1))) (ok : BlkOk X.N X.env.scope scope own) (hg : ∀ s H C cl fp, PG (blkX X scope s H C cl fp) tg (pat.g X.K)) (hown : ∀ i ∈ pat.slots, i ∈ own.map (·.2)) (hlen : its.length < sizeLine)
    (turn : ∀ q ∈ its, ∃ ρ', pat.set q.1 (wipeR ρ (own.map (·.2))) = some ρ' ∧ ∀ s H C cl fp, J (blkX X scope s H C cl fp) kx ρ' (.str q.2.1) ∧ J (blkX X scope s H C cl fp) vx ρ' q.2.2) (hN : X.N.Nodup) (hc : X.calm = true := by rfl) (hs : ∀ x, foldedSetIterable iter X.env x = pure x := by intro _; rfl) :
    JDC X (.DictComp kx vx [⟨tg, iter, [], 0⟩] scope pos) ρ (dcD its) := ⟨fun W σ H ex hV Q g => by
  refine .of (pe_dc (tk := fun σ H Q => ∀ s H0 C cl fp, wE (blkX X scope s H0 C cl fp) kx σ H Q) (tv := fun σ H Q => ∀ s H0 C cl fp, wE (blkX X scope s H0 C cl fp) vx σ H Q) hc hN pi_w ok hg
    (fun s H0 C cl fp => pts_nil) (fun s H0 C cl fp => ⟨fun pins s' σ' H' Q' I h => h s H0 C cl fp pins s' I⟩) (fun s H0 C cl fp => ⟨fun pins s' σ' H' Q' I h => h s H0 C cl fp pins s' I⟩) hs) ?_
  refine hi W σ H ex hV _ fun Jt W1 H1 s1 wk => ?_
  intro Dn hD
  have hW1 : W1 Dn = none := Evl.fresh_back s1.wh hD
  refine ⟨fun i m H2 => m = its.length - i ∧ i ≤ its.length ∧ ∃ W2 kvs, Step W1 H1 W2 H2 ∧ W2 Dn = none ∧ H2 Dn = some (.dK kvs) ∧ kvs.map (·.1) = (dcD (its.take i)).map (·.1) ∧ RepAll X.K W2 ((dcD (its.take i)).map (·.2)) (kvs.map (·.2)), ⟨_, rfl, Nat.zero_le _, W1, [], .newH s1.wh hD, hW1, upd_same, rfl, .nil⟩, ?_⟩
  rintro i m H2 ⟨rfl, hil, W2, kvs, s2, hW2, hH2, hk, rv⟩
  by_cases hlt : i < its.length
  · refine .inr ⟨wk.go i H2 (s2.ww.trans s2.wh) (by rw [List.length_map]; exact hlt), _, fun H' z => ⟨_, (by omega : its.length - (i + 1) < its.length - i), rfl, hlt, z⟩, fun x H3 hy => ?_⟩
    obtain ⟨⟨d, kz, vz⟩, hd⟩ : ∃ d, its[i]? = some d := ⟨its[i], by simp [hlt]⟩
    obtain ⟨W3, s3, rx⟩ := wk.yld i H2 x H3 d (s2.ww.trans s2.wh) (by rw [List.getElem?_map, hd]; rfl) hy W2 s2.ww s2.wh
    obtain ⟨ρ', hset, ht⟩ := turn _ (List.mem_of_getElem? hd)
    have hV3 : Vis X.K ρ W3 σ := hV.mono ((s1.trans s2).trans s3).ww
    have hW3 : W3 Dn = none := by
      cases q : W3 Dn with
      | none => rfl
      | some o =>
        have := s3.fr Dn (by rw [q]; simp) hW2
        rw [hH2] at this; cases this
    have hH3 : H3 Dn = some (.dK kvs) := s3.hh _ _ hH2
    have tk : its.take (i + 1) = its.take i ++ [(d, kz, vz)] := by rw [List.take_add_one, hd]; rfl
    refine Pat.run (hV3.wipe _) s3.wh rx hset fun σ2 hV4 ho => ⟨wipe_eq (by rw [← hV4.len, ← hV3.len, Pat.set_length hset]; have := (hV3.wipe (own.map (·.2))).len; rw [wipe_length, ← hV3.len] at this; exact this.symm) hown ho, ?_⟩
    unfold tYes
    dsimp only
    rw [if_pos rfl]
    refine fun s H0 C cl fp => (ht s H0 C cl fp).1 W3 σ2 H3 s3.wh hV4 _ fun y W4 H4 s4 r4 => ?_
    cases r4
    refine fun s' H0' C' cl' fp' => (ht s' H0' C' cl' fp').2 W4 σ2 H4 s4.wh (hV4.mono s4.ww) _ fun v W5 H5 s5 r5 => ?_
    have s35 := s4.trans s5
    have hH5 := s35.hh _ _ hH3
    have hW5 : W5 Dn = none := by
      cases q : W5 Dn with
      | none => rfl
      | some o => have := s35.fr Dn (by rw [q]; simp) hW3; rw [hH3] at this; cases this
    have hvl : kvs.length ≤ i := by
      have h1 := congrArg List.length hk
      simp only [List.length_map] at h1
      have := dcD_take_len its i
      omega
    refine ⟨kvs, Sum.inr kz, rfl, hH5, by omega, W5, putK kvs (Sum.inr kz) v, ?_, hW5, upd_same, ?_, ?_⟩
    · have s25 := (s2.trans s3).trans s35
      refine ⟨s25.ww, fun a o h => ?_, fun a o h => ?_, s25.fr⟩
      · rw [upd_ne (ne_of_none h hW5)]; exact s25.wh a o h
      · rw [upd_ne (ne_of_none h hD)]; exact s25.hh a o h
    · rw [tk, dcD_snoc]; exact set_keys hk
    · rw [tk, dcD_snoc]; exact put_rep r5 hk (rv.mono (s3.trans s35).ww)
  · have e : i = its.length := by omega
    subst e
    rw [List.take_length] at rv hk
    exact .inl ⟨by have := wk.stop H2 (s2.ww.trans s2.wh); rwa [List.length_map] at this, g Dn W2 H2 kvs (s1.trans s2) (Evl.fresh_back s1.hh hD) hW2 hH2 hk rv⟩⟩
end
section
variable {X : Cx} {pin : List Nat} {ρ : RhoS} {Φ : Out → Prop} {e ke o : Expr} {d : D} {pos p' p1 p2 p3 : Pos} {i j : Nat} {x y f : Str} {C : Addr} {fds : List (Str × D)} {kds : List (Key × D)} {z : Str}
theorem js_fldJD (hi : ρ[i]? = some (some (.ow (.ins C fds)))) (h : JDC X e (fzR ρ) kds) (cl : Cls X.K C) (hn : NoAttr X.K C f) (hl : fds.length < 1000) (hk : Φ (.nx (ρ.set i (some (.ow (.ins C (putD f (.dct kds) fds))))))) (hN : X.N[i]? = some x := by rfl) (hv : L2.Vis X.env.scope x := by first | exact Or.inl rfl | exact Or.inr (Or.inl rfl))
    (hd : (x == ("__debug__" : Str)) = false := by decide) (hcd : (x == ("__classdict__" : Str)) = false := by decide) (hs : swapsWith e (some (.Attribute (.Name x p1) f p')) pos.line X.env = pure false := by rfl) : JS X pin (.Assign [.Attribute (.Name x p1) f p'] e pos) ρ Φ := ⟨fun E σ H D hpn ⟨Hf, A, s⟩ k => by
  refine .of (ps_fld (pe_var hN hv hd hcd) pe_w hs) (h.run Hf σ H s.fh s.vis _ fun a W' H' kvs st h1 h2 h3 h4 r => ?_)
  have e1 : upd (fun b => if b = a then none else H' b) a (.dK kvs) = H' := funext fun b => by
    by_cases q : b = a
    · rw [q, upd_same, h3]
    · rw [upd_ne q]; exact if_neg q
  have st' : Step Hf H W' (fun b => if b = a then none else H' b) := ⟨st.ww, fun b u hb => by
      have : b ≠ a := fun q => by rw [q, h2] at hb; cases hb
      show (if b = a then none else H' b) = _
      rw [if_neg this]; exact st.wh b u hb, fun b u hb => by
      have : b ≠ a := fun q => by rw [q, h1] at hb; cases hb
      show (if b = a then none else H' b) = _
      rw [if_neg this]; exact st.hh b u hb, st.fr⟩
  obtain ⟨ad, dx, fs, g1, g2, g3, g4, ok⟩ := (s.step st').newF (f := f) hi (l := a) (o := .dK kvs) (d' := .dct kds) (if_pos rfl) fun H'' hh => .dct hh h4 (OwnAll.fz r) (by simp)
  rw [e1] at ok
  have g3' : H' ad = some (.ins C dx fs) := by rw [← g3]; exact (if_neg g2).symm
  exact ⟨_, g1, ad, C, dx, fs, rfl, g3', cl, hn, by omega, k _ hk σ _ ok⟩⟩
/-- d[k] -/
theorem j_dget {ρ : Rho} (hu : X.A.units + 1 < cLine) (ho : J X o ρ (.dct kds)) (hke : J X ke ρ (.str z)) (hg : getD kds (.inr z) = some d) (hs : NoSl ke := by exact fun _ _ => rfl) : J X (.Subscript o ke pos) ρ d := ⟨fun W σ H ex V Q g => by
  refine .of (pe_dget hu pe_w pe_w hs) (ho W σ H ex V _ fun v W1 H1 s1 r1 => hke W1 σ H1 s1.wh (V.mono s1.ww) _ fun y W2 H2 s2 r2 => ?_)
  cases r2
  cases r1 with
  | dct k1 k2 k3 =>
    obtain ⟨u, e1, e2⟩ := get_rep k2 k3 hg
    exact ⟨_, u, rfl, e1 ▸ DGet.k (k := Sum.inr z) (s2.hh _ _ (s1.wh _ _ k1)), g _ W2 H2 (s1.trans s2) (e2.mono s2.ww)⟩⟩
/-- a comprehension stored to a plain local name, as the slot's own -/
theorem js_setLcO {tg iter elt : Expr} {ifs : List Expr} {scope : Scope} {own : List (Str × Nat)} {pat : Pat} {its : List (D × Option D)} {lpos : Pos} (hi' : JI X tg iter (fzR ρ) (its.map (·.1))) (ok : BlkOk X.N X.env.scope scope own) (hg : ∀ s H C cl fp, PG (blkX X scope s H C cl fp) tg (pat.g X.K)) (hown : ∀ i ∈ pat.slots, i ∈ own.map (·.2)) (hlen : its.length < sizeLine)
    (turn : ∀ q ∈ its, LcTurn X scope pat elt ifs (wipeR (fzR ρ) (own.map (·.2))) q.1 q.2) (hk : Φ (.nx (ρ.set i (some (.ow (.lst (its.filterMap (·.2)))))))) (hN : X.N.Nodup) (hsw : swapsWith (.ListComp elt [⟨tg, iter, ifs, 0⟩] scope lpos) (some (.Name x p')) pos.line X.env = pure true)
    (hi : X.N[i]? = some x := by rfl) (hx : X.env.scope.names.lookup x = some .local := by rfl) (hp : i ∉ pin := by decide) (hc : X.calm = true := by rfl) (hs : ∀ x, foldedSetIterable iter X.env x = pure x := by intro _; rfl) :
    JS X pin (.Assign [.Name x p'] (.ListComp elt [⟨tg, iter, ifs, 0⟩] scope lpos) pos) ρ Φ := ⟨fun E σ H D hpn ⟨Hf, A, s⟩ k =>
  .of (ps_setLc (tt := fun σ H Q => ∀ s H0 C cl fp, wTs (blkX X scope s H0 C cl fp) ifs σ H Q) (te := fun σ H Q => ∀ s H0 C cl fp, wE (blkX X scope s H0 C cl fp) elt σ H Q) hc hN hi hx hsw pi_w ok hg
    (fun s H0 C cl fp => ⟨fun pins s' σ' H' Q' I h => h s H0 C cl fp pins s' I⟩) (fun s H0 C cl fp => ⟨fun pins s' σ' H' Q' I h => h s H0 C cl fp pins s' I⟩) hs)
    (lc_read hi' hown hlen turn s.fh s.vis fun Dn W' H' vs st hD hW hH rv => k _ hk _ H' (s.newL st hD hW hH rv (hpn.none hp)))⟩
/-- .. over what is read in the whole heap, the items flat -/
theorem StAt.move {K : PySem.W.Frag} {E : Ent} {σ : L2.St} {H Hf : Hp} {A : Nat → List Addr} {v : V} (s : StAt K E ρ σ H Hf A) (hi : ρ[i]? = some (some (.ow d))) (hv : σ[i]? = some (some v)) (hp : E.pa i = none) (hpj : E.pa j = none) (hij : i ≠ j) :
    StAt K E ((ρ.set j (some (.ow d))).set i none) (σ.set j (some v)) H Hf (fun n => if n = j then A i else if n = i then [] else A n) where
  len := by rw [List.length_set, List.length_set, List.length_set]; exact s.len
  w0 := s.w0
  fh := s.fh
  fr := s.fr
  hh := s.hh
  kp := s.kp
  sl := fun n sv h => by
    by_cases hn : i = n
    · subst hn
      by_cases hl : i < (ρ.set j (some (.ow d))).length
      · rw [List.getElem?_set_self hl] at h; cases h
      · rw [List.getElem?_eq_none (by rw [List.length_set]; omega)] at h; cases h
    · rw [List.getElem?_set_ne hn] at h
      by_cases hj : j = n
      · subst hj
        by_cases hl : j < ρ.length
        · rw [List.getElem?_set_self hl] at h; cases h
          obtain ⟨v', e1, e2⟩ := s.sl i _ hi
          rw [hv] at e1; cases e1
          exact ⟨v, List.getElem?_set_self (by rw [← s.len]; exact hl), by dsimp only; rw [if_pos rfl]; exact e2⟩
        · rw [List.getElem?_eq_none (by rw [List.length_set]; omega)] at h; cases h
      · rw [List.getElem?_set_ne hj] at h ⊢
        obtain ⟨v', e1, e2⟩ := s.sl n sv h
        refine ⟨v', e1, ?_⟩
        cases sv with
        | fz d' => exact e2
        | ow d' => dsimp only at e2 ⊢; rw [if_neg (fun q => hj q.symm), if_neg (fun q => hn q.symm)]; exact e2
  ap := fun n a ha => by
    by_cases hj : n = j
    · rw [if_pos hj] at ha
      obtain ⟨h1, h2, h3⟩ := s.ap i a ha
      exact ⟨h1, h2, .inl (h3.resolve_right fun q => q.2 hp)⟩
    · rw [if_neg hj] at ha
      by_cases hn : n = i
      · rw [if_pos hn] at ha; exact absurd ha (by simp)
      · rw [if_neg hn] at ha; exact s.ap n a ha
  dj := fun n m a h1 h2 => by
    have g : ∀ n, a ∈ (if n = j then A i else if n = i then [] else A n) → (n = j ∧ a ∈ A i) ∨ (n ≠ j ∧ n ≠ i ∧ a ∈ A n) := fun n h => by
      by_cases hj : n = j
      · rw [if_pos hj] at h; exact .inl ⟨hj, h⟩
      · rw [if_neg hj] at h
        by_cases hn : n = i
        · rw [if_pos hn] at h; exact absurd h (by simp)
        · rw [if_neg hn] at h; exact .inr ⟨hj, hn, h⟩
    rcases g n h1 with ⟨a1, a2⟩ | ⟨a1, a2, a3⟩ <;> rcases g m h2 with ⟨b1, b2⟩ | ⟨b1, b2, b3⟩
    · rw [a1, b1]
    · exact absurd (s.dj _ _ _ a2 b3).symm b2
    · exact absurd (s.dj _ _ _ b2 a3).symm a2
    · exact s.dj _ _ _ a3 b3
  pn := fun n a h => by
    have hn : j ≠ n := fun q => by subst q; rw [hpj] at h; cases h
    rw [List.getElem?_set_ne hn]; exact s.pn n a h
/-- y = x, x in a slot that holds its own; x is read no more -/
theorem js_move {d : D} (hi : ρ[i]? = some (some (.ow d))) (hk : Φ (.nx ((ρ.set j (some (.ow d))).set i none))) (hN : X.N.Nodup) (hij : i ≠ j := by decide) (hNi : X.N[i]? = some x := by rfl) (hNj : X.N[j]? = some y := by rfl) (hv : L2.Vis X.env.scope x := by first | exact Or.inl rfl | exact Or.inr (Or.inl rfl)) (hx : Loc X.env.scope y := by first | exact Or.inl rfl | exact Or.inr rfl) (hp : i ∉ pin := by decide) (hpj : j ∉ pin := by decide)
    (hd : (x == ("__debug__" : Str)) = false := by decide) (hcd : (x == ("__classdict__" : Str)) = false := by decide) (hs : swapsWith (.Name x p1) (some (.Name y p')) pos.line X.env = pure false := by rfl)
    (hf : X.fn y = true ∨ X.env.scope.names.lookup y = some .local := by first | exact .inl rfl | exact .inr rfl) : JS X pin (.Assign [.Name y p'] (.Name x p1) pos) ρ Φ := ⟨fun E σ H D hpn ⟨Hf, A, s⟩ k => by
  obtain ⟨v, e1, e2⟩ := s.sl i _ hi
  exact .of (ps_set hN hNj hx (pe_var hNi hv hd hcd) hs hf) ⟨v, e1, k _ hk _ H ⟨Hf, _, s.move hi e1 (hpn.none hp) (hpn.none hpj) hij⟩⟩⟩
/-- a, b = x.f.pop(k), the key there, a tuple of flat things -/
theorem js_patPop {tg : Expr} {is : List Nat} {es : List D} {ρ' : RhoS} {f2 : Str} {apos cpos : Pos} (hi : ρ[i]? = some (some (.ow (.ins C fds)))) (hf2 : fds.lookup f2 = some (.dct kds)) (hke : J X ke (allR ρ) (.str z)) (hg : getD kds (.inr z) = some (.tup es)) (hfl : es.all flatD = true) (cl : Cls X.K C) (hn2 : NoAttr X.K C f2)
    (hset : (Pat.tp is).setS (.tup es) (ρ.set i (some (.ow (.ins C (putD f2 (.dct (delD kds (.inr z))) fds))))) = some ρ') (hk : Φ (.nx ρ')) (hpg : PG X tg ((Pat.tp is).g X.K)) (hp : ∀ i ∈ is, i ∉ pin := by decide)
    (hN : X.N[i]? = some x := by rfl) (hv : L2.Vis X.env.scope x := by first | exact Or.inl rfl | exact Or.inr (Or.inl rfl)) (hd : (x == ("__debug__" : Str)) = false := by decide) (hcd : (x == ("__classdict__" : Str)) = false := by decide)
    (hb : attributeBase (.Name x p1) f2 X.env (eval (.Name x p1) X.env) = eval (.Name x p1) X.env := by rfl) (m1 : M1 X (.Attribute (.Name x p1) f2 p2) "pop" apos ke cpos := by exact ⟨rfl, rfl, rfl, rfl⟩)
    (hs : swapsWithSole [tg] (.Call (.Attribute (.Attribute (.Name x p1) f2 p2) "pop" apos) [ke] [] cpos) pos.line X.env = pure false := by rfl) (hw : swappedStores [tg] (.Call (.Attribute (.Attribute (.Name x p1) f2 p2) "pop" apos) [ke] [] cpos) X.env = pure none := by rfl)
    (h1 : (assignEach [tg] X.env).map (·.2) = [assign tg X.env] := by rfl) : JS X pin (.Assign [tg] (.Call (.Attribute (.Attribute (.Name x p1) f2 p2) "pop" apos) [ke] [] cpos) pos) ρ Φ := ⟨fun E σ H D hpn ⟨Hf, A, s⟩ k => by
  refine .of (ps_asg (pe_dpop1 (pe_fld (pe_var hN hv hd hcd) hb) pe_w m1) hpg hs hw h1) ?_
  obtain ⟨ad, dx, fs, l, kvs, h1, h2, h3, h4, h5, h6, h7, h8, _⟩ := s.dctF hi hf2
  refine ⟨_, h1, ad, C, dx, fs, _, rfl, h2, cl, hn2, h4, l, rfl, .inl ⟨kvs, .inl h6⟩, ?_⟩
  refine hke H σ H (.refl _) s.visH _ fun y W2 H2 st2 r2 => ?_
  cases r2
  have s2 := s.grow st2.hh
  obtain ⟨v0, e0, r0⟩ := get_rep h7 h8 hg
  cases r0 with
  | @tup a us _ q1 q2 =>
    refine ⟨kvs, Sum.inr z, _, st2.hh _ _ h6, rfl, e0, ?_⟩
    obtain ⟨ad2, dx2, fs2, l2, kvs2, g1, g2, g3, g4, g5, g6, g7, g8, _, g9⟩ := s2.dctF hi hf2
    have e1 : some (some (V.ref ad)) = _ := h1.symm.trans g1
    cases e1
    have e2 := (st2.hh _ _ h2).symm.trans g2
    cases e2
    have e3 := h4.symm.trans g4
    cases e3
    have e4 := (st2.hh _ _ h6).symm.trans g6
    cases e4
    obtain ⟨Hf3, A3, s3⟩ := g9 (k := Sum.inr z)
    have q1' : SqT X.K (upd H2 l (.dK (dropK kvs (Sum.inr z)))) a us := by
      have q3 := Evl.ex_t st2.hh q1
      rcases q3 with h | h
      · refine .inl ?_
        rcases h with h | ⟨q, h⟩
        · exact .inl (by rw [upd_ne fun w => by rw [w, g6] at h; cases h]; exact h)
        · exact .inr ⟨q, by rw [upd_ne fun w => by rw [w, g6] at h; cases h]; exact h⟩
      · exact .inr h
    have fl : ∀ {es : List Pf.D} {us : List V}, RepAll X.K H es us → es.all flatD = true → RepAll X.K Hf3 es us := fun {es} => by
      induction es with
      | nil => intro us r _; cases r; exact .nil
      | cons e es ih =>
        intro us r ha
        rw [List.all_cons, Bool.and_eq_true] at ha
        cases r with
        | cons r t => exact .cons (r.any ha.1) (ih t ha.2)
    simp only [Pat.setS] at hset
    split at hset
    · rename_i hl
      cases hset
      obtain ⟨A', s'⟩ := setAllFz (i := 0) is s3 (fl q2 hfl) hl fun j hj => hpn.none (hp j hj)
      exact ⟨_, _, rfl, q1', by rw [← q2.length]; exact hl, gNames_run is (by rw [← q2.length]; exact hl) (k _ hk _ _ ⟨_, _, s'⟩)⟩
    · cases hset⟩
end
end Pf

namespace Pf
open PySem L2
open Evl (Ex)
/-! ### [.. for k, v in x.f.items()], the values flat or tuples of flat things -/
def flat1D : D → Bool
  | .tup ds => ds.all flatD
  | d => flatD d
theorem RepAll.any {K : PySem.W.Frag} {H H' : Hp} : ∀ {ds : List D} {vs : List V}, RepAll K H ds vs → ds.all flatD = true → RepAll K H' ds vs
  | _, _, .nil, _ => .nil
  | _, _, .cons r t, h => by
    rw [List.all_cons, Bool.and_eq_true] at h
    exact .cons (r.any h.1) (RepAll.any t h.2)
theorem Rep.any1 {K : PySem.W.Frag} {H H' : Hp} {d : D} {v : V} (r : Rep K H d v) (h : flat1D d = true) (hT : ∀ a xs, SqT K H a xs → SqT K H' a xs) : Rep K H' d v := by
  cases r with
  | tup h1 k => exact .tup (hT _ _ h1) (k.any h)
  | non => exact .non
  | bl b => exact .bl b
  | int b => exact .int b
  | str b => exact .str b
  | _ => cases h
theorem SqT.lock {K : PySem.W.Frag} {W : Hp} {l : Addr} {kvs : List (Key × V)} {o : HO} (hl : W l = some (.dK kvs)) {b : Addr} {xs : List V} (hb : SqT K W b xs) : SqT K (upd W l o) b xs := by
  rcases hb with h | h
  · refine .inl ?_
    rcases h with h | ⟨q, h⟩
    · exact .inl (by rw [upd_ne fun z => by rw [z, hl] at h; cases h]; exact h)
    · exact .inr ⟨q, by rw [upd_ne fun z => by rw [z, hl] at h; cases h]; exact h⟩
  · exact .inr h
theorem walks_items2 {K : PySem.W.Frag} {W : Hp} {d : Addr} {o : Obj} {kvs : List (Key × V)} {kds : List (Key × D)} (h : W d = some (.frz o (.dK kvs))) (hk : kvs.map (·.1) = kds.map (·.1)) {H0 : Hp} (hr : RepAll K H0 (kds.map (·.2)) (kvs.map (·.2))) (hf : ∀ kv ∈ kds, flat1D kv.2 = true) (hT : ∀ a xs, SqT K H0 a xs → SqT K W a xs) : Walks K (Iti d o kvs) W (kds.map itemD) where
  go := fun i H ex hi => ⟨ex _ _ h, by rw [List.length_map] at hi; have := congrArg List.length hk; simp at this; omega⟩
  yld := fun i H x H' e ex hd hy W2 e1 e2 => by
    obtain ⟨T, k, v, g1, rfl, g2, rfl⟩ := hy
    rw [List.getElem?_map] at hd
    cases hkd : kds[i]? with
    | none => rw [hkd] at hd; cases hd
    | some kd =>
      rw [hkd] at hd
      cases hd
      have e3 : k = kd.1 := by
        have h1 : (kvs.map (·.1))[i]? = some k := by rw [List.getElem?_map, g1]; rfl
        rw [hk, List.getElem?_map, hkd] at h1
        exact (Option.some.inj h1).symm
      subst e3
      obtain ⟨v', k1, k2⟩ := hr.get (i := i) (d := kd.2) (by rw [List.getElem?_map, hkd]; rfl)
      rw [List.getElem?_map, g1] at k1
      cases k1
      refine ⟨upd W2 T (.tup [kV kd.1, v]), .new e2 g2, .tup (SqT.of upd_same) (.cons (keyD_rep _) (.cons (k2.any1 (hf kd (List.mem_of_getElem? hkd)) fun a xs q => Evl.ex_t (Evl.Ex.trans e1 (.new (Evl.fresh_back e2 g2))) (hT a xs q)) .nil))⟩
  stop := fun H ex => ⟨ex _ _ h, by have := congrArg List.length hk; simp at this ⊢; omega⟩
section
variable {X : Cx} {elt : Expr} {elts : List Expr} {scope : Scope} {own : List (Str × Nat)} {pos tpos apos cpos p1 p2 : Pos} {kk : Nat} {ρ : Rho} {its : List (D × Option D)} {pat : Pat} {x f : Str} {i : Nat} {C : Addr} {fds : List (Str × D)} {kds : List (Key × D)}
theorem j_lcItemsP (hi : ρ[i]? = some (some (.ins C fds))) (hf : fds.lookup f = some (.dct kds)) (hfl : ∀ kv ∈ kds, flat1D kv.2 = true) (hits : its.map (·.1) = kds.map itemD) (cl : Cls X.K C) (hn : NoAttr X.K C f) (ok : BlkOk X.N X.env.scope scope own) (hg : ∀ s H C cl fp, PG (blkX X scope s H C cl fp) (.Tuple elts kk tpos) (pat.g X.K)) (hown : ∀ j ∈ pat.slots, j ∈ own.map (·.2)) (hlen : kds.length < sizeLine)
    (turn : ∀ q ∈ its, LcTurn X scope pat elt [] (wipeR (ρ.map fun _ => none) (own.map (·.2))) q.1 q.2) (hN : X.N.Nodup) (hNi : X.N[i]? = some x := by rfl) (hv : L2.Vis X.env.scope x := by first | exact Or.inl rfl | exact Or.inr (Or.inl rfl)) (hd : (x == ("__debug__" : Str)) = false := by decide) (hcd : (x == ("__classdict__" : Str)) = false := by decide)
    (hb : attributeBase (.Name x p1) f X.env (eval (.Name x p1) X.env) = eval (.Name x p1) X.env := by rfl) (hb2 : attributeBase (.Attribute (.Name x p1) f p2) "items" X.env (eval (.Attribute (.Name x p1) f p2) X.env) = eval (.Attribute (.Name x p1) f p2) X.env := by rfl) (hline : (apos.endLine == cpos.line) = true := by rfl)
    (hc : X.calm = true := by rfl) (hs : ∀ y, foldedSetIterable (.Call (.Attribute (.Attribute (.Name x p1) f p2) "items" apos) [] [] cpos) X.env y = pure y := by intro _; rfl) :
    J X (.ListComp elt [⟨.Tuple elts kk tpos, .Call (.Attribute (.Attribute (.Name x p1) f p2) "items" apos) [] [] cpos, [], 0⟩] scope pos) ρ (.lst (its.filterMap (·.2))) := ⟨fun W σ H ex hV Q g => by
  obtain ⟨v, hσ, r⟩ := hV.at_ i _ hi
  cases r with
  | @ins ad _ dx fs _ h1 h2 h3 =>
    obtain ⟨vd, e1, e2⟩ := lookup_rep h2 h3 hf
    cases e2 with
    | @dct d kvs _ k1 k2 k3 =>
      refine .of (pe_lock (pe_lc (pos := pos) (tt := fun σ H Q => ∀ s H0 C cl fp, wTs (blkX X scope s H0 C cl fp) [] σ H Q) (te := fun σ H Q => ∀ s H0 C cl fp, wE (blkX X scope s H0 C cl fp) elt σ H Q) hc hN pi_w ok hg
        (fun s H0 C cl fp => ⟨fun pins s' σ' H' Q' I h => h s H0 C cl fp pins s' I⟩) (fun s H0 C cl fp => ⟨fun pins s' σ' H' Q' I h => h s H0 C cl fp pins s' I⟩) hs)) ?_
      refine ⟨d, .dK kvs, ex _ _ k1, trivial, fun od => ?_⟩
      have nad : ad ≠ d := fun z => by rw [z, k1] at h1; cases h1
      have exl : Ex (upd W d (.frz od (.dK kvs))) (upd H d (.frz od (.dK kvs))) := fun b o h => by
        by_cases z : b = d
        · rw [z, upd_same] at h ⊢; exact h
        · rw [upd_ne z] at h ⊢; exact ex b o h
      have hVn : Vis X.K (ρ.map fun _ => none) (upd W d (.frz od (.dK kvs))) σ := ⟨by rw [List.length_map]; exact hV.len, fun j e hj => by
        rw [List.getElem?_map] at hj
        cases q : ρ[j]? with
        | none => rw [q] at hj; cases hj
        | some o => rw [q] at hj; cases hj⟩
      refine lc_readAt (its := its) (pat := pat) (fun R k => .of (pi_items (pe_fld (pe_var hNi hv hd hcd) hb) hb2 hline) ⟨_, hσ, ad, C, dx, fs, _, rfl, by rw [upd_ne nad]; exact ex _ _ h1, cl, hn, e1, d, od, kvs, rfl, upd_same, k _ _ _ (.refl exl) (by rw [hits]; exact walks_items2 upd_same k2 k3 hfl fun a xs q => SqT.lock k1 q)⟩) hown (by have := congrArg List.length hits; simp at this; omega) turn exl hVn fun Dn W' H' vs st q1 q2 q3 rv => ?_
      have hd' : W' d = some (.frz od (.dK kvs)) := st.ww _ _ upd_same
      refine ⟨st.wh _ _ hd', ?_⟩
      have nD : Dn ≠ d := fun z => by rw [z, upd_same] at q1; cases q1
      have rv' := RepAll.unlock (o := .dK kvs) hd' rv
      have nW : upd W' d (.dK kvs) Dn = none := by rw [upd_ne nD]; exact q2
      have hD : upd H' d (.dK kvs) Dn = some (.lst vs) := by rw [upd_ne nD]; exact q3
      have q1' : H Dn = none := by rw [upd_ne nD] at q1; exact q1
      have st0 : Step W H (upd W' d (.dK kvs)) (upd H' d (.dK kvs)) := by
        refine ⟨fun b o h => ?_, fun b o h => ?_, fun b o h => ?_, fun b z1 z2 => ?_⟩
        · by_cases z : b = d
          · rw [z, k1] at h; cases h; rw [z, upd_same]
          · rw [upd_ne z]; exact st.ww _ _ (by rw [upd_ne z]; exact h)
        · by_cases z : b = d
          · rw [z, upd_same] at h ⊢; exact h
          · rw [upd_ne z] at h ⊢; exact st.wh _ _ h
        · by_cases z : b = d
          · rw [z, ex _ _ k1] at h; cases h; rw [z, upd_same]
          · rw [upd_ne z]; exact st.hh _ _ (by rw [upd_ne z]; exact h)
        · by_cases z : b = d
          · rw [z, k1] at z2; cases z2
          · rw [upd_ne z] at z1
            have := st.fr b z1 (by rw [upd_ne z]; exact z2)
            rw [upd_ne z] at this; exact this
      exact g _ _ _ (st0.show' q1' nW hD) (.lst upd_same (rv'.mono fun a u h => by rw [upd_ne (ne_of_none h nW)]; exact h))⟩
end
section
variable {X : Cx} {pin : List Nat} {ρ : RhoS} {Φ : Out → Prop} {es : List Expr} {ds ts : List D} {pos tpos p1 p2 p3 : Pos} {kk : Nat} {i : Nat} {x : Str}
/-- xs.append((e, ..)), the parts flat, read in the whole heap -/
theorem js_appendT (hi : ρ[i]? = some (some (.ow (.lst ds)))) (h : JA X es (allR ρ) ts) (hfl : ts.all flatD = true) (htl : ts.length ≤ sizeLine) (hl : ds.length < sizeLine) (hk : Φ (.nx (ρ.set i (some (.ow (.lst (ds ++ [.tup ts]))))))) (hN : X.N[i]? = some x := by rfl) (hv : L2.Vis X.env.scope x := by first | exact Or.inl rfl | exact Or.inr (Or.inl rfl))
    (hd : (x == ("__debug__" : Str)) = false := by decide) (hcd : (x == ("__classdict__" : Str)) = false := by decide) (hst : starEach [.Tuple es kk tpos] X.env = (false, eval (.Tuple es kk tpos) X.env) :: starEach [] X.env := by rfl)
    (hfew : ((backTo p3 (starEach [.Tuple es kk tpos] X.env)).all (fun x => !x.1) && (backToKw p3 (keywordEach [] X.env)).all (fun x => x.1.isSome) && decide ([Expr.Tuple es kk tpos].length + ([] : List Keyword).length + (if ([] : List Keyword).isEmpty then 0 else 1) < 30)) = true := by rfl)
    (hline : (p2.endLine == p3.line) = true := by rfl)
    (hs : swapsWith (.Call (.Attribute (.Name x p1) "append" p2) [.Tuple es kk tpos] [] p3) none pos.line X.env = pure false := by rfl) : JS X pin (.Expr (.Call (.Attribute (.Name x p1) "append" p2) [.Tuple es kk tpos] [] p3) pos) ρ Φ := ⟨fun E σ H D hpn ⟨Hf, A, s⟩ k => by
  refine .of (ps_expr (pe_bm PySem.F.plainAttrs_list PySem.F.slot_list_append PySem.F.type_list_append mt_append (pe_var hN hv hd hcd) (pa_cons (pe_tup pa_w) pa_nil hst) rfl hfew hline hst) hs) ?_
  obtain ⟨v, hσ, ow, ne⟩ := s.sl i _ hi
  generalize hA : A i = Ai at ow ne
  cases ow with
  | fz _ => exact absurd rfl ne
  | @lst l vs _ B hl1 ha nB =>
    refine ⟨_, hσ, .inl ⟨rfl, _, SqL.of hl1⟩, ?_⟩
    refine h H σ H (.refl _) s.visH _ fun ys W' H' st r => ⟨by rw [← r.length]; exact htl, fun q hq => ?_⟩
    have s0 := s.grow st.hh
    have s' := s0.step (.new s0.fh hq (o := .tup ys))
    have hl2 : upd H' q (.tup ys) l = some (.lst vs) := by rw [upd_ne fun z => by rw [← z, st.hh _ _ hl1] at hq; cases hq]; exact st.hh _ _ hl1
    have rq : Rep X.K (upd Hf q (.tup ys)) (.tup ts) (.ref q) := .tup (SqT.of upd_same) (r.any hfl)
    refine ⟨l, vs, .ref q, rfl, rfl, hl2, by rw [← ha.length]; exact hl, ?_⟩
    have hm : l ∈ A i := by rw [hA]; exact List.mem_cons_self
    have k1 : ∀ a ∈ B, upd (upd H' q (.tup ys)) l (.lst (vs ++ [.ref q])) a = H a := fun a haB => by
      rw [upd_ne (fun z => by subst z; exact nB haB)]
      have := (s.ap i a (by rw [hA]; exact List.mem_cons_of_mem _ haB)).2.1
      cases qq : H a with
      | none => exact absurd qq this
      | some o => rw [upd_ne fun z => by rw [z] at qq; rw [st.hh _ _ qq] at hq; cases hq]; exact st.hh _ _ qq
    exact k _ hk _ _ ⟨_, _, s'.change (B := l :: B) hi hσ hm (by simp) (fun b hb => by rw [hA]; exact hb) (.lst upd_same ((ha.move (.new (Evl.fresh_back s0.fh hq)) k1).snoc rq) nB)⟩⟩
end
/-! ### a comprehension over an own list, stored as another one -/
def stillD : D → Bool
  | .lst _ => false
  | .dct _ => false
  | .ins _ _ => false
  | _ => true
theorem OwnAll.still {K : PySem.W.Frag} {Hf H : Hp} : ∀ {ds : List D} {vs : List V} {A : List Addr}, OwnAll K Hf H ds vs A → (∀ d ∈ ds, stillD d = true) → RepAll K Hf ds vs
  | _, _, _, .nil, _ => .nil
  | _, _, _, .cons q t _, h => .cons (by
      cases q with
      | fz r => exact r
      | lst _ _ _ => have := h _ List.mem_cons_self; cases this
      | dct _ _ _ _ => have := h _ List.mem_cons_self; cases this
      | ins _ _ _ _ => have := h _ List.mem_cons_self; cases this) (OwnAll.still t fun d hd => h d (List.mem_cons_of_mem _ hd))
theorem RepAll.any1 {K : PySem.W.Frag} {H H' : Hp} (hT : ∀ a xs, SqT K H a xs → SqT K H' a xs) : ∀ {ds : List D} {vs : List V}, RepAll K H ds vs → (∀ d ∈ ds, flat1D d = true) → RepAll K H' ds vs
  | _, _, .nil, _ => .nil
  | _, _, .cons r t, h => .cons (r.any1 (h _ List.mem_cons_self) hT) (RepAll.any1 hT t fun d hd => h d (List.mem_cons_of_mem _ hd))
section
variable {X : Cx} {pin : List Nat} {ρ : RhoS} {Φ : Out → Prop} {pos p' : Pos} {i j : Nat} {x : Str}
theorem js_setLcJ {tg iter elt : Expr} {ifs : List Expr} {scope : Scope} {own : List (Str × Nat)} {pat : Pat} {its : List (D × Option D)} {lpos : Pos} {ds : List D} (hj : ρ[j]? = some (some (.ow (.lst ds)))) (hst : ∀ d ∈ ds, stillD d = true) (hi' : JI X tg iter ((fzR ρ).set j (some (.lst ds))) (its.map (·.1))) (ok : BlkOk X.N X.env.scope scope own) (hg : ∀ s H C cl fp, PG (blkX X scope s H C cl fp) tg (pat.g X.K)) (hown : ∀ i ∈ pat.slots, i ∈ own.map (·.2)) (hlen : its.length < sizeLine)
    (turn : ∀ q ∈ its, LcTurn X scope pat elt ifs (wipeR ((fzR ρ).set j (some (.lst ds))) (own.map (·.2))) q.1 q.2) (hfl : ∀ d ∈ its.filterMap (·.2), flat1D d = true) (hk : Φ (.nx (ρ.set i (some (.ow (.lst (its.filterMap (·.2)))))))) (hN : X.N.Nodup) (hsw : swapsWith (.ListComp elt [⟨tg, iter, ifs, 0⟩] scope lpos) (some (.Name x p')) pos.line X.env = pure true)
    (hi : X.N[i]? = some x := by rfl) (hx : X.env.scope.names.lookup x = some .local := by rfl) (hp : i ∉ pin := by decide) (hc : X.calm = true := by rfl) (hs : ∀ x, foldedSetIterable iter X.env x = pure x := by intro _; rfl) :
    JS X pin (.Assign [.Name x p'] (.ListComp elt [⟨tg, iter, ifs, 0⟩] scope lpos) pos) ρ Φ := ⟨fun E σ H D hpn ⟨Hf, A, s⟩ k => by
  refine .of (ps_setLc (tt := fun σ H Q => ∀ s H0 C cl fp, wTs (blkX X scope s H0 C cl fp) ifs σ H Q) (te := fun σ H Q => ∀ s H0 C cl fp, wE (blkX X scope s H0 C cl fp) elt σ H Q) hc hN hi hx hsw pi_w ok hg
    (fun s H0 C cl fp => ⟨fun pins s' σ' H' Q' I h => h s H0 C cl fp pins s' I⟩) (fun s H0 C cl fp => ⟨fun pins s' σ' H' Q' I h => h s H0 C cl fp pins s' I⟩) hs) ?_
  obtain ⟨v, hσ, ow, ne⟩ := s.sl j _ hj
  generalize hA : A j = Aj at ow ne
  cases ow with
  | fz _ => exact absurd rfl ne
  | @lst l vs _ B hl1 ha nB =>
    have lf : Hf l = none := (s.ap j l (by rw [hA]; exact List.mem_cons_self)).1
    have ex1 : Ex Hf (upd Hf l (.lst vs)) := .new lf
    have exH : Ex (upd Hf l (.lst vs)) H := fun b o h => by
      by_cases e : b = l
      · rw [e, upd_same] at h; cases h; rw [e]; exact hl1
      · rw [upd_ne e] at h; exact s.fh b o h
    have vis : Vis X.K ((fzR ρ).set j (some (.lst ds))) (upd Hf l (.lst vs)) σ := by
      have e := (s.vis.mono ex1).set (d := .lst ds) (v := .ref l) (.lst upd_same ((ha.still hst).mono ex1)) j
      have e2 : σ.set j (some (.ref l)) = σ := by
        apply List.ext_getElem?
        intro n
        by_cases hn : j = n
        · subst hn
          rw [List.getElem?_set_self (List.getElem?_eq_some_iff.mp hσ).1, hσ]
        · rw [List.getElem?_set_ne hn]
      rw [e2] at e; exact e
    refine lc_read hi' hown hlen turn exH vis fun Dn W' H' vs' st hD hW hH rv => ?_
    have hWl : W' l = some (.lst vs) := st.ww _ _ upd_same
    have st' : Step Hf H (fun b => if b = l then none else W' b) H' := ⟨fun b o h => by
        have : b ≠ l := fun e => by rw [e, lf] at h; cases h
        show (if b = l then none else W' b) = _
        rw [if_neg this]; exact st.ww _ _ (by rw [upd_ne this]; exact h), fun b o h => by
        by_cases e : b = l
        · have h' : (if b = l then none else W' b) = some o := h
          rw [if_pos e] at h'; cases h'
        · have h' : (if b = l then none else W' b) = some o := h
          rw [if_neg e] at h'; exact st.wh _ _ h', st.hh, fun b h1 h2 => by
        by_cases e : b = l
        · exact absurd (if_pos e) h1
        · have h1' : ¬ (if b = l then none else W' b) = none := h1
          rw [if_neg e] at h1'
          exact st.fr b h1' (by rw [upd_ne e]; exact h2)⟩
    have hT : ∀ a xs, SqT X.K W' a xs → SqT X.K (fun b => if b = l then none else W' b) a xs := fun a xs hb => by
      have ne : ∀ {o}, W' a = some o → (∀ q, o ≠ .lst q) → (fun b => if b = l then none else W' b) a = some o := fun {o} h ho => by
        show (if a = l then none else W' a) = _
        rw [if_neg fun e => by rw [e, hWl] at h; cases h; exact ho _ rfl]; exact h
      rcases hb with h | h
      · refine .inl ?_
        rcases h with h | ⟨q, h⟩
        · exact .inl (ne h fun _ => by simp)
        · exact .inr ⟨q, ne h fun _ => by simp⟩
      · exact .inr h
    have hDn : (fun b => if b = l then none else W' b) Dn = none := by
      show (if Dn = l then none else W' Dn) = none
      split
      · rfl
      · exact hW
    exact k _ hk _ H' (s.newL st' hD hDn hH (rv.any1 hT hfl) (hpn.none hp))⟩
end
end Pf

namespace Pf
open PySem L2 PySem.Spec PyProof.Rows
open Evl (Ex)
/-! ### del xs[:c] -/
theorem drop_sel {S : Value × Nat → Bool} {c : Nat} (hS : ∀ p, S p = decide (p.2 < c)) (its : List Value) : ((its.toArray.toList.zipIdx.filterMap fun p => if S p = true then none else some p.1).toArray) = (its.drop c).toArray := by
  have key : ∀ (its : List Value) (n : Nat), ((its.zipIdx n).filterMap fun p => if S p = true then none else some p.1) = its.drop (c - n) := fun its => by
    induction its with
    | nil => intro n; simp
    | cons x xs ih =>
      intro n
      rw [List.zipIdx_cons, List.filterMap_cons]
      dsimp only
      rw [hS (x, n)]
      dsimp only
      by_cases h : n < c
      · rw [if_pos (decide_eq_true h)]
        dsimp only
        rw [ih (n + 1)]
        rw [show c - n = (c - (n + 1)) + 1 by omega]
        rfl
      · rw [if_neg (by simpa using h)]
        dsimp only
        rw [ih (n + 1), show c - n = 0 by omega, show c - (n + 1) = 0 by omega]
        rfl
  have := key its 0
  rw [List.toList_toArray, this]
  rfl
theorem bounds_run0 {c n : Nat} (hc : c ≤ n) : sliceBounds none (some (c : Int)) none n = (0, (c : Int), 1) := by
  simp only [sliceBounds, Option.getD_none]
  have h2 : ¬ ((c : Int) < 0) := by omega
  simp only [h2, if_false, show (1 : Int) > 0 by decide, if_true]
  congr 1
  congr 1
  omega
section
variable {prog : Program} {w : World} {A : Around} {E : Value → Shared → Prop} {s : Shared}
theorem delItem_slice {l sl : Addr} {its : List Value} {n : Nat} {vu : Value} {c : Nat} {Q : Unit → Shared → Prop}
    (e : s.heap.get? l = some { cls := .type "list", data := .seq its.toArray n }) (hs : s.heap.IsSliceOf sl .none vu .none) (pu : IsPart vu (some (c : Int))) (hc : c ≤ its.length) (hsz : its.length ≤ sizeLine)
    (h : ∀ f : Array Value → Array Value, f its.toArray = (its.drop c).toArray → Q () { s with heap := s.heap.update l (Obj.mapSeq f) }) : wpAny (model prog w) A (delItem (.ref l) (.ref sl)) Q E s := by
  have hl : s.heap.IsList l its.toArray := PySem.IsL.isList e
  obtain ⟨os, hos, hcs, hds⟩ := id hs
  have hTs : s.TypeIs (.ref sl) "slice" := ⟨os, hos, hcs⟩
  have hstep : ¬ ((rawPart none == rawInt 0) = true) := Bool.false_ne_true
  refine wpAny_delItem_slot hl.typeIs (by decide) F.slot_list_delitem ?_
  refine wpAny_call_entry F.slot_list_delitem hl.typeIs F.entry_list_delitem ?_ (F.args_list_delitem_2 _ _)
  show wpAny _ _ (Builtin.List.listSubscript? (.ref sl) >>= _) _ _ s
  refine wpAny_bind ?_
  unfold Builtin.List.listSubscript?
  refine wpAny_bind (wpAny_specialOf hTs slice_no_index ?_)
  simp only [Option.isNone_none, if_true]
  refine wpAny_pure ?_
  show wpAny _ _ (typeOf (.ref sl) >>= _) _ _ s
  refine wpAny_bind (wpAny_typeOf hTs ?_)
  first
    | rw [if_neg (by decide)]
    | refine PySem.W.KFB.if_not (by decide) ?_
  rw [listSliceParts_eq]
  refine wpAny_bind (wpAny_bind (wpAny_field hos hds (x := .none) rfl (wpAny_bind (wpAny_listPart .none ?_))))
  rw [if_neg hstep]
  refine wpAny_bind (wpAny_field hos hds (x := .none) rfl (wpAny_bind (wpAny_listPart .none ?_)))
  refine wpAny_bind (wpAny_field hos hds (x := vu) rfl (wpAny_bind (wpAny_listPart pu (wpAny_pure ?_))))
  dsimp only
  unfold Builtin.List.listItems
  refine wpAny_bind (wpAny_bind (wpAny_seqItems e rfl (wpAny_pure ?_)))
  refine wpAny_bind (wpAny_of_eq ((sliceIndices_raw none (some (c : Int)) none its.toArray.size (by simp)).trans (congrArg (pure : Int × Int × Int → Sem (Int × Int × Int)) (bounds_run0 (by rw [List.size_toArray]; exact hc)))) ?_)
  dsimp only
  refine wpAny_bind (wpAny_rule ?_)
  have hz : its.toArray.size ≤ sizeLine := by rw [List.size_toArray]; exact hsz
  have hk : ∀ k : Nat, (if (1 : Int) > 0 then (decide ((0 : Int) ≤ (k : Int)) && decide ((k : Int) < (c : Int)) && (((k : Int) - 0) % 1 == 0)) else (decide ((c : Int) < (k : Int)) && decide ((k : Int) ≤ 0) && ((0 - (k : Int)) % (-1) == 0))) = decide (k < c) := fun k => by
    rw [if_pos (by decide)]
    have e1 : (((k : Int) - 0) % 1 == 0) = true := by rw [Int.emod_one]; rfl
    rw [e1, decide_eq_true (by omega : (0 : Int) ≤ (k : Int))]
    simp
  refine wpAny_bind (wpAny_updateSeq (hz := hz) (_hz' := ?_) e rfl ?_)
  · refine wpAny_bind (wpAny_letGo ?_)
    exact wpAny_pure ⟨.none, rfl, h _ (by
      refine drop_sel (c := c) ?_ its
      exact fun p => hk p.2)⟩
  · have : ∀ x : Array Value, x = (its.drop c).toArray → x.size ≤ sizeLine + 1 := fun x hx => by
      rw [hx, List.size_toArray, List.length_drop]; omega
    refine this _ ?_
    refine drop_sel (c := c) ?_ its
    exact fun p => hk p.2
end
section
variable {X : Cx} {pos tpos p2 : Pos}
theorem del_slice {pins : List (Addr × Obj)} {s : Shared} {σ : L2.St} {H : Hp} {l sl : Addr} {xs : List V} {c : Nat} {vu : Value} {Q : Unit → Shared → Prop} (I : Inv X pins σ H s) (hH : H l = some (.lst xs)) (hs : s.heap.IsSliceOf sl .none vu .none) (ru : IsPart vu (some (c : Int))) (hc : c ≤ xs.length)
    (h : ∀ s', Inv X pins σ (upd H l (.lst (xs.drop c))) s' → Q () s') : wpAny (model X.prog X.w) X.A (delItem (.ref l) (.ref sl)) Q X.xe s := by
  obtain ⟨z, its, n, r, hl, e⟩ := I.lstM hH
  refine delItem_slice e hs ru (by omega) (by omega) fun f hf => h _ ?_
  exact I.lset (its' := its.drop c) (t' := s.toks) hH e hf (r.drop c) (by rw [List.length_drop]; omega)
def rDelSl (σ : L2.St) (D : Ends) (x : V) : Option Int → Hp → Prop := fun o H2 => ∃ (l : Addr) (xs : List V) (c : Nat), x = .ref l ∧ o = some (c : Int) ∧ H2 l = some (.lst xs) ∧ c ≤ xs.length ∧ D.nx σ (upd H2 l (.lst (xs.drop c)))
theorem ps_delSl {o e : Expr} {to te : TE} (ho : PE X o to) (he : PE X e te) : PS X (.Delete [.Subscript o (.Slice none (some e) none p2) tpos] pos) (fun D σ H => to σ H fun x H1 => tPart te σ H1 (rDelSl σ D x)) := by
  refine ⟨fun pins s σ H D I h => ?_⟩
  refine wpAny_Delete (wpAny_deleteEach_cons (wpAny_delete_Subscript (thn (ho.run pins s σ H _ I h) fun u s1 ⟨x, H1, I1, rx, q1⟩ => ?_)))
  refine wpAny_Slice ?_
  rw [evalPart_none]
  refine wpAny_pure ?_
  refine thn ((po_some he).run pins s1 σ H1 _ I1 q1) fun vu s2 ⟨u2, H2, I2, pu, l, xs, c, ex, ey, hH, hc, q2⟩ => ?_
  refine wpAny_pure ?_
  subst ex ey
  cases (show u = Value.ref l from rx)
  have I3 : Inv X pins σ H2 { s2 with heap := s2.heap.push { cls := .type "slice", data := .fields #[.none, vu, .none] } } := I2.kept (t' := s2.toks) fun b ob q => Heap.get?_push_of_some _ q
  exact del_slice I3 hH (Heap.IsSliceOf.new ..) pu hc fun s3 I4 => wpAny_deleteEach_nil ⟨σ, _, I4, q2⟩
end
end Pf

namespace Pf
open PySem L2
open Evl (Ex)
/-! ### the own list in a field of an own object -/
theorem OwnAll.drop {K : PySem.W.Frag} {Hf H : Hp} : ∀ {ds : List D} {vs : List V} {B : List Addr} (n : Nat), OwnAll K Hf H ds vs B → ∃ B', (∀ b ∈ B', b ∈ B) ∧ OwnAll K Hf H (ds.drop n) (vs.drop n) B'
  | _, _, B, 0, h => ⟨B, fun _ q => q, h⟩
  | _, _, _, _ + 1, .nil => ⟨[], fun _ q => q, .nil⟩
  | _, _, _, n + 1, .cons q t _ => by
    obtain ⟨B', h1, h2⟩ := OwnAll.drop n t
    exact ⟨B', fun b hb => List.mem_append_right _ (h1 b hb), h2⟩
theorem OwnAll.dropLast {K : PySem.W.Frag} {Hf H : Hp} : ∀ {ds : List D} {vs : List V} {B : List Addr}, OwnAll K Hf H ds vs B → ∃ B', (∀ b ∈ B', b ∈ B) ∧ OwnAll K Hf H ds.dropLast vs.dropLast B'
  | _, _, _, .nil => ⟨[], fun _ q => q, .nil⟩
  | _, _, _, .cons q .nil _ => ⟨[], fun _ h => absurd h (by simp), .nil⟩
  | _, _, _, .cons (A := A1) q (.cons (A := A2) (B := B2) q2 t2 n2) nd => by
    obtain ⟨B', h1, h2⟩ := OwnAll.dropLast (.cons q2 t2 n2)
    exact ⟨A1 ++ B', fun b hb => by
      rcases List.mem_append.mp hb with z | z
      · exact List.mem_append_left _ z
      · exact List.mem_append_right _ (h1 b z), .cons q h2 fun a ha hb => nd a ha (h1 a hb)⟩
section
variable {K : PySem.W.Frag} {E : Ent} {ρ : RhoS} {σ : L2.St} {H Hf : Hp} {A : Nat → List Addr} {i : Nat} {C : Addr} {fds : List (Str × D)} {f : Str} {ds : List D}
theorem StAt.lstF (s : StAt K E ρ σ H Hf A) (hi : ρ[i]? = some (some (.ow (.ins C fds)))) (hf : fds.lookup f = some (.lst ds)) :
    ∃ ad dx fs l vs, σ[i]? = some (some (.ref ad)) ∧ H ad = some (.ins C dx fs) ∧ fs.length = fds.length ∧ fs.lookup f = some (.ref l) ∧ l ≠ ad ∧ H l = some (.lst vs) ∧ RepAll K H ds vs ∧
      ∀ {ds' : List D} {vs' : List V}, (∀ B, OwnAll K Hf H ds vs B → ∃ B', (∀ b ∈ B', b ∈ B) ∧ OwnAll K Hf H ds' vs' B') → StOk K E (ρ.set i (some (.ow (.ins C (putD f (.lst ds') fds))))) σ (upd H l (.lst vs')) := by
  obtain ⟨ad, dx, fs, v, Af, h1, h2, h3, h4, h5, hw, h6, h7, h8⟩ := s.updF hi hf
  have hr := h5.rep s.fh fun _ _ => rfl
  cases h5 with
  | fz r => exact absurd rfl (hw rfl)
  | @lst l vs _ A1 g1 g3 g4 =>
    cases hr with
    | lst r1 r3 =>
      have e0 : some (HO.lst vs) = _ := g1.symm.trans r1
      cases e0
      have hl : ∀ o, (∀ b, b ∉ l :: A1 → H b ≠ none → upd H l o b = H b) ∧ (∀ b, upd H l o b = none → H b = none) := fun o => ⟨fun b hb _ => upd_ne fun z => hb (by rw [z]; exact List.mem_cons_self), fun b hb => by
        by_cases z : b = l
        · rw [z, upd_same] at hb; cases hb
        · rw [upd_ne z] at hb; exact hb⟩
      have stay : ∀ o, ∀ a ∈ A1, upd H l o a = H a := fun o a ha => upd_ne fun z => g4 (by rw [← z]; exact ha)
      have fin : ∀ (o : HO) (B' : List Addr), (∀ b ∈ B', b ∈ A1) → ∀ a ∈ l :: B', upd H l o a ≠ none ∧ (a ∈ l :: A1 ∨ H a = none) := fun o B' hB a ha => by
        rcases List.mem_cons.mp ha with z | z
        · rw [z, upd_same]; exact ⟨by simp, .inl List.mem_cons_self⟩
        · rw [stay o a (hB a z)]; exact ⟨(h7 a (List.mem_cons_of_mem _ (hB a z))).2, .inl (List.mem_cons_of_mem _ (hB a z))⟩
      refine ⟨ad, dx, fs, l, vs, h1, h2, h3, h4, fun z => h6 (by rw [z]; exact List.mem_cons_self), g1, r3, fun {ds' vs'} hT => ?_⟩
      obtain ⟨B', m1, m2⟩ := hT _ g3
      exact h8 (hl _).1 (hl _).2 (.lst upd_same (m2.move (.refl _) fun a ha => stay _ a (m1 a ha)) fun z => g4 (m1 _ z)) (fin _ B' m1) (fun _ => by simp)
end
section
variable {X : Cx} {pin : List Nat} {ρ : RhoS} {Φ : Out → Prop} {e : Expr} {d : D} {pos tpos p' p1 p2 p3 : Pos} {i j : Nat} {x y f : Str} {C : Addr} {fds : List (Str × D)} {ds : List D}
/-- x.f.append(e) -/
theorem js_appendF (hi : ρ[i]? = some (some (.ow (.ins C fds)))) (hf : fds.lookup f = some (.lst ds)) (h : J X e (fzR ρ) d) (hl : ds.length < sizeLine) (cl : Cls X.K C) (hn : NoAttr X.K C f) (hk : Φ (.nx (ρ.set i (some (.ow (.ins C (putD f (.lst (ds ++ [d])) fds))))))) (hN : X.N[i]? = some x := by rfl) (hv : L2.Vis X.env.scope x := by first | exact Or.inl rfl | exact Or.inr (Or.inl rfl))
    (hd : (x == ("__debug__" : Str)) = false := by decide) (hcd : (x == ("__classdict__" : Str)) = false := by decide) (hb : attributeBase (.Name x p1) f X.env (eval (.Name x p1) X.env) = eval (.Name x p1) X.env := by rfl)
    (hb2 : attributeBase (.Attribute (.Name x p1) f p') "append" X.env (eval (.Attribute (.Name x p1) f p') X.env) = eval (.Attribute (.Name x p1) f p') X.env := by rfl) (hst : starEach [e] X.env = (false, eval e X.env) :: starEach [] X.env := by rfl)
    (hfew : ((backTo p3 (starEach [e] X.env)).all (fun x => !x.1) && (backToKw p3 (keywordEach [] X.env)).all (fun x => x.1.isSome) && decide ([e].length + ([] : List Keyword).length + (if ([] : List Keyword).isEmpty then 0 else 1) < 30)) = true := by rfl)
    (hline : (p2.endLine == p3.line) = true := by rfl)
    (hs : swapsWith (.Call (.Attribute (.Attribute (.Name x p1) f p') "append" p2) [e] [] p3) none pos.line X.env = pure false := by rfl) : JS X pin (.Expr (.Call (.Attribute (.Attribute (.Name x p1) f p') "append" p2) [e] [] p3) pos) ρ Φ := ⟨fun E σ H D hpn ⟨Hf, A, s⟩ k => by
  refine .of (ps_expr (pe_bm PySem.F.plainAttrs_list PySem.F.slot_list_append PySem.F.type_list_append mt_append (pe_fld (pe_var hN hv hd hcd) hb) (pa_cons pe_w pa_nil hst) hb2 hfew hline hst) hs) ?_
  obtain ⟨ad, dx, fs, l, vs, h1, h2, h3, h4, h5, h6, h7, _⟩ := s.lstF hi hf
  refine ⟨_, h1, ad, C, dx, fs, _, rfl, h2, cl, hn, h4, .inl ⟨rfl, _, SqL.of h6⟩, ?_⟩
  refine h Hf σ H s.fh s.vis _ fun z W' H' st r => ?_
  have s' := s.step st
  obtain ⟨ad2, dx2, fs2, l2, vs2, g1, g2, g3, g4, g5, g6, g7, g8⟩ := s'.lstF hi hf
  have e1 : some (some (V.ref ad)) = _ := h1.symm.trans g1
  cases e1
  have e2 := (st.hh _ _ h2).symm.trans g2
  cases e2
  have e3 := h4.symm.trans g4
  cases e3
  exact ⟨l, vs2, z, rfl, rfl, g6, by rw [← g7.length]; exact hl, k _ hk _ _ (g8 fun B hB => ⟨B, fun _ q => q, hB.snoc r⟩)⟩⟩
/-- del x.f[:e] -/
theorem js_delF {c : Nat} (hi : ρ[i]? = some (some (.ow (.ins C fds)))) (hf : fds.lookup f = some (.lst ds)) (h : J X e (allR ρ) (.int c)) (hc : c ≤ ds.length) (cl : Cls X.K C) (hn : NoAttr X.K C f) (hk : Φ (.nx (ρ.set i (some (.ow (.ins C (putD f (.lst (ds.drop c)) fds))))))) (hN : X.N[i]? = some x := by rfl) (hv : L2.Vis X.env.scope x := by first | exact Or.inl rfl | exact Or.inr (Or.inl rfl))
    (hd : (x == ("__debug__" : Str)) = false := by decide) (hcd : (x == ("__classdict__" : Str)) = false := by decide) (hb : attributeBase (.Name x p1) f X.env (eval (.Name x p1) X.env) = eval (.Name x p1) X.env := by rfl) : JS X pin (.Delete [.Subscript (.Attribute (.Name x p1) f p') (.Slice none (some e) none p2) tpos] pos) ρ Φ := ⟨fun E σ H D hpn ⟨Hf, A, s⟩ k => by
  refine .of (ps_delSl (pe_fld (pe_var hN hv hd hcd) hb) pe_w) ?_
  obtain ⟨ad, dx, fs, l, vs, h1, h2, h3, h4, h5, h6, h7, _⟩ := s.lstF hi hf
  refine ⟨_, h1, ad, C, dx, fs, _, rfl, h2, cl, hn, h4, ?_⟩
  refine h H σ H (.refl _) s.visH _ fun z W' H' st r => ?_
  cases r
  have s' := s.grow st.hh
  obtain ⟨ad2, dx2, fs2, l2, vs2, g1, g2, g3, g4, g5, g6, g7, g8⟩ := s'.lstF hi hf
  have e1 : some (some (V.ref ad)) = _ := h1.symm.trans g1
  cases e1
  have e2 := (st.hh _ _ h2).symm.trans g2
  cases e2
  have e3 := h4.symm.trans g4
  cases e3
  exact ⟨c, rfl, l, vs2, c, rfl, rfl, g6, by rw [← g7.length]; exact hc, k _ hk _ _ (g8 fun B hB => hB.drop c)⟩⟩
/-- y += x.f.pop()[n], the last item a tuple with an int there -/
theorem js_augPopF {m v0 : Int} {ts : List D} {ke : Expr} {n : Int} {apos cpos : Pos} (hj : ρ[j]? = some (some (.fz (.int m)))) (hi : ρ[i]? = some (some (.ow (.ins C fds)))) (hf : fds.lookup f = some (.lst ds)) (hl : ds[ds.length - 1]? = some (.tup ts)) (hke : ∀ ρ : Rho, J X ke ρ (.int n)) (ht : atI ts n = some (.int v0)) (cl : Cls X.K C) (hn : NoAttr X.K C f)
    (hk : Φ (.nx ((ρ.set i (some (.ow (.ins C (putD f (.lst ds.dropLast) fds))))).set j (some (.fz (.int (m + v0))))))) (hnd : X.N.Nodup) (hij : i ≠ j := by decide) (hN : X.N[i]? = some x := by rfl) (hNj : X.N[j]? = some y := by rfl) (hv : L2.Vis X.env.scope x := by first | exact Or.inl rfl | exact Or.inr (Or.inl rfl)) (hly : Loc X.env.scope y := by first | exact Or.inl rfl | exact Or.inr rfl) (hp : j ∉ pin := by decide)
    (hd : (x == ("__debug__" : Str)) = false := by decide) (hcd : (x == ("__classdict__" : Str)) = false := by decide) (hb : attributeBase (.Name x p1) f X.env (eval (.Name x p1) X.env) = eval (.Name x p1) X.env := by rfl)
    (hb2 : attributeBase (.Attribute (.Name x p1) f p') "pop" X.env (eval (.Attribute (.Name x p1) f p') X.env) = eval (.Attribute (.Name x p1) f p') X.env := by rfl) (hline : (apos.endLine == cpos.line) = true := by rfl) (hpi : PlainIx ke := by exact fun _ _ => rfl)
    (hfn : X.fn y = true ∨ X.env.scope.names.lookup y = some .local := by first | exact .inl rfl | exact .inr rfl) : JS X pin (.AugAssign (.Name y p2) .Add (.Subscript (.Call (.Attribute (.Attribute (.Name x p1) f p') "pop" apos) [] [] cpos) ke p3) pos) ρ Φ := ⟨fun E σ H D hpn ⟨Hf, A, s⟩ k => by
  obtain ⟨vm, hσ, r⟩ := s.sl j _ hj
  cases r
  refine .of (ps_aug hnd hNj hly (pe_ix ix_tup (pe_bm0 PySem.F.plainAttrs_list PySem.F.slot_list_pop PySem.F.type_list_pop mt_pop (pe_fld (pe_var hN hv hd hcd) hb) hb2 hline) pe_w hpi) ip_add hfn) ?_
  obtain ⟨ad, dx, fs, l, vs, h1, h2, h3, h4, h5, h6, h7, h8⟩ := s.lstF hi hf
  obtain ⟨u, hu, ru⟩ := h7.get hl
  refine ⟨_, hσ, _, h1, ad, C, dx, fs, _, rfl, h2, cl, hn, h4, .inl ⟨rfl, _, SqL.of h6⟩, l, vs, u, rfl, rfl, h6, by rw [← h7.length]; exact hu, ?_⟩
  obtain ⟨Hf2, A2, s2⟩ := h8 (ds' := ds.dropLast) (vs' := vs.dropLast) fun B hB => hB.dropLast
  cases ru with
  | @tup a us _ q1 q2 =>
    have q1' : SqT X.K (upd H l (.lst vs.dropLast)) a us := by
      rcases q1 with h | h
      · refine .inl ?_
        rcases h with h | ⟨q, h⟩
        · exact .inl (by rw [upd_ne fun w => by rw [w, h6] at h; cases h]; exact h)
        · exact .inr ⟨q, by rw [upd_ne fun w => by rw [w, h6] at h; cases h]; exact h⟩
      · exact .inr h
    refine hke _ _ σ _ (.refl _) s2.visH _ fun z W' H' st r => ?_
    cases r
    obtain ⟨w, e1, e2⟩ := q2.at ht
    cases e2
    have s3 := s2.grow st.hh
    exact ⟨a, us, n, _, rfl, rfl, Evl.ex_t st.hh q1', e1, m, v0, rfl, rfl, k _ hk _ _ ⟨Hf2, _, s3.setFz (.int _) (hpn.none hp)⟩⟩⟩
/-- x -= e of ints -/
theorem js_augSub {m n : Int} (hi : ρ[i]? = some (some (.fz (.int m)))) (h : J X e (fzR ρ) (.int n)) (hk : Φ (.nx (ρ.set i (some (.fz (.int (m - n))))))) (hN : X.N.Nodup) (hx : X.N[i]? = some x := by rfl) (hl : Loc X.env.scope x := by first | exact Or.inl rfl | exact Or.inr rfl) (hp : i ∉ pin := by decide)
    (hf : X.fn x = true ∨ X.env.scope.names.lookup x = some .local := by first | exact .inl rfl | exact .inr rfl) : JS X pin (.AugAssign (.Name x p') .Sub e pos) ρ Φ := ⟨fun E σ H D hpn ⟨Hf, A, s⟩ k => by
  obtain ⟨v, hσ, r⟩ := s.sl i _ hi
  cases r
  refine .of (ps_aug hN hx hl pe_w ip_sub hf) ⟨_, hσ, h Hf σ H s.fh s.vis _ fun y W' H' st r => ?_⟩
  cases r
  exact ⟨m, n, rfl, rfl, k _ hk _ H' ⟨W', _, (s.step st).setFz (.int _) (hpn.none hp)⟩⟩⟩
end
end Pf

namespace Pf
open PySem L2
open Evl (Ex)
/-! ### a walk over the own list in a field, the body changes other fields -/
def Fx (i : Nat) (f : Str) (l : Addr) (vs : List V) (σ : L2.St) (H : Hp) : Prop := ∃ ad C dx fs, σ[i]? = some (some (.ref ad)) ∧ H ad = some (.ins C dx fs) ∧ fs.lookup f = some (.ref l) ∧ l ≠ ad ∧ H l = some (.lst vs)
theorem Fx.grow {i : Nat} {f : Str} {l : Addr} {vs : List V} {σ : L2.St} {H H' : Hp} (h : Fx i f l vs σ H) (e : Ex H H') : Fx i f l vs σ H' := by
  obtain ⟨ad, C, dx, fs, h1, h2, h3, h4, h5⟩ := h
  exact ⟨ad, C, dx, fs, h1, e _ _ h2, h3, h4, e _ _ h5⟩
theorem Fx.slot {i j : Nat} {f : Str} {l : Addr} {vs : List V} {σ σ' : L2.St} {H : Hp} (h : Fx i f l vs σ H) (e : σ'[i]? = σ[i]?) : Fx i f l vs σ' H := by
  obtain ⟨ad, C, dx, fs, h1, h2, h3, h4, h5⟩ := h
  exact ⟨ad, C, dx, fs, e.trans h1, h2, h3, h4, h5⟩
def OutK (X : Cx) (E : Ent) (D : Ends) (i : Nat) (f : Str) (l : Addr) (vs : List V) : Out → Prop
  | .nx ρ => ∀ σ H, StOk X.K E ρ σ H → Fx i f l vs σ H → D.nx σ H
  | .rt d ρ => ∀ v H, RtOk X.K E d ρ v H → D.rt v H
  | .bk ρ => ∀ σ H, StOk X.K E ρ σ H → Fx i f l vs σ H → D.bk σ H
  | .ct ρ => ∀ σ H, StOk X.K E ρ σ H → Fx i f l vs σ H → D.ct σ H
  | .ex er ρ => ExOk X E er ρ
structure JK (X : Cx) (pin : List Nat) (i : Nat) (f : Str) (st : Stmt) (ρ : RhoS) (Φ : Out → Prop) : Prop where
  run : ∀ (E : Ent) σ H (D : Ends) l vs, E.Pins pin → StOk X.K E ρ σ H → Fx i f l vs σ H → (∀ o, Φ o → OutK X E D i f l vs o) → wS X st D σ H
structure JKs (X : Cx) (pin : List Nat) (i : Nat) (f : Str) (sts : List Stmt) (ρ : RhoS) (Φ : Out → Prop) : Prop where
  run : ∀ (E : Ent) σ H (D : Ends) l vs, E.Pins pin → StOk X.K E ρ σ H → Fx i f l vs σ H → (∀ o, Φ o → OutK X E D i f l vs o) → wSs X sts D σ H
def thenKs (X : Cx) (pin : List Nat) (i : Nat) (f : Str) (rest : List Stmt) (Φ : Out → Prop) : Out → Prop
  | .nx ρ => JKs X pin i f rest ρ Φ
  | .rt d ρ => Φ (.rt d ρ)
  | .bk ρ => Φ (.bk ρ)
  | .ct ρ => Φ (.ct ρ)
  | .ex er ρ => Φ (.ex er ρ)
theorem setAllFz2 {K : PySem.W.Frag} {E : Ent} {H Hf : Hp} : ∀ (is : List Nat) {ds : List D} {vs : List V} {ρ : RhoS} {σ : L2.St} {A : Nat → List Addr}, StAt K E ρ σ H Hf A → RepAll K Hf ds vs → ds.length = is.length → (∀ i ∈ is, E.pa i = none) → ∃ A', StAt K E (setAll ρ is (ds.map SV.fz)) (setAll σ is vs) H Hf A' := fun is => setAllFz (i := 0) is
theorem gComps_runS2 {K : PySem.W.Frag} {E : Ent} {H Hf : Hp} : ∀ (ps : List (Nat ⊕ List Nat)) {ds : List D} {vs : List V} {ρ ρ' : RhoS} {σ : L2.St} {A : Nat → List Addr} {Q : L2.St → Hp → Prop}, StAt K E ρ σ H Hf A → RepAll K Hf ds vs → setC SV.fz ps ds ρ = some ρ' → (∀ i ∈ slotsC ps, E.pa i = none) →
    (∀ σ' A', StAt K E ρ' σ' H Hf A' → (∀ j, j ∉ slotsC ps → σ'[j]? = σ[j]?) → Q σ' H) → gComps K ps vs σ H Q
  | [], _, _, ρ, ρ', σ, A, Q, s, .nil, hs, hp, q => by cases hs; exact ⟨rfl, q σ A s fun _ _ => rfl⟩
  | [], _, _, ρ, ρ', σ, A, Q, s, .cons _ _, hs, hp, q => by cases hs
  | .inl i :: ps, _, _, ρ, ρ', σ, A, Q, s, .nil, hs, hp, q => by cases hs
  | .inr is :: ps, _, _, ρ, ρ', σ, A, Q, s, .nil, hs, hp, q => by cases hs
  | .inl i :: ps, _, v :: vs, ρ, ρ', σ, A, Q, s, .cons r t, hs, hp, q => ⟨v, vs, rfl, gComps_runS2 ps (s.setFz r (hp i (List.mem_cons_self))) t hs (fun j hj => hp j (List.mem_cons_of_mem _ hj)) fun σ' A' s' ho => q σ' A' s' fun j hj => by
      have h1 : ¬ (j = i ∨ j ∈ slotsC ps) := fun z => hj (List.mem_cons.mpr z)
      rw [ho j fun z => h1 (.inr z), List.getElem?_set_ne fun z => h1 (.inl z.symm)]⟩
  | .inr is :: ps, d :: ds, v :: vs, ρ, ρ', σ, A, Q, s, .cons r t, hs, hp, q => by
    cases r with
    | @tup a us es h1 k =>
      simp only [setC] at hs
      split at hs
      · rename_i hl
        obtain ⟨A', s'⟩ := setAllFz2 is s k hl fun j hj => hp j (List.mem_append_left _ hj)
        exact ⟨_, vs, rfl, a, us, rfl, Evl.ex_t s.fh h1, by rw [← k.length]; exact hl, gNames_run is (by rw [← k.length]; exact hl) (gComps_runS2 ps s' t hs (fun j hj => hp j (List.mem_append_right _ hj)) fun σ' A' s' ho => q σ' A' s' fun j hj => by
          have h2 : ¬ (j ∈ is ∨ j ∈ slotsC ps) := fun z => hj (List.mem_append.mpr z)
          rw [ho j fun z => h2 (.inr z)]
          exact setAll_out is _ σ j fun z => h2 (.inl z))⟩
      · cases hs
    | _ => cases hs
theorem Pat.runS2 {K : PySem.W.Frag} {E : Ent} {H Hf : Hp} {ρ : RhoS} {σ : L2.St} {A : Nat → List Addr} {d : D} {pat : Pat} {ρ' : RhoS} {v : V} (s : StAt K E ρ σ H Hf A) (r : Rep K Hf d v) (hs : pat.setS d ρ = some ρ') (hp : ∀ i ∈ pat.slots, E.pa i = none) {Q : L2.St → Hp → Prop} (q : ∀ σ' A', StAt K E ρ' σ' H Hf A' → (∀ j, j ∉ pat.slots → σ'[j]? = σ[j]?) → Q σ' H) : pat.g K v σ H Q := by
  cases pat with
  | nm i => cases hs; exact q _ _ (s.setFz r (hp i (List.mem_singleton.mpr rfl))) fun j hj => List.getElem?_set_ne (by intro e; subst e; exact hj (List.mem_singleton.mpr rfl))
  | tp is =>
    cases r with
    | tup h1 k =>
      simp only [Pat.setS] at hs
      split at hs
      · rename_i hl
        cases hs
        obtain ⟨A', s'⟩ := setAllFz2 is s k hl hp
        exact ⟨_, _, rfl, Evl.ex_t s.fh h1, by rw [← k.length]; exact hl, gNames_run is (by rw [← k.length]; exact hl) (q _ _ s' fun j hj => setAll_out is _ σ j hj)⟩
      · cases hs
    | _ => cases hs
  | tn ps =>
    cases r with
    | tup h1 k => exact ⟨_, _, rfl, Evl.ex_t s.fh h1, by rw [← k.length]; exact setC_len ps hs, gComps_runS2 ps s k hs hp q⟩
    | _ => cases hs
section
variable {X : Cx} {pin : List Nat} {st : Stmt} {rest a b body : List Stmt} {ρ : RhoS} {Φ : Out → Prop} {e c tg : Expr} {d : D} {pos p' p1 p2 : Pos} {i j : Nat} {x f g : Str} {t : Bool} {C : Addr} {fds : List (Str × D)}
theorem jks_nil (h : Φ (.nx ρ)) : JKs X pin i f [] ρ Φ := ⟨fun E σ H D l vs _ s fx k => .of pss_nil (k _ h σ H s fx)⟩
theorem jks_cons (h : JK X pin i f st ρ (thenKs X pin i f rest Φ)) : JKs X pin i f (st :: rest) ρ Φ := ⟨fun E σ H D l vs hp s fx k =>
  .of (pss_cons ps_w pss_w) (h.run E σ H _ l vs hp s fx fun o ho => by
    cases o with
    | nx ρ' => exact fun σ' H' s' fx' => JKs.run (show JKs X pin i f rest ρ' Φ from ho) E σ' H' D l vs hp s' fx' k
    | rt d ρ' => exact k _ ho
    | bk ρ' => exact k _ ho
    | ct ρ' => exact k _ ho
    | ex er ρ' => exact k _ ho)⟩
theorem jk_break (h : Φ (.bk ρ)) : JK X pin i f (.Break pos) ρ Φ := ⟨fun E σ H D l vs _ s fx k => .of ps_break (k _ h σ H s fx)⟩
theorem jk_if (hc : JT X c (allR ρ) t) (h1 : t = true → JKs X pin i f a ρ Φ) (h2 : t = false → JKs X pin i f b ρ Φ) : JK X pin i f (.If c a b pos) ρ Φ := ⟨fun E σ H D l vs hp ⟨Hf, A, s⟩ fx k =>
  .of (ps_if pt_w pss_w pss_w) (hc H σ H (.refl _) s.visH _ fun W' H' st => by
    have s' := s.grow st.hh
    cases t with
    | true => rw [if_pos rfl]; exact (h1 rfl).run E σ H' D l vs hp ⟨Hf, A, s'⟩ (fx.grow st.hh) k
    | false => rw [if_neg Bool.false_ne_true]; exact (h2 rfl).run E σ H' D l vs hp ⟨Hf, A, s'⟩ (fx.grow st.hh) k)⟩
theorem jk_augAdd {m n : Int} (hi : ρ[j]? = some (some (.fz (.int m)))) (h : J X e (fzR ρ) (.int n)) (hk : Φ (.nx (ρ.set j (some (.fz (.int (m + n))))))) (hN : X.N.Nodup) (hij : j ≠ i := by decide) (hx : X.N[j]? = some x := by rfl) (hl : Loc X.env.scope x := by first | exact Or.inl rfl | exact Or.inr rfl) (hp : j ∉ pin := by decide)
    (hf : X.fn x = true ∨ X.env.scope.names.lookup x = some .local := by first | exact .inl rfl | exact .inr rfl) : JK X pin i f (.AugAssign (.Name x p') .Add e pos) ρ Φ := ⟨fun E σ H D l vs hpn ⟨Hf, A, s⟩ fx k => by
  obtain ⟨v, hσ, r⟩ := s.sl j _ hi
  cases r
  refine .of (ps_aug hN hx hl pe_w ip_add hf) ⟨_, hσ, h Hf σ H s.fh s.vis _ fun y W' H' st r => ?_⟩
  cases r
  exact ⟨m, n, rfl, rfl, k _ hk _ H' ⟨W', _, (s.step st).setFz (.int _) (hpn.none hp)⟩ ((fx.grow st.hh).slot (j := j) (List.getElem?_set_ne hij))⟩⟩
theorem jk_fldSub {m n : Int} (hi : ρ[i]? = some (some (.ow (.ins C fds)))) (hg : fds.lookup g = some (.int m)) (h : J X e (allR ρ) (.int n)) (hfg : g ≠ f) (cl : Cls X.K C) (hn : NoAttr X.K C g) (hl : fds.length < 1000) (hk : Φ (.nx (ρ.set i (some (.ow (.ins C (putD g (.int (m - n)) fds))))))) (hN : X.N[i]? = some x := by rfl) (hv : L2.Vis X.env.scope x := by first | exact Or.inl rfl | exact Or.inr (Or.inl rfl))
    (hd : (x == ("__debug__" : Str)) = false := by decide) (hcd : (x == ("__classdict__" : Str)) = false := by decide) : JK X pin i f (.AugAssign (.Attribute (.Name x p1) g p') .Sub e pos) ρ Φ := ⟨fun E σ H D l vs hpn ⟨Hf, A, s⟩ fx k => by
  refine .of (ps_fldaug (pe_var hN hv hd hcd) pe_w in_sub) ?_
  obtain ⟨ad, dx, fs, v, Af, h1, h2, h3, h4, h5, _, h6, h7, _⟩ := s.updF hi hg
  cases h5 with
  | fz r =>
    cases r
    refine ⟨_, h1, ad, C, dx, fs, _, rfl, h2, cl, hn, h4, ?_⟩
    refine h H σ H (.refl _) s.visH _ fun y W' H' st r => ?_
    cases r
    obtain ⟨a, dx', fs', e, g1, g2, ok⟩ := (s.grow st.hh).fld (f := g) (y := .int (m - n)) hi h1 (.int (m - n)) rfl
    cases e
    refine ⟨m, n, rfl, rfl, dx', fs', g1, by omega, k _ hk σ _ ok ?_⟩
    obtain ⟨ad2, C2, dx2, fs2, q1, q2, q3, q4, q5⟩ := fx.grow st.hh
    have e1 : some (some (V.ref ad)) = _ := h1.symm.trans q1
    cases e1
    have e2 := g1.symm.trans q2
    cases e2
    refine ⟨ad, C, dx', putF g (.int (m - n)) fs', h1, upd_same, ?_, q4, by rw [upd_ne q4]; exact q5⟩
    have key : ∀ fs : List (Str × V), fs.lookup f = some (.ref l) → (putF g (.int (m - n)) fs).lookup f = some (.ref l) := fun fs => by
      induction fs with
      | nil => intro q; cases q
      | cons p ps ih =>
        intro q
        unfold putF
        split
        · rename_i e
          have e2 : (f == p.1) = false := by rw [beq_eq_false_iff_ne]; exact fun z => hfg (e.symm.trans z.symm)
          rw [List.lookup_cons, e2] at q
          have e3 : (f == g) = false := by rw [beq_eq_false_iff_ne]; exact fun z => hfg z.symm
          rw [List.lookup_cons]
          first
            | (rw [e3]; exact q)
            | (rw [e2]; exact q)
        · obtain ⟨p1, p2⟩ := p
          rw [List.lookup_cons] at q ⊢
          by_cases e2 : (f == p1) = true
          · rw [e2] at q ⊢; exact q
          · rw [Bool.not_eq_true] at e2
            rw [e2] at q ⊢
            exact ih q
    exact key fs' q3⟩
theorem js_forK {pat : Pat} {ds : List D} (I : Nat → RhoS → Prop) (hi : ρ[i]? = some (some (.ow (.ins C fds)))) (hf : fds.lookup f = some (.lst ds)) (hst : ∀ d ∈ ds, stillD d = true) (cl : Cls X.K C) (hn : NoAttr X.K C f) (hg : PG X tg (pat.g X.K)) (h0 : I 0 ρ)
    (turn : ∀ k d ρ, ds[k]? = some d → I k ρ → ∃ ρ', pat.setS d ρ = some ρ' ∧ JKs X pin i f body ρ' (turnO (I (k + 1)) Φ)) (done : ∀ ρ, I ds.length ρ → Φ (.nx ρ)) (hps : PassesOwn (model X.prog X.w) X.A X.env X.xe) (hpi : i ∉ pat.slots := by decide) (hp : ∀ i ∈ pat.slots, i ∉ pin := by decide) (hc : X.calm = true := by rfl)
    (hN : X.N[i]? = some x := by rfl) (hv : L2.Vis X.env.scope x := by first | exact Or.inl rfl | exact Or.inr (Or.inl rfl)) (hd : (x == ("__debug__" : Str)) = false := by decide) (hcd : (x == ("__classdict__" : Str)) = false := by decide) (hb : attributeBase (.Name x p1) f X.env (eval (.Name x p1) X.env) = eval (.Name x p1) X.env := by rfl)
    (hfs : ∀ y, foldedSetIterable (.Attribute (.Name x p1) f p') X.env y = pure y := by intro _; rfl) :
    JS X pin (.For tg (.Attribute (.Name x p1) f p') body [] pos) ρ Φ := ⟨fun E σ H D hpn ⟨Hf, A, s⟩ k => by
  refine .of (ps_for hps hc (pi_list (pe_fld (pe_var hN hv hd hcd) hb)) hg pss_w hfs) ?_
  obtain ⟨ad, dx, fs, l, vs, h1, h2, h3, h4, h5, h6, h7, h8⟩ := s.lstF hi hf
  have hitems : RepAll X.K Hf ds vs := by
    obtain ⟨ad', dx', fs', v', Af', a1, a2, a3, a4, a5, _⟩ := s.updF hi hf
    have e1 : some (some (V.ref ad)) = _ := h1.symm.trans a1
    cases e1
    have e2 := h2.symm.trans a2
    cases e2
    have e3 := h4.symm.trans a4
    cases e3
    cases a5 with
    | fz r =>
      cases r with
      | lst r1 r2 =>
        have := s.fh _ _ r1
        rw [h6] at this; cases this
        exact r2
    | lst b1 b2 b3 =>
      rw [h6] at b1; cases b1
      exact b2.still hst
  refine ⟨_, h1, ad, C, dx, fs, _, rfl, h2, cl, hn, h4, l, rfl, ⟨_, SqL.of h6⟩, ?_⟩
  refine ⟨fun n m σ' H' => m = ds.length - n ∧ n ≤ ds.length ∧ ∃ ρ', I n ρ' ∧ StOk X.K { E with W0 := Hf } ρ' σ' H' ∧ Fx i f l vs σ' H', ⟨_, rfl, Nat.zero_le _, ρ, h0, ⟨_, _, s.rebase⟩, ad, C, dx, fs, h1, h2, h4, h5, h6⟩, ?_⟩
  rintro n m σ2 H2 ⟨rfl, hil, ρ2, hI, ⟨Hf2, A2, s2⟩, fx⟩
  have hl2 : H2 l = some (.lst vs) := by obtain ⟨_, _, _, _, _, _, _, _, q⟩ := fx; exact q
  by_cases hlt : n < ds.length
  · have hlt' : n < vs.length := by rw [← h7.length]; exact hlt
    refine .inr ⟨⟨vs, vs[n], SqL.of hl2, by simp [hlt']⟩, _, fun σ' H' z => ⟨_, (by omega : ds.length - (n + 1) < ds.length - n), rfl, hlt, z⟩, fun y H3 hy => ?_⟩
    obtain ⟨rfl, hy⟩ := hy
    obtain ⟨d, hd⟩ : ∃ d, ds[n]? = some d := ⟨ds[n], by simp [hlt]⟩
    obtain ⟨v, g1, g2⟩ := hitems.get hd
    have := hy vs (SqL.of hl2)
    rw [g1] at this; cases this
    obtain ⟨ρ3, hset, hbd⟩ := turn n d ρ2 hd hI
    -- the target's slots
    have run : ∀ (Q : L2.St → Hp → Prop), (∀ σ' A', StAt X.K { E with W0 := Hf } ρ3 σ' H3 Hf2 A' → σ'[i]? = σ2[i]? → Q σ' H3) → pat.g X.K y σ2 H3 Q := fun Q q => by
      obtain ⟨vi, w1⟩ : ∃ vi, σ2[i]? = some (some vi) := by obtain ⟨ad', _, _, _, q1, _⟩ := fx; exact ⟨_, q1⟩
      refine Pat.runS2 s2 (g2.mono s2.w0) hset (fun j hj => hpn.none (hp j hj)) fun σ' A' s' ho => q σ' A' s' (ho i hpi)
    refine run _ fun σ4 A4 s4 hi4 => hbd.run { E with W0 := Hf } σ4 H3 _ l vs hpn ⟨Hf2, A4, s4⟩ (fx.slot (j := i) hi4) fun o ho => ?_
    cases o with
    | nx ρ' => exact fun σ' H' s' fx' => ⟨ρ', ho, s', fx'⟩
    | ct ρ' => exact fun σ' H' s' fx' => ⟨ρ', ho, s', fx'⟩
    | bk ρ' => exact fun σ' H' ⟨Hf', A', s'⟩ _ => k _ ho σ' H' ⟨Hf', A', s'.base s.w0 s.fr⟩
    | rt d ρ' => exact fun v H' s' => k _ ho v H' (s'.base s.w0 s.fr)
    | ex er ρ' =>
      obtain ⟨Wx, tk, q⟩ := k _ ho
      exact ⟨Wx, tk, fun d σ' H' H2' ⟨Hf', A', s'⟩ => q d σ' H' H2' ⟨Hf', A', s'.base s.w0 s.fr⟩⟩
  · have e : n = ds.length := by omega
    subst e
    exact .inl ⟨⟨vs, SqL.of hl2, Nat.le_of_eq h7.length.symm⟩, k _ (done _ hI) σ2 H2 ⟨Hf2, A2, s2.base s.w0 s.fr⟩⟩⟩
end
end Pf

namespace Pf
open PySem L2 PySem.Spec PyProof.Rows
open Evl (Ex)
section
variable {K : PySem.W.Frag}
theorem rc_maxL {ns : List Int} {m : Int} (h1 : m ∈ ns) (h2 : ∀ y ∈ ns, y ≤ m) : RCD K (rMax K) [.lst (ns.map D.int)] (.int m) := fun W H vs ex r Q q => by
  cases r with
  | cons r t =>
    cases t
    cases r with
    | lst h k =>
      cases k.ints
      exact ⟨_, ns, rfl, SqL.of (ex _ _ h), List.length_pos_of_mem h1, fun m' a b => by
        have e : m' = m := Int.le_antisymm (h2 _ a) (b _ h1)
        subst e
        exact q.now ex (.int _)⟩
theorem r1_neg {i : Int} : R1D K (rU fun i => .int (-i)) (.int i) (.int (-i)) := fun W H v ex r Q q => by
  cases r; exact ⟨i, rfl, q.now ex (.int _)⟩
end
section
variable {X : Cx} {ρ : Rho} {e a b c : Expr} {pos p p2 pos2 : Pos}
theorem jb_maxL {ns : List Int} {m : Int} (T : Bt X.mg) (ha : JA X [e] ρ [.lst (ns.map D.int)]) (h1 : m ∈ ns) (h2 : ∀ y ∈ ns, y ≤ m) (hc : X.calm = true := by rfl) (hg : Gl X "max" := by rfl) (he : starEach [e] X.env = (false, eval e X.env) :: starEach [] X.env := by rfl) (hpl : (backTo pos (starEach [] X.env)).any (·.1) = false := by rfl) :
    J X (.Call (.Name "max" p) [e] [] pos) ρ (.int m) := j_cb (cr_max hc) T.max (by decide +kernel) ha (rc_maxL h1 h2) hg (by decide) (by decide) he hpl
theorem jb_any {bs : List Bool} (T : Bt X.mg) (ha : JA X [e] ρ [.lst (bs.map D.bl)]) (hc : X.calm = true := by rfl) (hg : Gl X "any" := by rfl) (he : starEach [e] X.env = (false, eval e X.env) :: starEach [] X.env := by rfl) (hpl : (backTo pos (starEach [] X.env)).any (·.1) = false := by rfl) :
    J X (.Call (.Name "any" p) [e] [] pos) ρ (.bl (bs.any id)) := j_cb (cr_any hc) T.any (by decide +kernel) ha rc_any hg (by decide) (by decide) he hpl
theorem jb_intB {t : Bool} (T : Bt X.mg) (ha : JA X [e] ρ [.bl t]) (hg : Gl X "int" := by rfl) (he : starEach [e] X.env = (false, eval e X.env) :: starEach [] X.env := by rfl) (hpl : (backTo pos (starEach [] X.env)).any (·.1) = false := by rfl) :
    J X (.Call (.Name "int" p) [e] [] pos) ρ (.int (if t then 1 else 0)) := j_ct call_int1 T.int (by decide +kernel) ha rc_intB hg (by decide) (by decide) he hpl
theorem j_neg {i : Int} (ha : J X a ρ (.int i)) : J X (.UnaryOp .USub a pos) ρ (.int (-i)) := j_un un_neg ha r1_neg
theorem rangeD_V {K : PySem.W.Frag} (W : Hp) : ∀ n : Nat, RepAll K W (rangeD 0 n) (rgV 0 n) := fun n => by
  have := RepAll.toInts (K := K) (H := W) ((List.range n).map fun k : Nat => ((0 : Int) + (k : Nat)))
  unfold rangeD rgV
  rw [List.map_map, List.map_map] at this
  rw [Int.sub_zero, Int.toNat_natCast]
  exact this
theorem j_listRange {n : Nat} {i : Int} (T : Bt X.mg) (ha : J X a ρ (.int i)) (hi : i = (n : Int)) (hn : n ≤ 2 ^ 24) (hc : X.calm = true := by rfl) (hg : Gl X "list" := by rfl) (hg2 : Gl X "range" := by rfl) (na : starEach [a] X.env = (false, eval a X.env) :: starEach [] X.env := by rfl)
    (ne : starEach [Expr.Call (.Name "range" p2) [a] [] pos2] X.env = (false, eval (.Call (.Name "range" p2) [a] [] pos2) X.env) :: starEach [] X.env := by rfl) :
    J X (.Call (.Name "list" p) [.Call (.Name "range" p2) [a] [] pos2] [] pos) ρ (.lst (rangeD 0 n)) := ⟨fun W σ H ex hV Q g =>
  .of (pe_listRg hc hg T.list (prg_1 hg2 T.range pe_w na) ne) (ha W σ H ex hV _ fun v W1 H1 s1 r1 => by
    subst hi
    cases r1
    exact ⟨(n : Int), rfl, ⟨by omega, by omega, by omega, by omega, by omega⟩, fun q hq => g _ _ _ (s1.trans (Step.new s1.wh hq)) (.lst upd_same (rangeD_V _ n))⟩)⟩
theorem j_lenRange3 {i j k : Int} {n : Nat} (T : Bt X.mg) (ha : JA X [a, b, c] ρ [.int i, .int j, .int k]) (h : RgC i j k n) (hn : n < 2 ^ 60) (hg : Gl X "len" := by rfl) (hg2 : Gl X "range" := by rfl)
    (hs : starEach [a, b, c] X.env = (false, eval a X.env) :: starEach [b, c] X.env := by rfl) (hpl : (backTo pos2 (starEach [b, c] X.env)).any (·.1) = false := by rfl)
    (ne : starEach [Expr.Call (.Name "range" p2) [a, b, c] [] pos2] X.env = (false, eval (.Call (.Name "range" p2) [a, b, c] [] pos2) X.env) :: starEach [] X.env := by rfl) :
    J X (.Call (.Name "len" p) [.Call (.Name "range" p2) [a, b, c] [] pos2] [] pos) ρ (.int n) := ⟨fun W σ H ex hV Q g => fun pins s I => by
  refine Call_ (ld_blt I hg T.len PySem.boot_len (PyProof.Rows.callWith_builtin1 (args_cons ?_ ne) ne rfl))
  refine Call_ (ld_blt I hg2 T.range boot_range (PyProof.Rows.callWith_type1 (thn (pa_w.run pos2 pins s σ H _ I (ha W σ H ex hV (fun vs H' => ∃ W', Step W H W' H' ∧ RepAll X.K W' [.int i, .int j, .int k] vs) fun vs W' H' st r => ⟨W', st, r⟩)) fun us s1 ⟨vs, H1, I1, r1, W', st, r2⟩ => ?_) hs hpl))
  obtain ⟨c0, c1, c2, c3⟩ := h
  cases r2 with
  | cons d1 r2 =>
    cases d1
    cases r2 with
    | cons d1 r2 =>
      cases d1
      cases r2 with
      | cons d1 r2 =>
        cases d1
        cases r2
        cases r1 with
        | cons r rr =>
          cases rr with
          | cons r' rr =>
            cases rr with
            | cons r'' rr =>
              cases rr
              obtain ⟨t, rfl⟩ := r
              obtain ⟨t', rfl⟩ := r'
              obtain ⟨t'', rfl⟩ := r''
              refine call_range_3 c0 ?_ (.inl (PyProof.noPylong_small c1))
              refine args_nil ?_
              refine call_len_range (n := n) (IsRange.new ..) c3 (by omega) ?_
              exact ⟨.int (n : Int), H1, I1.kept fun b o e => Heap.get?_push_of_some _ e, ⟨_, rfl⟩, g _ _ _ st (.int _)⟩⟩
end
section
variable {E : Ent} {σ : L2.St} {H Hf : Hp} {A : Nat → List Addr}
theorem js_retRP {P : D → Prop} (h : JP X e (retR pin ρ) P) (hk : ∀ d, P d → Φ (.rt d ρ)) : JS X pin (.Return (some e) pos) ρ Φ := ⟨fun E σ H D hp ⟨Hf, A, s⟩ k =>
  .of (ps_ret pe_w) (h (retW E Hf H A) σ H s.retH (s.visR hp) _ fun d hd v W' H' st r => k _ (hk d hd) v H' ⟨σ, Hf, A, W', s.grow st.hh, s.retHf.trans st.ww, st.wh, fun b h1 h2 => by
      by_cases q : retW E Hf H A b = none
      · exact s.kp b (st.fr b h1 q)
      · by_cases hn : ∃ i, b ∈ A i ∧ E.pa i ≠ none
        · exact absurd (retW_arg hn) q
        · by_cases z : E.H0 b = none
          · exact z
          · rw [retW_old hn z] at q; exact s.fr b q h2, fun i a ha hpa => by
      cases q : W' a with
      | none => rfl
      | some o => exact absurd (st.fr a (by rw [q]; simp) (retW_arg ⟨i, ha, hpa⟩)) (s.ap i a ha).2.1, r⟩)⟩
theorem js_retP {P : D → Prop} (h : JP X e (allR ρ) P) (hk : ∀ d, P d → Φ (.rt d ρ)) : JS X [] (.Return (some e) pos) ρ Φ := js_retRP (by rw [retR_nil]; exact h) hk
end
section
variable {X : Cx} {pin : List Nat} {st : Stmt} {rest a b body : List Stmt} {ρ : RhoS} {Φ : Out → Prop} {e c tg iter : Expr} {es : List Expr} {d : D} {ds : List D} {pos p p' p1 p2 p3 : Pos} {i : Nat} {x : Str} {t : Bool}
theorem js_appendS (hi : ρ[i]? = some (some (.ow (.lst ds)))) (h : J X e (allR ρ) d) (hfl : flatD d = true) (hl : ds.length < sizeLine) (hk : Φ (.nx (ρ.set i (some (.ow (.lst (ds ++ [d]))))))) (hN : X.N[i]? = some x := by rfl) (hv : L2.Vis X.env.scope x := by first | exact Or.inl rfl | exact Or.inr (Or.inl rfl))
    (hd : (x == ("__debug__" : Str)) = false := by decide) (hcd : (x == ("__classdict__" : Str)) = false := by decide) (hst : starEach [e] X.env = (false, eval e X.env) :: starEach [] X.env := by rfl)
    (hfew : ((backTo p3 (starEach [e] X.env)).all (fun x => !x.1) && (backToKw p3 (keywordEach [] X.env)).all (fun x => x.1.isSome) && decide ([e].length + ([] : List Keyword).length + (if ([] : List Keyword).isEmpty then 0 else 1) < 30)) = true := by rfl)
    (hline : (p2.endLine == p3.line) = true := by rfl)
    (hs : swapsWith (.Call (.Attribute (.Name x p1) "append" p2) [e] [] p3) none pos.line X.env = pure false := by rfl) : JS X pin (.Expr (.Call (.Attribute (.Name x p1) "append" p2) [e] [] p3) pos) ρ Φ := ⟨fun E σ H D hpn ⟨Hf, A, s⟩ k => by
  refine .of (ps_expr (pe_bm PySem.F.plainAttrs_list PySem.F.slot_list_append PySem.F.type_list_append mt_append (pe_var hN hv hd hcd) (pa_cons pe_w pa_nil hst) rfl hfew hline hst) hs) ?_
  obtain ⟨v, hσ, ow, ne⟩ := s.sl i _ hi
  generalize hA : A i = Ai at ow ne
  cases ow with
  | fz _ => exact absurd rfl ne
  | @lst l vs _ B hl1 ha nB =>
    refine ⟨_, hσ, .inl ⟨rfl, _, SqL.of hl1⟩, ?_⟩
    refine h H σ H (.refl _) s.visH _ fun y W' H' st r => ?_
    have s' := s.grow st.hh
    have hl2 := st.hh _ _ hl1
    refine ⟨l, vs, y, rfl, rfl, hl2, by rw [← ha.length]; exact hl, ?_⟩
    have hm : l ∈ A i := by rw [hA]; exact List.mem_cons_self
    have k1 : ∀ a ∈ B, upd H' l (.lst (vs ++ [y])) a = H a := fun a haB => by
      rw [upd_ne (fun z => by subst z; exact nB haB)]
      have := (s.ap i a (by rw [hA]; exact List.mem_cons_of_mem _ haB)).2.1
      cases q : H a with
      | none => exact absurd q this
      | some o => exact st.hh _ _ q
    exact k _ hk _ _ ⟨Hf, _, s'.change (B := l :: B) hi hσ hm (by simp) (fun b hb => by rw [hA]; exact hb) (.lst upd_same ((ha.move (.refl _) k1).snoc (r.any hfl)) nB)⟩⟩
end
end Pf

namespace Pf
open PySem L2 PySem.Spec PyProof.Rows
open Evl (Ex)
/-! ### enumerate(text, start=k) -/
/-- the signs of z, each in a new pair with its number from k0 on -/
def ItX (z : PySem.Str) (k0 : Int) : It :=
  ⟨fun i _ => i < z.cps.size, fun i H v H' => ∃ T c, v = .ref T ∧ H T = none ∧ H' = upd H T (.tup [.int (k0 + (i : Nat)), .str ⟨#[c]⟩]) ∧ z.cps[i]? = some c, fun i _ => i = z.cps.size⟩
theorem turn_enumX {P : Program} {w : World} {K : PySem.W.Frag} {elts : List Expr} {kk : Nat} {tpos : Pos} (z : PySem.Str) (t : Tok) (k0 : Int) (e it : Addr) :
    Turn P w K (.Tuple elts kk tpos) (ItX z k0) [e, it] e (fun i h => (∃ old, IsEnum h e it (k0 + ((i : Nat) : Int)) old) ∧ h.IsStrIter it (strIterType z) z t i ∧ e ≠ it) where
  mem := List.mem_cons_self
  obj := by
    rintro i h ⟨⟨old, he⟩, ⟨o, ho, _, hd⟩, _⟩ b hb
    rcases List.mem_cons.mp hb with q | q
    · rw [q]; exact ⟨_, he, fun v r => nomatch r⟩
    · exact ⟨o, List.mem_singleton.mp q ▸ ho, fun v q => by rw [hd] at q; cases q⟩
  keep := by
    rintro i h h' ⟨⟨old, he⟩, ⟨o, ho, hr⟩, hne⟩ k
    exact ⟨⟨old, k e List.mem_cons_self _ he⟩, ⟨o, k it (List.mem_cons_of_mem _ List.mem_cons_self) o ho, hr⟩, hne⟩
  item := by
    rintro X rfl rfl rfl hc i pins s σ H E I hf ⟨⟨old, he⟩, hit, hne⟩ hg
    have hD := Draws.text (prog := X.prog) (w := X.w) (A := X.A.in1) (show X.A.in1.handled = none from I.ok.hd hc) it z t
    have le : e < s.heap.objs.size := Heap.lt_size he
    have li : it < s.heap.objs.size := by obtain ⟨_, q, _⟩ := hit; exact Heap.lt_size q
    refine wpAny_pyNext_enum_itemC hD he hit hg hne (fun q => hne (List.mem_singleton.mp q)) fun x h1 tk ⟨c, u, hcx, hx⟩ out hit1 hT hsz hk => ?_
    subst hx
    refine ⟨_, rfl, wpAny_letOwnedTupleGo_enum out fun h2 he2 sb => ?_⟩
    have hT2 := (sb.2 _ (Nat.ne_of_gt le)).trans hT
    have hnew : ObjOk X.prog X.w (upd H s.heap.objs.size (.tup [.int (k0 + (i : Nat)), .str ⟨#[c]⟩])) h2 s.heap.objs.size (.tup [.int (k0 + (i : Nat)), .str ⟨#[c]⟩]) :=
      ⟨by show 2 ≤ _; decide, [.int (k0 + (i : Nat)) tk, .str ⟨#[c]⟩ u], .cons ⟨_, rfl⟩ (.cons ⟨_, rfl⟩ .nil), ⟨_, hT2, rfl, _, rfl⟩⟩
    have I2 := I.turnedNew (h' := h2) (t' := tk + 1) (ch := [e, it]) (fun b ob hb q => (sb.2 b fun y => hb (y ▸ List.mem_cons_self)).trans (hk b ob (fun y => hb (y ▸ List.mem_cons_self)) (fun y => hb (y ▸ List.mem_cons_of_mem _ List.mem_cons_self)) q)) hf (Nat.le_refl _) hnew
    refine ⟨.ref s.heap.objs.size, _, I2, rfl, ⟨_, c, rfl, I.hok.fresh (Nat.le_refl _), rfl, hcx⟩, ⟨⟨.str ⟨#[c]⟩ u, ?_⟩, ?_, hne⟩, fun b hb => ?_⟩
    · rw [show k0 + (((i + 1 : Nat)) : Int) = k0 + (i : Int) + 1 by omega]
      exact he2
    · obtain ⟨o, ho, hr⟩ := hit1
      exact ⟨o, (sb.2 it (Ne.symm hne)).trans ho, hr⟩
    · have lb : b < s.heap.objs.size := by
        rcases List.mem_cons.mp hb with q | q
        · exact q ▸ le
        · exact List.mem_singleton.mp q ▸ li
      rw [upd_ne (Nat.ne_of_lt lb)]
      exact (hf b hb).1
  done := by
    rintro X rfl rfl rfl hc i pins s σ H E I hf ⟨⟨old, he⟩, hit, hne⟩ hg
    have hD := Draws.text (prog := X.prog) (w := X.w) (A := X.A.in1) (show X.A.in1.handled = none from I.ok.hd hc) it z t
    obtain ⟨f0, f1, f2, f3, f4, f5⟩ := hf it (List.mem_cons_of_mem _ List.mem_cons_self)
    replace hg : i = z.cps.size := hg
    subst hg
    exact wpAny_pyNext_enum_endD hD he hit fun h' eb => ⟨rfl, I.turned (t' := s.toks) (fun b o hb q => eb b o hb q) f0 f1 f3 f4 f5⟩
  self := by
    rintro A i s Q E ⟨⟨_, he⟩, _⟩ h
    exact wpAny_pyIter_enum he h
def enumD (z : PySem.Str) (k0 : Int) : List D := z.cps.toList.zipIdx.map fun p => .tup [.int (k0 + (p.2 : Nat)), .str ⟨#[p.1]⟩]
theorem enumD_get {z : PySem.Str} {k0 : Int} {i : Nat} {d : D} (h : (enumD z k0)[i]? = some d) : ∃ c, z.cps[i]? = some c ∧ d = .tup [.int (k0 + (i : Nat)), .str ⟨#[c]⟩] := by
  unfold enumD at h
  rw [List.getElem?_map, List.getElem?_zipIdx, Array.getElem?_toList, Nat.zero_add] at h
  cases hc : z.cps[i]? with
  | none => rw [hc] at h; cases h
  | some c => rw [hc] at h; cases h; exact ⟨c, rfl, rfl⟩
theorem enumD_length {z : PySem.Str} {k0 : Int} : (enumD z k0).length = z.cps.size := by unfold enumD; rw [List.length_map, List.length_zipIdx, Array.length_toList]
theorem walks_enumX {K : PySem.W.Frag} {W : Hp} {z : PySem.Str} {k0 : Int} : Walks K (ItX z k0) W (enumD z k0) where
  go := fun i H _ h => by rw [enumD_length] at h; exact h
  yld := fun i H x H' d _ hd ⟨T, c, hx, hT, hH, hc⟩ W2 _ e2 => by
    obtain ⟨c', hc', rfl⟩ := enumD_get hd
    rw [hc] at hc'
    cases hc'
    subst hx hH
    exact ⟨_, .new e2 hT, .tup (SqT.of upd_same) (.cons (.int _) (.cons (.str _) .nil))⟩
  stop := fun H _ => enumD_length
/-- a built-in class called with keywords -/
theorem callWith_typeK {M : Model} {A : Around} {E : Value → Shared → Prop} {s : Shared} {env : Env} {pos : Pos} {T : String} {e : Expr} {kws : List Keyword} {Q : Value → Shared → Prop}
    (h : wpAny M A (spliced (backTo pos (starEach [e] env))) (fun vs s1 => wpAny M A (evalAll ((backToKw pos (keywordEach kws env)).map (·.2))) (fun kvs s2 => wpAny M A (call (.type T) vs (((backToKw pos (keywordEach kws env)).filterMap (·.1)).zip kvs)) Q E s2) E s1) E s)
    (he : backTo pos (starEach [e] env) = (false, eval e env) :: backTo pos (starEach [] env)) (hp : (backTo pos (starEach [e] env)).any (·.1) = false) (hall : (backToKw pos (keywordEach kws env)).all (·.1.isSome) = true) (hkw : (backToKw pos (keywordEach kws env)).any (·.1.isNone) = false) :
    wpAny M A (callWith pos (.type T) [] (backTo pos (starEach [e] env)) (backToKw pos (keywordEach kws env))) Q E s := by
  have hb : wpAny M A (evalArgs (.type T) true (backTo pos (starEach [e] env)) (backToKw pos (keywordEach kws env))) (fun a s1 => wpAny M A (call (.type T) ([] ++ a.pos) a.kw) Q E s1) E s := by
    rw [he] at h ⊢
    exact evalArgs_kwB hall h
  unfold callWith
  refine wpAny_bind (wpAny_holding (wpAny_mono hb (fun a s1 h1 => wpAny_bind (wpAny_standAt ?_)) fun _ _ x => x))
  simp only [hp, hkw, Bool.or_false]
  exact wpAny_bind (wpAny_pure (wpAny_bind (wpAny_mono h1 (fun r s2 hr => wpAny_bind (wpAny_holding (wpAny_point (wpAny_pure hr)))) fun _ _ x => x)))
section
variable {X : Cx} {ρ : Rho} {a : Expr} {pos p p2 kp tpos : Pos} {elts : List Expr} {kk kt : Nat}
theorem ji_enumX {z : PySem.Str} {k0 : Int} (T : Bt X.mg) (ha : J X a ρ (.str z)) (h0 : -(2 ^ 63) ≤ k0) (h1 : k0 < 2 ^ 63) (hg : Gl X "enumerate" := by rfl) (hs : starEach [a] X.env = (false, eval a X.env) :: starEach [] X.env := by rfl)
    (he : backTo pos (starEach [a] X.env) = (false, eval a X.env) :: backTo pos (starEach [] X.env) := by rfl) (hp : (backTo pos (starEach [a] X.env)).any (·.1) = false := by rfl)
    (hall : (backToKw pos (keywordEach [⟨some "start", .Constant (.int k0) kk p2, kp⟩] X.env)).all (·.1.isSome) = true := by rfl) (hkw : (backToKw pos (keywordEach [⟨some "start", .Constant (.int k0) kk p2, kp⟩] X.env)).any (·.1.isNone) = false := by rfl) :
    JI X (.Tuple elts kt tpos) (.Call (.Name "enumerate" p) [a] [⟨some "start", .Constant (.int k0) kk p2, kp⟩] pos) ρ (enumD z k0) := ⟨fun W σ H ex hV R g => fun pins s I => by
  refine wpAny_Call_Name_kw (ld_blt I hg T.enumerate boot_enumerate (callWith_typeK (args_cons (thn (pe_w.run pins s σ H _ I (ha W σ H ex hV (fun v H' => ∃ W', Step W H W' H' ∧ v = .str z) fun v W' H' st r => ⟨W', st, by cases r; rfl⟩)) fun u s1 ⟨vv, H1, I1, r1, W', st, ev⟩ => args_nil ?_) hs) he hp hall hkw))
  subst ev
  obtain ⟨tk, rfl⟩ := r1
  refine kws_cons (thn ((pe_int (X := X) (i := k0)).run pins s1 σ H1 (fun v H' => v = .int k0 ∧ H' = H1) I1 ⟨rfl, rfl⟩) fun u s2 ⟨vv, H2, I2, r2, e1, e2⟩ => kws_nil ?_)
  subst e1 e2
  obtain ⟨tk2, rfl⟩ := r2
  refine enum_begins_start (begins_text z tk) trivial h0 h1 fun h' hen hit hsz hk => wpAny_pyIter_enum hen ?_
  have I3 := I2.kept (t' := s2.toks) hk
  refine ⟨s2.heap.objs.size + 1, [s2.heap.objs.size + 1, s2.heap.objs.size], _, _, _, rfl, I3, turn_enumX z tk k0 (s2.heap.objs.size + 1) s2.heap.objs.size, ⟨⟨.none, ?_⟩, ⟨_, hit, rfl, rfl⟩, Nat.succ_ne_self _⟩, fun b hb => ?_, g _ _ _ st walks_enumX⟩
  · show IsEnum h' _ _ (k0 + ((0 : Nat) : Int)) _
    rw [show k0 + ((0 : Nat) : Int) = k0 by omega]
    exact hen
  · have lb : s2.heap.objs.size ≤ b := by
      rcases List.mem_cons.mp hb with q | q
      · rw [q]; exact Nat.le_add_right _ _
      · rw [List.mem_singleton.mp q]; exact Nat.le_refl _
    exact I2.fpOk lb (I2.hok.fresh lb)⟩
end
end Pf

namespace Pf
open PySem L2 PySem.Spec PyProof.Rows PySem.W
open Evl (Ex)
/-- three digits -/
def d3 (n : Nat) : PySem.Str := ⟨#[48 + n / 100, 48 + n / 10 % 10, 48 + n % 10]⟩
open PySem.Builtin PySem.Builtin.Str PySem.Builtin.Int in
theorem three_meets {n : Nat} {t : Tok} (h : n < 1000) : ∀ u, Meets (Builtin.«int.__format__» ⟨[.int (n : Int) t, .str (Str.ofString "03d") u], []⟩) (fun _ R s => ∀ t' k, R (.ok (.ret (.str (d3 n) t'))) { s with toks := k }) := by
  have hl : ((n : Nat) : Int).natAbs.log2 < 1920 := (by decide +kernel : ∀ n : Nat, n < 1000 → ((n : Nat) : Int).natAbs.log2 < 1920) n h
  intro u
  apply KPc.meets_of
  intro _ _ _ _ _ _ q
  unfold Builtin.«int.__format__»
  refine wpAny_bind (wpAny_of_eq (a := (_, _)) rfl (wpAny_bind (wpAny_of_eq (a := _) rfl ?_)))
  kxf_if
  refine wpAny_bind (wpAny_typeNameOf (typeIs_str _ _ _) (T := "str") (by decide) fun _ => wpAny_bind (wpAny_of_eq (a := some _) rfl ?_))
  kxf_if
  kxf_if
  refine wpAny_bind (wpAny_typeNameOfCut_int ?_)
  repeat kxf_if
  refine wpAny_bind (wpAny_of_eq (PyProof.Rows.overDigitLimit_small hl) ?_)
  dsimp only
  repeat kxf_if
  refine KXf.ret_text (T := d3 n) ?_ ?_ q
  · clear q hl
    revert n
    decide +kernel
  · clear q hl
    revert n
    decide +kernel
end Pf

namespace Pf
open PySem L2 PySem.Spec PyProof.Rows
open Evl (Ex)
section
variable {X : Cx} {ρ : Rho} {e o a b c : Expr} {es : List Expr} {pos p p1 p2 p3 apos cpos : Pos} {kk : Nat}
/-! ### f-strings -/
theorem j_fmt3 {n : Nat} (ha : J X e ρ (.int (n : Int))) (h : n < 1000) : J X (.FormattedValue e (-1) (some (.JoinedStr [.Constant (.str "03d") kk p1] p2)) pos) ρ (.str (d3 n)) := ⟨fun W σ H ex hV Q g => fun pins s I => by
  refine wpAny_FormattedValue_spec (thn (pe_w.run pins s σ H _ I (ha W σ H ex hV (fun v H' => ∃ W', Step W H W' H' ∧ v = .int (n : Int)) fun v W' H' st r => ⟨W', st, by cases r; rfl⟩)) fun u s1 ⟨vv, H1, I1, r1, W', st, ev⟩ => ?_)
  subst ev
  obtain ⟨tk, rfl⟩ := r1
  refine thn ((pe_joined1 (pos := p2) (pe_str (X := X) (x := "03d") (j := kk) (pos := p1))).run pins s1 σ H1 (fun v H' => v = .str "03d" ∧ H' = H1) I1 ⟨rfl, rfl⟩) fun u s2 ⟨vv, H2, I2, r2, e1, e2⟩ => ?_
  subst e1 e2
  obtain ⟨tk2, rfl⟩ := r2
  exact ⟨_, tk2, rfl, PySem.W.KXf.field_int rfl (by decide +kernel) (by decide +kernel) (three_meets h) fun t' k => ⟨.str (d3 n), _, I2.tok _, ⟨t', rfl⟩, g _ _ _ st (.str _)⟩⟩⟩
theorem j_fmtI {i : Int} (ha : J X e ρ (.int i)) (h : i.natAbs.log2 < 1920) : J X (.FormattedValue e (-1) none pos) ρ (.str (toString i)) := ⟨fun W σ H ex hV Q g => .of (pe_fmt pe_w) (ha W σ H ex hV _ fun v W1 H1 s1 r1 => by
  cases r1; exact .inr ⟨i, rfl, h, g _ _ _ s1 (.str _)⟩)⟩
theorem j_fmtS {y : PySem.Str} (ha : J X e ρ (.str y)) (h : y.length ≤ sizeLine) : J X (.FormattedValue e (-1) none pos) ρ (.str y) := ⟨fun W σ H ex hV Q g => .of (pe_fmt pe_w) (ha W σ H ex hV _ fun v W1 H1 s1 r1 => by
  cases r1; exact .inl ⟨y, rfl, h, g _ _ _ s1 (.str _)⟩)⟩
inductive JF (X : Cx) (ρ : Rho) : List Expr → List PySem.Str → Prop
  | nil : JF X ρ [] []
  | cons {e : Expr} {y : PySem.Str} {es : List Expr} {ys : List PySem.Str} (h : J X e ρ (.str y)) (r : JF X ρ es ys) : JF X ρ (e :: es) (y :: ys)
def joinS (acc : PySem.Str) : List PySem.Str → PySem.Str
  | [] => acc
  | y :: ys => joinS (acc ++ y) ys
theorem app_len (x y : PySem.Str) : (x ++ y).length = x.length + y.length := by
  show (x.cps ++ y.cps).size = _
  rw [Array.size_append]; rfl
theorem joinS_le : ∀ (ys : List PySem.Str) (acc : PySem.Str), acc.length ≤ (joinS acc ys).length
  | [], _ => Nat.le_refl _
  | y :: ys, acc => Nat.le_trans (by rw [app_len]; omega) (joinS_le ys (acc ++ y))
theorem pj_w : ∀ es : List Expr, PJ X es (es.map (wE X))
  | [] => .nil
  | _ :: es => .cons pe_w (pj_w es)
theorem jf_run {ys : List PySem.Str} (h : JF X ρ es ys) : ∀ (acc : PySem.Str) (W : Hp) (σ : L2.St) (H : Hp) (Q : PySem.Str → Hp → Prop), Ex W H → Vis X.K ρ W σ → (joinS acc ys).length ≤ sizeLine → (∀ W' H', Step W H W' H' → Q (joinS acc ys) H') → tJs (es.map (wE X)) acc σ H Q := by
  induction h with
  | nil => intro acc W σ H Q ex hV hl g; exact g W H (.refl ex)
  | @cons e y es ys h r ih =>
    intro acc W σ H Q ex hV hl g
    refine h W σ H ex hV _ fun v W1 H1 s1 r1 => ?_
    cases r1
    exact ⟨y, rfl, Nat.le_trans (joinS_le ys (acc ++ y)) hl, ih (acc ++ y) W1 σ H1 Q s1.wh (hV.mono s1.ww) hl fun W' H' s2 => g W' H' (s1.trans s2)⟩
theorem j_fs {v1 v2 : Expr} {rest : List Expr} {ys : List PySem.Str} {z : PySem.Str} (h : JF X ρ (v1 :: v2 :: rest) ys) (hz : joinS Str.empty ys = z) (hl : z.length ≤ sizeLine) : J X (.JoinedStr (v1 :: v2 :: rest) pos) ρ (.str z) := ⟨fun W σ H ex hV Q g => by
  subst hz
  exact .of (pe_joined (pj_w _)) (jf_run h Str.empty W σ H _ ex hV hl fun W' H' st => g _ _ _ st (.str _))⟩
/-! ### texts -/
def signsD (z : PySem.Str) : List D := z.cps.toList.map fun c => .str ⟨#[c]⟩
theorem signsD_get {z : PySem.Str} {i : Nat} {d : D} (h : (signsD z)[i]? = some d) : ∃ c, z.cps[i]? = some c ∧ d = .str ⟨#[c]⟩ := by
  unfold signsD at h
  rw [List.getElem?_map, Array.getElem?_toList] at h
  cases hc : z.cps[i]? with
  | none => rw [hc] at h; cases h
  | some c => rw [hc] at h; cases h; exact ⟨c, rfl, rfl⟩
theorem signsD_length {z : PySem.Str} : (signsD z).length = z.cps.size := by unfold signsD; rw [List.length_map, Array.length_toList]
theorem walks_signs {K : PySem.W.Frag} {W : Hp} {z : PySem.Str} : Walks K (Its z) W (signsD z) where
  go := fun i H _ h => by rw [signsD_length] at h; exact h
  yld := fun i H x H' d _ hd ⟨hH, c, hc, hx⟩ W2 _ e2 => by
    obtain ⟨c', hc', rfl⟩ := signsD_get hd
    rw [hc] at hc'
    cases hc'
    subst hx hH
    exact ⟨W2, .refl e2, .str _⟩
  stop := fun H _ => Nat.le_of_eq signsD_length.symm
theorem ji_str {tg : Expr} {z : PySem.Str} (ha : J X a ρ (.str z)) : JI X tg a ρ (signsD z) := ⟨fun W σ H ex hV R g => .of (pi_str pe_w) (ha W σ H ex hV _ fun v W1 H1 s1 r1 => by
  cases r1; exact ⟨z, rfl, g _ _ _ s1 walks_signs⟩)⟩
theorem j_join {x : PySem.Str} {ys : List PySem.Str} {z : PySem.Str} (ho : J X o ρ (.str x)) (ha : J X a ρ (.lst (ys.map D.str))) (hz : (ys.map (·.length)).sum + ys.length * x.length ≤ 16777216) (hj : Txt.join x ys = z) (hs : starEach [a] X.env = [(false, eval a X.env)] := by rfl) (hbase : attributeBase o "join" X.env (eval o X.env) = eval o X.env := by rfl) (hline : (apos.endLine == pos.line) = true := by rfl) :
    J X (.Call (.Attribute o "join" apos) [a] [] pos) ρ (.str z) := ⟨fun W σ H ex hV Q g => .of (pe_join pe_w pe_w hs hbase hline) (ho W σ H ex hV _ fun v W1 H1 s1 r1 => by
  cases r1
  refine ⟨⟨x, rfl⟩, ha W1 σ H1 s1.wh (hV.mono s1.ww) _ fun u W2 H2 s2 r2 => ?_⟩
  cases r2 with
  | lst h1 k => cases k.strs; subst hj; exact ⟨x, _, ys, rfl, rfl, .inl (SqL.of (s2.wh _ _ h1)), hz, g _ _ _ (s1.trans s2) (.str _)⟩)⟩
theorem j_splitMax {x y : PySem.Str} {k : Int} (ho : J X o ρ (.str x)) (ha : JA X [a, b] ρ [.str y, .int k]) (hy : (y.length == 0) = false) (h0 : -(2 ^ 63) ≤ k) (h1 : k < 2 ^ 63) (hl : x.length + 2 ≤ sizeLine) (hbase : attributeBase o "split" X.env (eval o X.env) = eval o X.env := by rfl)
    (hfew : ((backTo cpos (starEach [a, b] X.env)).all (fun x => !x.1) && (backToKw cpos (keywordEach [] X.env)).all (fun x => x.1.isSome) && decide ([a, b].length + ([] : List Keyword).length + (if ([] : List Keyword).isEmpty then 0 else 1) < 30)) = true := by rfl)
    (hline : (apos.endLine == cpos.line) = true := by rfl) (hs : starEach [a, b] X.env = (false, eval a X.env) :: starEach [b] X.env := by rfl) (hplain : (backTo cpos (starEach [b] X.env)).any (·.1) = false := by rfl) :
    J X (.Call (.Attribute o "split" apos) [a, b] [] cpos) ρ (.lst ((Txt.splitMax x y k).map D.str)) := ⟨fun W σ H ex hV Q g =>
  .of (pe_bm PySem.F.plainAttrs_str PySem.F.slot_str_split PySem.F.type_str_split mt_splitMax pe_w pa_w hbase hfew hline hs hplain) (ho W σ H ex hV _ fun v W1 H1 s1 r1 => by
  cases r1
  refine ⟨rfl, ha W1 σ H1 s1.wh (hV.mono s1.ww) _ fun us W2 H2 s2 r2 => ?_⟩
  cases r2 with
  | cons q1 r2 =>
    cases q1
    cases r2 with
    | cons q1 r2 =>
      cases q1
      cases r2
      exact ⟨x, y, k, rfl, rfl, hy, h0, h1, hl, fun q hq => g _ _ _ ((s1.trans s2).trans (.new s2.wh hq)) (.lst upd_same (RepAll.toStrs _))⟩)⟩
theorem rc_ord {K : PySem.W.Frag} {n : Nat} : RCD K (fun xs H Q => ∃ x, xs = [V.str x] ∧ x.length = 1 ∧ Q (V.int (x.cps.getD 0 0 : Nat)) H) [.str ⟨#[n]⟩] (.int (n : Int)) := fun W H vs ex r Q q => by
  cases r with | cons r t => cases t; cases r; exact ⟨_, rfl, rfl, q.now ex (.int _)⟩
theorem rc_intS {K : PySem.W.Frag} {x : PySem.Str} {n : Int} (h : PySem.intText? x = some n) (hl : x.length ≤ 640) : RCD K (fun xs H Q => ∃ a n, xs = [V.str a] ∧ PySem.intText? a = some n ∧ a.length ≤ 640 ∧ Q (V.int n) H) [.str x] (.int n) := fun W H vs ex r Q q => by
  cases r with | cons r t => cases t; cases r; exact ⟨x, n, rfl, h, hl, q.now ex (.int _)⟩
theorem jb_ord {n : Nat} (hm : X.mg "ord" = none) (ha : JA X [e] ρ [.str ⟨#[n]⟩]) (hg : Gl X "ord" := by rfl) (he : starEach [e] X.env = (false, eval e X.env) :: starEach [] X.env := by rfl) (hpl : (backTo pos (starEach [] X.env)).any (·.1) = false := by rfl) :
    J X (.Call (.Name "ord" p) [e] [] pos) ρ (.int (n : Int)) := j_cb call_ord hm (by decide +kernel) ha rc_ord hg (by decide) (by decide) he hpl
theorem jb_intS {x : PySem.Str} {n : Int} (T : Bt X.mg) (ha : JA X [e] ρ [.str x]) (h : PySem.intText? x = some n) (hl : x.length ≤ 640) (hg : Gl X "int" := by rfl) (he : starEach [e] X.env = (false, eval e X.env) :: starEach [] X.env := by rfl) (hpl : (backTo pos (starEach [] X.env)).any (·.1) = false := by rfl) :
    J X (.Call (.Name "int" p) [e] [] pos) ρ (.int n) := j_ct call_int_str T.int (by decide +kernel) ha (rc_intS h hl) hg (by decide) (by decide) he hpl
theorem cd_leS {x y : PySem.Str} : CmD X .LtE (.str x) (.str y) (!decide (y.cps.toList < x.cps.toList)) := ⟨_, op_le_str, fun W H v u ex r1 r2 Q q => by
  cases r1; cases r2; exact ⟨x, y, rfl, rfl, q.now ex (.bl _)⟩⟩
end
end Pf

/-! errors whose class says super().__init__(..): the class's __init__ by itself -/
namespace Pf
open PySem L2 PySem.Spec PyProof.Rows
open Evl (Ex)

section
open PySem.W PySem.Calls
variable {prog : Program} {w : World} {A : Around} {E : Value → Shared → Prop} {h : Heap} {g : Array GenState} {d : Drawn} {t : Nat} {os : OsState}
/-- the bound __init__ of ValueError is called -/
theorem call_mw {nm q : Str} {C N : Addr} {bs bm : List Value} {hdct : Bool} {sn : List Str} {sub : List Value} {ab : Bool} {col : Option Bool} {dd : Option Addr} {k0 k1 k2 k3 k5 : Option Value} {u e t0 : Addr} {rest : List Value} {Q : Value → Shared → Prop}
    (hC : h.get? C = some (excClassObj nm q C N bs bm hdct sn sub ab col dd k0 k1 k2 k3 k5 "ValueError.__new__")) (he : h.get? e = some (HandSPX.excO C t0)) (hu : h.get? u = some (kxs_mw "ValueError.__init__" e)) (hl : rest.length ≤ sizeLine)
    (k : ∀ h' t1, (∀ b o, b ≠ e → h.get? b = some o → h'.get? b = some o) → h'.get? e = some (HandSPX.excO C t1) → Q .none ⟨h', g, d, t, os⟩) : wpAny (model prog w) A (call (.ref u) rest) Q E ⟨h, g, d, t, os⟩ := by
  refine wpAny_call (codeAny_of_tree (show wpAny _ A.in1 (callAny (.ref u) ⟨rest, []⟩) _ _ _ from ?_))
  simp only [callAny]
  refine wpAny_bind (wpAny_load hu ?_)
  simp only [kxs_mw, show (Value.type "method-wrapper" == Value.type "method" || Value.type "method-wrapper" == Value.type "builtin_function_or_method" || Value.type "method-wrapper" == Value.type "method-wrapper") = true from by decide, if_true]
  refine KFB.if_so (by decide) (wpAny_bind (ESX.check_bound F.excBase_ValueError hC he rfl (wpAny_bind (wpAny_pure (wpAny_pure ?_)))))
  refine ⟨plainId_quiet F.excBase_ValueError.init.plain _, codeAny_builtin F.excBase_ValueError.initEntry ?_⟩
  exact exc_init_tree (cls := .ref C) (t0 := t0) (dv := none) (c2 := .none) (c3 := .none) (b4 := .bool false) he hl fun h' kp hx _ => k h' _ kp hx
end

section
variable {X : Cx} {pins : List (Addr × Obj)} {σ : L2.St} {H : Hp} {s : Shared} {A : Around} {E : Value → Shared → Prop} {a C u : Addr}
theorem sinit_ok {us : List Value} {Q : Value → Shared → Prop} (T : OexC X.K C) (I : Inv X pins σ H s) (e : H a = some (exo a C none)) (hu : s.heap.get? u = some (PySem.W.kxs_mw "ValueError.__init__" a)) (hl : us.length ≤ sizeLine) (k : ∀ s', Inv X pins σ H s' → Q .none s') :
    wpAny (model X.prog X.w) A (call (.ref u) us) Q E s := by
  obtain ⟨t1, hobj⟩ := exo_at I.hok e
  obtain ⟨_, _, _, _, _, _, _, _, _, _, _, _, _, _, _, hC, _⟩ := T.cls
  obtain ⟨hp, g, d, t, os⟩ := s
  refine call_mw (I.kIn _ _ hC) hobj hu hl fun h' t2 kp hx => ?_
  have J := I.write (t' := t) (x := a) (e := a) (o := exo a C none) (by rw [e]; exact True.intro) (.inl rfl) kp ⟨_, hx⟩ (exo_ok hx)
  have same : upd H a (exo a C none) = H := funext fun b => by
    by_cases hb : b = a
    · subst hb; rw [upd_same, e]
    · rw [upd_ne hb]
  rw [same] at J
  exact k _ J
end

/-- what K tells of the class, its __init__'s code and its cell -/
structure SupK (P : Program) (K : PySem.W.Frag) (mg : Str → Option Value) (C cc c : Addr) : Prop where
  T : OexC K C
  sup : mg "super" = none
  cell : ∃ cl cld csl, K.lookup cc = some ⟨cl, cld, .cell (some (.ref C)), csl⟩
  code : ∃ ccl cdd vs ccs file tf, K.lookup c = some ⟨ccl, cdd, .fields vs, ccs⟩ ∧ vs[2]? = some (.str file tf) ∧ ((P.main.file : Str) == file) = true
  top : (P.main.scope.names.lookup ("super" : Str)).isSome = false
  cd : ∃ cdC, PySem.W.clsIn K C = some cdC
  opq : PySem.W.nsIn K cStatics "thirdparty.any" = some none
  self : PySem.W.mroIn K C (.ref C) = some true
  ini : PySem.W.ks_superIn K C C "__init__" = some (some (.builtin "ValueError.__init__"))
  sb : PySem.W.subIn K (.ref C) (.type "ValueError") = some true

/-- the body of such an __init__ -/
theorem sup_body {X : Cx} {σ : L2.St} {H : Hp} {s : Shared} {a f C cc c : Addr} {v : V} {m fld pa : Str} {msg : Expr} {p0 p1 p2 p3 p4 q0 q1 q2 q3 : Pos} {fd : FuncData} {oc : Value} {od : Option Addr} {osl : Array (Option Value)} {ar : Arg} {D : Ends} {mm : Str → Option Value} {body : List Stmt}
    (SK : SupK X.prog X.K X.mg C cc c) (I : Inv X [] σ H s) (hσ0 : σ[0]? = some (some (.ref a))) (hσ1 : σ[1]? = some (some v)) (hns : s.heap.Ns X.env.locals mm) (hself : mm ("self" : Str) = some (.ref a)) (lk : X.K.lookup f = some ⟨oc, od, .func fd, osl⟩)
    (har : (fd.params.posonlyargs ++ fd.params.args).head? = some ar) (hars : ar.arg = ("self" : Str)) (ha : H a = some (exo a C none)) (hkind : X.env.scope.kind = .function) (hfu : X.env.func = some f) (hco : X.env.code = .ref c) (hce : X.env.cells.lookup ("__class__" : Str) = some cc)
    (hks : X.env.kindOf "super" = some .globalImplicit) (hkc : X.env.kindOf "__class__" = some .free) (hkself : X.env.kindOf "self" = some .local)
    (hN0 : X.N[0]? = some ("self" : Str)) (hN1 : X.N[1]? = some pa) (hv0 : L2.Vis X.env.scope "self") (hv1 : L2.Vis X.env.scope pa) (hpa : (pa == ("__debug__" : Str)) = false ∧ (pa == ("__classdict__" : Str)) = false)
    (hms : ∀ Q : List V → Hp → Prop, (∀ H1, Ex H H1 → Q [.str m] H1) → wA X [msg] σ H Q) (hno : PySem.W.findIn X.K (.ref C) fld = some none)
    (hev : ∃ pl : Sem Bool, eval (.Call (.Attribute (.Call (.Name "super" p0) [] [] p1) "__init__" p2) [msg] [] p3) X.env = (do
      let ov ← attributeBase (.Call (.Name "super" p0) [] [] p1) "__init__" X.env (eval (.Call (.Name "super" p0) [] [] p1) X.env)
      standAt p2.atName
      let (fx, first) ← holding [ov] (getMethod ov "__init__" pl)
      callWith p3 fx first (backTo p3 (starEach [msg] X.env)) []))
    (hst : starEach [msg] X.env = [(false, eval msg X.env)]) (hsw : swapsWith (.Name pa q2) (some (.Attribute (.Name "self" q0) fld q1)) q3.line X.env = pure false)
    (hq : ∀ H1 dx, Ex H H1 → H1 dx = none → dx ≠ a → D.nx σ (upd (upd H1 dx (exd dx [(fld, v)])) a (exo a C (some dx)))) :
    PySem.wpAt (model X.prog X.w) X.A (.func body X.env) (execs [.Expr (.Call (.Attribute (.Call (.Name "super" p0) [] [] p1) "__init__" p2) [msg] [] p3) p4, .Assign [.Attribute (.Name "self" q0) fld q1] (.Name pa q2) q3] X.env) (SP X [] D) X.xe s := by
  obtain ⟨cl, cld, csl, hcell⟩ := SK.cell
  obtain ⟨ccl, cdd, cvs, ccs, file, tf, hcode, hvs, hfile⟩ := SK.code
  obtain ⟨cdC, hcdC⟩ := SK.cd
  have KX : X.K.In s.heap := I.kIn
  obtain ⟨t1, ho⟩ := exo_at I.hok ha
  obtain ⟨oD, hD1, hD2⟩ : ∃ oD, s.heap.get? C = some oD ∧ oD.data = .cls cdC := by
    have z := hcdC
    unfold PySem.W.clsIn at z
    split at z
    · rename_i c0 d0 cd0 sl0 hC0
      cases z
      exact ⟨_, KX _ _ hC0, rfl⟩
    · cases z
  have rest : ∀ H1, Ex H H1 → ∀ s', Inv X [] σ H1 s' → wpAny (model X.prog X.w) X.A (execs [.Assign [.Attribute (.Name "self" q0) fld q1] (.Name pa q2) q3] X.env) (SP X [] D) X.xe s' := fun H1 e1 s' J => by
    refine (pss_cons (ps_ost (pe_var hN0 hv0) (pe_var hN1 hv1 hpa.1 hpa.2) hsw) pss_nil).run [] s' σ H1 D J ?_
    refine ⟨v, hσ1, .ref a, hσ0, a, C, rfl, SK.T, hno, .inl ⟨e1 _ _ ha, fun dx n1 n2 => hq H1 dx e1 n1 n2⟩⟩
  refine PySem.ks_wpAt_execs_cons ?_
  refine PySem.ks_wpAt_Expr_any ?_ I.quiet rfl
  obtain ⟨pl, hev⟩ := hev
  refine PySem.ks_wpAt_MethodCall (pl := pl) ?_ hev
  refine PySem.ks_wpAt_super_base (fd := fd) hks hkc (by decide) hfu (KX _ _ lk) rfl har hco (KX _ _ hcode) rfl hvs hfile SK.top ?_
  obtain ⟨mb, hb1, hb2⟩ := I.mod.blt
  obtain ⟨hp, g, d, t, os⟩ := s
  refine PySem.W.ks_loadName_global hkind hks (Calls.loadGlobal_builtin (by rw [I.ok.glob]; exact I.mod.glob.keeps I.bk) SK.sup (by rw [I.ok.blt]; exact hb1.keeps I.bk) ((hb2 _ (by decide)).trans (show bootBuiltins "super" = some (.type "super") from by kernel_rfl)) ⟨rfl, ?_⟩)
  refine wpAny_loadName_free hkind hkc hce ⟨_, KX _ _ hcell, rfl⟩ ?_
  rw [hars]
  refine wpAny_loadName_local hkind hkself hns hself ?_
  refine PySem.ks_wpAny_isType_cls hD1 hD2 ⟨rfl, ?_⟩
  refine PySem.ks_wpAny_call_super hD1 hD2 ho rfl (fun c e => by cases e) (PySem.W.looks_mroIn KX SK.self) (fun h' e kp => ?_)
  have J1 : Inv X [] σ H ⟨h', g, d, t, os⟩ := I.kept (t' := t) kp
  have ho' := kp _ _ ho
  have IA : PySem.W.InstAt h' a { cls := Value.ref C, data := Data.fields #[Value.ref t1, Value.none, Value.none, Value.none, Value.bool false, Value.none] } C none := ⟨ho', rfl, rfl, trivial⟩
  have ini := SK.ini
  unfold PySem.W.ks_superIn at ini
  rw [hcdC] at ini
  refine PySem.W.kxs_getMethod PySem.W.kxs_ValueError e (PySem.W.looks_opaque J1.kIn SK.opq) (l₀ := cdC.mro) (fun A Q E s k q => wpAny_bind ((PySem.W.looks_clsIn J1.kIn hcdC) A _ E s k (wpAny_pure q))) rfl J1.kIn ini (IA.type.andThen (PySem.W.looks_subIn J1.kIn SK.sb)) (PySem.W.ks_ne J1.kIn IA hcdC) (by decide) ?_
  have J2 : Inv X [] σ H ⟨h'.push (PySem.W.kxs_mw "ValueError.__init__" a), g, d, t + 1, os⟩ := J1.kept (t' := t + 1) fun b o z => Heap.get?_push_of_some _ z
  have hu : (h'.push (PySem.W.kxs_mw "ValueError.__init__" a)).get? h'.objs.size = some (PySem.W.kxs_mw "ValueError.__init__" a) := Heap.get?_push_at rfl rfl
  have fp := J1.fpOk (H' := H) (b := h'.objs.size) (Nat.le_refl _) (J1.hok.fresh (Nat.le_refl _))
  have J3 : Inv X [(h'.objs.size, PySem.W.kxs_mw "ValueError.__init__" a)] σ H ⟨h'.push (PySem.W.kxs_mw "ValueError.__init__" a), g, d, t + 1, os⟩ := J2.pins_of fun p hp => by
    rw [List.mem_singleton] at hp
    subst hp
    exact ⟨hu, fp.1, fp.2.1, fp.2.2.1, fun v z => by cases z⟩
  rw [hst]
  refine PySem.W.kxs_callWith (i := "ValueError.__init__") (x := a) rfl (PySem.Calls.evalArgs_plain ?_)
  have hrun := hms (fun vs H1 => vs = [.str m] ∧ Ex H H1) (fun H1 e1 => ⟨rfl, e1⟩) p3 _ _ J3
  rw [hst] at hrun
  refine thn hrun fun us s1 ⟨vs, H1, I1, r1, q1, e1⟩ => ?_
  subst q1
  have hu1 : s1.heap.get? h'.objs.size = some (PySem.W.kxs_mw "ValueError.__init__" a) := (I1.pin (h'.objs.size, PySem.W.kxs_mw "ValueError.__init__" a) (List.mem_append_right _ (List.mem_singleton.mpr rfl))).1
  have hlen : us.length ≤ sizeLine := by
    rw [← Paired.length r1]; show 1 ≤ sizeLine; decide
  exact ⟨hu1, sinit_ok SK.T I1 (e1 _ _ ha) hu1 hlen fun s' J => wpAt_of_wpAny (rest H1 e1 s' (J.pins_of fun p hp => absurd hp (by simp)))⟩

/-- the context of such an __init__ -/
abbrev supNF (qual : Str) (params : Arguments) (body : List Stmt) (scope : Scope) (cc c : Addr) : NdefX.NF := ⟨"__init__", qual, params, body, scope, [("__class__", cc)], c⟩
def spSup (K : PySem.W.Frag) (C : Addr) (fld : Str) (G : D → Prop) : Sp := fun vs H Q _ => ∃ (a : Addr) (v : V) (d : D), vs = [.ref a, v] ∧ G d ∧ Rep K (fun _ => none) d v ∧ H a = some (exo a C none) ∧
  ∀ H1 dx, Ex H H1 → H1 dx = none → dx ≠ a → Q .non (upd (upd H1 dx (exd dx [(fld, v)])) a (exo a C (some dx)))

section
variable {P : Program} {w : World} {K : PySem.W.Frag} {mg : Str → Option Value} {base : Heap} {k : Nat} {f C cc c : Addr} {qual pa fld : Str} {params : Arguments} {scope : Scope} {dV kV doc pm ct oc : Value} {an od : Option Addr} {osl : Array (Option Value)} {fd : FuncData} {msg : Expr} {p0 p1 p2 p3 p4 q0 q1 q2 q3 : Pos} {G : D → Prop} {body : List Stmt}
theorem fn_sup (SK : SupK P K mg C cc c) (lk : K.lookup f = some ⟨oc, od, .func fd, osl⟩) (hfd : fd = PySem.W.fnX "__init__" qual params body scope [("__class__", cc)] dV kV doc pm an (.ref c) ct)
    (hcd : PySem.W.codeIn K (.ref c) qual = true) (hbody : body = [.Expr (.Call (.Attribute (.Call (.Name "super" p0) [] [] p1) "__init__" p2) [msg] [] p3) p4, .Assign [.Attribute (.Name "self" q0) fld q1] (.Name pa q2) q3])
    (S : NdefX.NScope ["self", pa, "__class__"] ["self", pa] ["__class__"] scope)
    (hks : scope.names.lookup ("super" : Str) = some .globalImplicit) (hkc : scope.names.lookup ("__class__" : Str) = some .free) (hhd : ∃ ar : Arg, (params.posonlyargs ++ params.args).head? = some ar ∧ ar.arg = ("self" : Str))
    (hno : PySem.W.findIn K (.ref C) fld = some none) (hpa : (pa == ("__debug__" : Str)) = false ∧ (pa == ("__classdict__" : Str)) = false)
    (hmsg : ∀ A outer s H E d, G d → ∃ m, J (NdefX.ncx CX0 P w K mg base ["self", pa, "__class__"] (supNF qual params body scope cc c) f A outer s H E) msg [none, some d, none] (.str m))
    (hev : ∀ env : Env, ∃ pl : Sem Bool, eval (.Call (.Attribute (.Call (.Name "super" p0) [] [] p1) "__init__" p2) [msg] [] p3) env = (do
      let ov ← attributeBase (.Call (.Name "super" p0) [] [] p1) "__init__" env (eval (.Call (.Name "super" p0) [] [] p1) env)
      standAt p2.atName
      let (fx, first) ← holding [ov] (getMethod ov "__init__" pl)
      callWith p3 fx first (backTo p3 (starEach [msg] env)) []))
    (hsw : ∀ env : Env, swapsWith (.Name pa q2) (some (.Attribute (.Name "self" q0) fld q1)) q3.line env = pure false)
    (hstar : ∀ (env : Env), starEach [msg] env = [(false, eval msg env)]) :
    FnOk P w K mg base CX0 (k + 1) f fd ["self", pa] (spSup K C fld G) := by
  refine ⟨fun vs H Q E h => by obtain ⟨a, v, d, rfl, _⟩ := h; rfl, fun A outer s H args us vs Q E hr e0 hbd r hsp => ?_⟩
  obtain ⟨a, v, d, rfl, hG, hrep, ha, hq⟩ := hsp
  have kept0 : ∀ b o, base.get? b = some o → s.heap.get? b = some o := fun b o z => (e0.bs b o z).1
  have KX : K.In s.heap := e0.mod.kin.keeps kept0
  have lim : s.heap.NoLimit := e0.mod.nolimit.keeps kept0
  subst hfd
  have hfun := KX _ _ lk
  obtain ⟨cl, cld, csl, hcell⟩ := SK.cell
  obtain ⟨ccl, cdd, cvs, ccs, file, tf, hcode, hvs, hfile⟩ := SK.code
  obtain ⟨cdC, hcdC⟩ := SK.cd
  obtain ⟨ar, har, haself⟩ := hhd
  have hCC : NdefX.CellsAt [("__class__", cc)] ["__class__"] [none] s.heap H := by
    refine ⟨rfl, fun y c e => ?_, fun x y c e1 e2 => ?_, fun i y e => ?_⟩
    · have hy : c = cc ∧ y = "__class__" := by
        unfold List.lookup at e
        split at e
        · rename_i hb; cases e; exact ⟨rfl, by simpa using hb⟩
        · cases e
      obtain ⟨rfl, rfl⟩ := hy
      have q := (e0.bs _ _ (e0.mod.kin _ _ hcell))
      exact ⟨q.2, _, ⟨_, q.1, rfl⟩⟩
    · have q : ∀ {z : Str}, List.lookup z [(("__class__" : Str), cc)] = some c → z = "__class__" := fun {z} e => by
        unfold List.lookup at e
        split at e
        · rename_i hb; simpa using hb
        · cases e
      rw [q e1, q e2]
    · cases i with
      | zero => simp at e; subst e; exact ⟨cc, by simp, fun v q => by simp at q⟩
      | succ i => simp at e
  refine codeAny_call_function hr.depth hfun rfl S.co S.gen rfl (PySem.W.codeRec_of KX hcd) (hbd _ _ _ _ ?_)
  refine wpAny_newFunctionEnv S.nocell (fun ⟨n, _⟩ hy => S.par n (List.of_mem_zip hy).1) (fun h₁ hns hsb => ⟨lim.fresh _ hsb, ?_⟩) S.kind
  show codeAny _ _ (.func body (NdefX.envF (supNF qual params body scope cc c) f s.heap.objs.size)) _ _
  refine PySem.ks_codeAny_funcAt ?_
  have kp1 : ∀ b o, s.heap.get? b = some o → h₁.get? b = some o := fun b o z => by
    refine hsb.extBut b o ?_ (Heap.get?_push_of_some _ z)
    exact Nat.ne_of_lt (Heap.lt_size z)
  have I : Inv (NdefX.ncx CX0 P w K mg base ["self", pa, "__class__"] (supNF qual params body scope cc c) f A outer s H E) [] (NdefX.startF ["self", pa, "__class__"] [.ref a, v] [none]) H
      { s with heap := h₁, toks := s.toks + ((["self", pa] : List Str).zip us).length } := NdefX.inv_startN S hr.hd e0 rfl r hCC hns kp1
  cases r with
  | @cons _ u0 _ ur ra rw' =>
    have hu0 : u0 = Value.ref a := ra
    subst hu0
    cases rw' with
    | @cons _ u1 _ ur rv rn =>
      cases rn
      have ndP : (["self", pa] : List Str).Nodup := by
        have q := S.nd.sublist (List.take_sublist 2 _)
        exact q
      have hself : (((["self", pa] : List Str).zip [Value.ref a, u1]).reverse.lookup ("self" : Str)) = some (.ref a) := NdefX.zip_look (i := 0) ndP rfl rfl
      obtain ⟨m, hJ⟩ := hmsg A outer s H E d hG
      have fin : ∀ {σ' : L2.St} {H' : Hp} {v : V} {u : Value} {s' : Shared}, Inv (NdefX.ncx CX0 P w K mg base ["self", pa, "__class__"] (supNF qual params body scope cc c) f A outer s H E) [] σ' H' s' → RelV v u → Q v H' → CE outer P w H s Q u s' :=
        fun {σ' H' v u s'} J rv q => ⟨v, H', J.os, J.bare, J.base, J.hok, rv, q⟩
      subst hbody
      refine PySem.ks_wpAt_mono (sup_body (D := { nx := fun _ H' => Q .non H', rt := Q }) (m := m) SK I rfl rfl hns hself lk har haself ha S.kind rfl rfl (by simp [NdefX.ncx, PySem.W.envX]) hks hkc (S.par _ (by simp)) rfl rfl (Or.inl (S.par _ (by simp))) (Or.inl (S.par _ (by simp))) hpa
        (fun Q' k => (ja_cons hJ ja_nil (hstar _)).run (fun _ => none) _ H (fun b o z => by cases z) ⟨rfl, fun i dd z => ?_⟩ Q' fun vs W' H' st rr => ?_) hno (hev _) (hstar _) (hsw _) hq) (fun fl s' hs => ?_) (fun e s' hs => hs)
      · match i, z with
        | 1, z => cases z; exact ⟨v, rfl, hrep⟩
        | 0, z => cases z
        | 2, z => cases z
      · cases rr with
        | cons r1 r2 => cases r1; cases r2; exact k H' st.hh
      · cases fl with
        | ret u =>
          obtain ⟨v9, σ9, H9, J9, rv9, q9⟩ := hs
          exact fin J9 rv9 q9
        | next =>
          obtain ⟨σ9, H9, J9, q9⟩ := hs
          exact fin (u := Value.none) (v := V.non) J9 rfl q9
        | brk =>
          obtain ⟨_, _, _, q⟩ := hs
          exact False.elim q
        | cont =>
          obtain ⟨_, _, _, q⟩ := hs
          exact False.elim q
end
end Pf

/-! several except clauses, with and without a name -/
namespace Pf
open PySem L2 PySem.Spec PyProof.Rows
open Evl (Ex)

abbrev HdT := Value × Option Nat × (Addr → Value → Option Addr → TS)
/-- behind a suite whose name is gone -/
def unI (D : Ends) (i : Nat) : Ends := { nx := fun σ' H' => D.nx (σ'.set i none) H', rt := D.rt, bk := fun σ' H' => D.bk (σ'.set i none) H', ct := fun σ' H' => D.ct (σ'.set i none) H' }
def wMx (K : PySem.W.Frag) (Wo : L2.WX) (D : Ends) : List HdT → L2.WX
  | [] => Wo
  | (c, none, ts) :: r => fun cls d σ H => ∃ b, PySem.W.exmOne K cls c = some b ∧ (b = true → ∀ a, H a = none → ts a cls d D σ H) ∧ (b = false → wMx K Wo D r cls d σ H)
  | (c, some i, ts) :: r => fun cls d σ H => ∃ b, PySem.W.exmOne K cls c = some b ∧ (b = true → ∀ a, H a = none → ts a cls d (unI D i) (σ.set i (some (.ref a))) H) ∧ (b = false → wMx K Wo D r cls d σ H)
def SuiteOk (X : Cx) (st : List Stmt) (ts : Addr → Value → Option Addr → TS) : Prop := ∀ (a : Addr) (oe : Obj) (cls : Value) (d : Option Addr) (pn : List (Addr × Obj)), Zc cls d oe → (∃ vs, oe.data = .fields vs) → PSs (X.suite a ((a, oe) :: pn)) st (ts a cls d)
inductive HdM (X : Cx) : List ExceptHandler → List HdT → Prop
  | nil : HdM X [] []
  | plain {x : Str} {c : Value} {ts : Addr → Value → Option Addr → TS} {b₀ : Stmt} {suite : List Stmt} {np pos' : Pos} {hds : List ExceptHandler} {l : List HdT} : Names X x c → SuiteOk X (b₀ :: suite) ts → HdM X hds l → HdM X (.ExceptHandler (some (.Name x np)) none (b₀ :: suite) pos' :: hds) ((c, none, ts) :: l)
  | named {x n : Str} {i : Nat} {c : Value} {ts : Addr → Value → Option Addr → TS} {b₀ : Stmt} {suite : List Stmt} {np pos' : Pos} {hds : List ExceptHandler} {l : List HdT} : Names X x c → X.N[i]? = some n → X.env.kindOf n = some .local → SuiteOk X (b₀ :: suite) ts → HdM X hds l →
      HdM X (.ExceptHandler (some (.Name x np)) (some n) (b₀ :: suite) pos' :: hds) ((c, some i, ts) :: l)

section
variable {X : Cx} {body : List Stmt} {h₀ : ExceptHandler} {hds : List ExceptHandler} {l : List HdT} {pos : Pos} {tb : L2.WX → TS} {Wo : L2.WX}
theorem ps_try_mx (hst : X.stack = X.env :: X.outer) (hfr0 : X.env.frame = some X.env.locals) (hN : X.N.Nodup) (tk : L2.Takes X Wo)
    (hb : ∀ (W : L2.WX) (pn : List (Addr × Obj)) (xe : Value → Shared → Prop), L2.Takes (X.tr pn xe) W → PassesOwn (model X.prog X.w) X.A X.env xe → PSs (X.tr pn xe) body (tb W)) (hh : HdM X (h₀ :: hds) l) :
    PS X (.Try body (h₀ :: hds) [] [] pos) (fun D σ H => tb (wMx X.K Wo D l) D σ H) := by
  refine ⟨fun pins s σ H D I hyp => wpAny_Try_except ?_⟩
  have okX := I.ok
  have fra : X.A.frames = some (X.env :: X.outer) := by rw [okX.frames, hst]
  refine wpAny_mono ((hb (wMx X.K Wo D l) (X.pn ++ pins) (fun er t1 => wpAny (model X.prog X.w) X.A (noteFrame er X.env) (fun _ t2 => wpAny (model X.prog X.w) X.A (setFlight er none) (fun _ t3 =>
    wpAny (model X.prog X.w) X.A (handleBy er X.env (h₀ :: hds)) (SP X pins D) X.xe t3) X.xe t2) X.xe t1) (fun u s' air => ?_) PassesOwn.looking).run [] s σ H D (I.toTry _) hyp) (fun fl t1 hsp => ?_) (fun er t1 z => z)
  · obtain ⟨a, B, sI, pn', σ', H', cls, d, rfl, J0, nb, up, sky, na, osq, bare, wsh⟩ := air
    have Jv : Inv X pins σ' H' sI := J0.ofTry okX
    have skyX : Sky B (X.env :: X.outer) a (Zc cls d) X.env.locals s'.heap := hst ▸ sky
    change wpAny (model X.prog X.w) X.A (noteFrame (.ref a) X.env) _ _ _
    refine Sky.land Zc.steady fra hfr0 skyX fun hp3 fly3 up3 => ?_
    have Jv3 : Inv X pins σ' H' { s' with heap := hp3 } := Jv.landed nb fly3.1 (up.trans up3) osq bare
    obtain ⟨ob3, fv3, at3, zc3, da3⟩ := fly3.there
    have nofr : a ∉ frs (X.env :: X.outer) := fun hm => by
      obtain ⟨_, o', e', hnf⟩ := fly3.2.2.1.mem hm
      rw [at3] at e'; cases e'
      exact hnf _ da3
    have nLoc : a ≠ X.env.locals := fun z => nofr (List.mem_filterMap.mpr ⟨X.env, List.mem_cons_self, z ▸ hfr0⟩)
    have nFs : a ∉ X.fs := fun hm => by
      obtain ⟨ev, hev, q⟩ := List.mem_filterMap.mp hm
      exact nofr (List.mem_filterMap.mpr ⟨ev, List.mem_cons_of_mem _ hev, q⟩)
    have Su3 := Jv3.suite at3 da3 na nLoc nFs
    have isA : PySem.W.Looks (model X.prog X.w) hp3 (typeOf (.ref a)) cls := fun A' Q' E' t' kk qq => wpAny_typeOf_ref (kk _ _ at3) (zc3.1.symm ▸ qq)
    have named : ∀ {x : Str} {np : Pos} {c : Value} {Q' : Value → Shared → Prop} {E' : Value → Shared → Prop}, Names X x c → Q' c { s' with heap := hp3 } → wpAny (model X.prog X.w) (X.A.mark (some (.ref a))) (eval (.Name x np) X.env) Q' E' { s' with heap := hp3 } := fun hc qq => by
      obtain ⟨c1, c2, c3 | ⟨c3, c4, c5⟩⟩ := hc
      · exact ld_glob (X := X.suite a ((a, ob3) :: (X.pn ++ pins))) Su3 c1 c3 qq c2
      · exact ld_blt (X := X.suite a ((a, ob3) :: (X.pn ++ pins))) Su3 c1 c3 c4 qq c5 c2
    have all : ∀ {hs' : List ExceptHandler} {l' : List HdT}, HdM X hs' l' → wMx X.K Wo D l' cls d σ' H' → wpAny (model X.prog X.w) X.A (handleBy (.ref a) X.env hs') (SP X pins D) X.xe { s' with heap := hp3 } := by
      intro hs' l' hk
      induction hk with
      | nil =>
        intro wo
        refine wpAny_handleBy_nil ?_
        obtain ⟨_, _, _, oe, vs, T, oT, ts', g1, g2, g3, g4, g5⟩ := id fly3
        unfold PySem.passOn
        refine wpAny_bind (wpAny_field g1 g3 g4 ?_)
        rw [if_neg (show ¬ ((Value.ref T == Value.none) = true) from fun z => by simp at z)]
        have again : wpAny (model X.prog X.w) X.A (setFlight (.ref a) X.env.frame) (fun _ t4 => wpAny (model X.prog X.w) X.A (throw (.ref a) : Sem Flow) (SP X pins D) X.xe t4) X.xe { s' with heap := hp3 } := by
          rw [hfr0]
          refine HandSPX.setFlight_upZ fly3 fun hp4 held up4 => wpAny_throw (tk _ _ ⟨a, B, sI, pins, σ', H', cls, d, rfl, Jv, nb, (up.trans up3).trans up4, .inr (.inr (by rw [hst]; exact held)), na, osq, bare, wo⟩)
        first | exact wpAny_bind (wpAny_pure (wpAny_bind again)) | exact wpAny_bind again
      | @plain x c ts b₀ suite np pos' hds2 l2 hc hsu r ih =>
        intro wo
        obtain ⟨b, hb1, hyes, hnot⟩ := wo
        refine wpAny_handleBy_cons (codeAny_handlers_test (named hc ((PySem.W.exm_one (M := model X.prog X.w) Jv3.kIn isA hb1).here ?_))) (by intro q; cases q)
        cases b with
        | false => exact ih (hnot rfl)
        | true =>
          refine codeAny_handlers_suite (HandSPX.lands_againZ fly3 fun hp4 fly4 up4 => ?_)
          have Jv4 : Inv X pins σ' H' { s' with heap := hp4 } := Jv.landed nb fly4.1 ((up.trans up3).trans up4) osq bare
          obtain ⟨ob4, fv4, at4, zc4, da4⟩ := fly4.there
          have Su4 := Jv4.suite at4 da4 na nLoc nFs
          refine wpAny_mono ((hsu a ob4 cls d (X.pn ++ pins) zc4 ⟨_, da4⟩).run [] _ _ H' _ Su4 (hyes rfl a na)) (fun fl t6 hsp => ?_) (fun _ _ z => False.elim z)
          cases fl with
          | next => obtain ⟨σ6, H6, Su6, q6⟩ := hsp; exact ⟨_, _, Su6.unsuite okX, q6⟩
          | brk => obtain ⟨σ6, H6, Su6, q6⟩ := hsp; exact ⟨_, _, Su6.unsuite okX, q6⟩
          | cont => obtain ⟨σ6, H6, Su6, q6⟩ := hsp; exact ⟨_, _, Su6.unsuite okX, q6⟩
          | ret u => obtain ⟨v6, σ6, H6, Su6, r6, q6⟩ := hsp; exact ⟨_, _, _, Su6.unsuite okX, r6, q6⟩
      | @named x n i c ts b₀ suite np pos' hds2 l2 hc hi hln hsu r ih =>
        intro wo
        obtain ⟨b, hb1, hyes, hnot⟩ := wo
        refine wpAny_handleBy_cons (codeAny_handlers_test (named hc ((PySem.W.exm_one (M := model X.prog X.w) Jv3.kIn isA hb1).here ?_))) (by intro q; cases q)
        cases b with
        | false => exact ih (hnot rfl)
        | true =>
          refine codeAny_handlers_suite_as (HandSPX.lands_againZ fly3 fun hp4 fly4 up4 => ?_)
          have Jv4 : Inv X pins σ' H' { s' with heap := hp4 } := Jv.landed nb fly4.1 ((up.trans up3).trans up4) osq bare
          obtain ⟨ob4, fv4, at4, zc4, da4⟩ := fly4.there
          have Su4 := Jv4.suite at4 da4 na nLoc nFs
          refine store_ok (X := X.suite a ((a, ob4) :: (X.pn ++ pins))) (v := .ref a) Su4 hN hi (.inl hln) rfl (fun t5 Su5 => ?_) (.inr hln)
          refine wpAny_mono ((hsu a ob4 cls d (X.pn ++ pins) zc4 ⟨_, da4⟩).run [] t5 _ H' _ Su5 (hyes rfl a na)) (fun fl t6 hsp => ?_) (fun _ _ z => False.elim z)
          have fini : ∀ {σ6 : L2.St} {H6 : Hp} {Q' : Shared → Prop}, Inv (X.suite a ((a, ob4) :: (X.pn ++ pins))) [] σ6 H6 t6 → (∀ t7, Inv X pins (σ6.set i none) H6 t7 → Q' t7) →
              wpAny (model X.prog X.w) X.A (do bindName X.env n .none; unbindBehindTheSuite X.env n pos') (fun _ t7 => Q' t7) X.xe t6 := fun Su6 hq => gone_ok (Su6.unsuite okX) hN hi hln hq
          cases fl with
          | next => obtain ⟨σ6, H6, Su6, q6⟩ := hsp; exact fini Su6 fun t7 J7 => ⟨_, _, J7, q6⟩
          | brk => obtain ⟨σ6, H6, Su6, q6⟩ := hsp; exact fini Su6 fun t7 J7 => ⟨_, _, J7, q6⟩
          | cont => obtain ⟨σ6, H6, Su6, q6⟩ := hsp; exact fini Su6 fun t7 J7 => ⟨_, _, J7, q6⟩
          | ret u => obtain ⟨v6, σ6, H6, Su6, r6, q6⟩ := hsp; exact fini Su6 fun t7 J7 => ⟨_, _, _, J7, r6, q6⟩
    exact all hh wsh
  · cases fl with
    | next => obtain ⟨σ', H', Jx, q⟩ := hsp; exact wpAny_execs_nil ⟨σ', H', Jx.ofTry okX, q⟩
    | brk => obtain ⟨σ', H', Jx, q⟩ := hsp; exact ⟨σ', H', Jx.ofTry okX, q⟩
    | cont => obtain ⟨σ', H', Jx, q⟩ := hsp; exact ⟨σ', H', Jx.ofTry okX, q⟩
    | ret u => obtain ⟨v, σ', H', Jx, r, q⟩ := hsp; exact ⟨v, σ', H', Jx.ofTry okX, r, q⟩
end
end Pf

/-! errors in the judgements: raise, calls that may raise, try -/
namespace Pf
open PySem L2 PySem.Spec PyProof.Rows
open Evl (Ex)

/-- every wish that X takes, at once -/
def Wall (X : Cx) : L2.WX := fun cls d σ H => ∃ Wx : L2.WX, L2.Takes X Wx ∧ Wx cls d σ H
theorem takes_all {X : Cx} : L2.Takes X (Wall X) := fun u s' ⟨a, B, sI, pins, σ, H, cls, d, e, I, nb, up, sky, na, os, ag, Wx, tk, w⟩ => tk u s' ⟨a, B, sI, pins, σ, H, cls, d, e, I, nb, up, sky, na, os, ag, w⟩
/-- what is done where an error er leaves, made behind H -/
def GoodX (K : PySem.W.Frag) (H : Hp) (er : Er) (E : XK) : Prop := ∀ d H', Ex H H' → ErAt K H' er d → (∀ dd, d = some dd → H dd = none) → E er.cls d H'
theorem GoodX.step {K : PySem.W.Frag} {H H1 : Hp} {er : Er} {E : XK} (g : GoodX K H er E) (e : Ex H H1) : GoodX K H1 er E := fun d H' e1 at' fr => g d H' (e.trans e1) at' fun dd q => by
  cases z : H dd with
  | none => rfl
  | some o => have := e _ _ z; rw [fr dd q] at this; cases this
/-- a def that may raise: what it hands back, what leaves it -/
def spE (K : PySem.W.Frag) (n : Nat) (G : List D → (D → Prop) → (Er → Prop) → Prop) : Sp := fun vs H Q E => vs.length = n ∧ ∃ W ds P R, Ex W H ∧ RepAll K W ds vs ∧ G ds P R ∧ (∀ d, P d → GoodE K W H d Q) ∧ ∀ er, R er → GoodX K H er E
structure EFn (P : Program) (w : World) (K : PySem.W.Frag) (mg : Str → Option Value) (base : Heap) (k : Nat) (x : Str) (n : Nat) (G : List D → (D → Prop) → (Er → Prop) → Prop) : Prop where
  ex : ∃ f fd ps, FnOk P w K mg base (L2.CX P w) k f fd ps (spE K n G) ∧ mg x = some (.ref f) ∧ PySem.W.keepIn K (.ref f) = true ∧ Binds K fd ps []
def finE (Pd : D → Prop) (R : Er → Prop) : Out → Prop
  | .rt d _ => Pd d
  | .nx _ => Pd .non
  | .ex er _ => R er
  | _ => False
section
variable {P : Program} {w : World} {K : PySem.W.Frag} {mg : Str → Option Value} {base : Heap} {x qual : Str} {st : Stmt} {f : Addr} {fd : FuncData} {N ps : List Str} {k : Nat} {G : List D → (D → Prop) → (Er → Prop) → Prop}
theorem fn_err (F : Fun K x qual st f fd) (S : FnScope N ps (defScope st)) (hG : ∀ ds Pd R, G ds Pd R → ds.length = ps.length)
    (body : ∀ (cdv : Value) (A : Around) (outer : List Env) (s : Shared) (H : Hp) (E : XK) (ds : List D) (Pd : D → Prop) (R : Er → Prop), Room k (A.deeper (envOfC qual (defScope st) s.heap.objs.size f cdv)) → G ds Pd R →
      PassesOwn (model P w) (cxOf (L2.CX P w) P w K mg base N qual (defScope st) f cdv A outer s H E).A (cxOf (L2.CX P w) P w K mg base N qual (defScope st) f cdv A outer s H E).env (cxOf (L2.CX P w) P w K mg base N qual (defScope st) f cdv A outer s H E).xe →
      JSs (cxOf (L2.CX P w) P w K mg base N qual (defScope st) f cdv A outer s H E) [] (defBody st) (startR N ds) (finE Pd R)) : FnOk P w K mg base (L2.CX P w) (k + 1) f fd ps (spE K ps.length G) := by
  refine F.okX S (fun vs H Q E h => h.1) fun cdv A outer s H vs Q E hr h => ?_
  obtain ⟨_, W, ds, Pd, R, ex, r, hg, q, qe⟩ := h
  refine ⟨_, pss_w, ?_⟩
  refine body cdv A outer s H E ds Pd R hr hg (passes_of rfl) ⟨W, H, fun _ => False, fun _ => none⟩ (L2.start N vs) H _ (fun i => ⟨fun z => absurd rfl z, fun z => absurd z (by simp)⟩) ⟨W, _, start_ok ex r⟩ fun o ho => ?_
  cases o with
  | nx ρ => exact fun σ' H' ⟨Hf, A', s'⟩ => q _ ho .non Hf H' ⟨s'.w0, s'.fh, fun b o h => s'.hh b o h (fun z => z), s'.fr⟩ .non
  | rt d ρ => exact fun v H' ⟨σ', Hf, A', W', s', h1, h2, h3, _, h5⟩ => q _ ho v W' H' ⟨s'.w0.trans h1, h2, fun b o h => s'.hh b o h (fun z => z), h3⟩ h5
  | bk ρ => exact ho.elim
  | ct ρ => exact ho.elim
  | ex er ρ => exact ⟨fun cls d _ H => E cls d H, takes_of rfl rfl rfl rfl, fun d σ H1 H' ⟨Hf, A', s'⟩ e1 at' fr => qe er ho d H' ((fun b o h => e1 _ _ (s'.hh b o h (fun z => z)) : Ex H H')) at' fun dd z => s'.kp dd (fr dd z)⟩
end

/-! ### expressions that may raise, as a whole statement's -/
structure JX (X : Cx) (e : Expr) (ρ : Rho) (P : D → Prop) (R : Er → Prop) : Prop where
  run : ∀ W σ H, Ex W H → Vis X.K ρ W σ → ∀ Q : VK, (∀ d, P d → GoodE X.K W H d Q) → (∀ er, R er → GoodX X.K H er fun cls d H' => Wall X cls d σ H') → wE X e σ H Q
section
variable {X : Cx} {pin : List Nat} {ρ : RhoS} {Φ : Out → Prop} {e : Expr} {es : List Expr} {ds : List D} {pos p p' : Pos} {i k j n : Nat} {x : Str} {P : D → Prop} {R : Er → Prop} {G : List D → (D → Prop) → (Er → Prop) → Prop}
theorem jx_call {ρ : Rho} (c : EFn X.prog X.w X.K X.mg X.base k x n G) (hr : Room j X.A) (ha : JA X (e :: es) ρ ds) (hG : G ds P R) (hk : k ≤ j := by decide) (hn : ds.length = n := by rfl) (hg : Gl X x := by rfl) (hdb : (x == ("__debug__" : Str)) = false := by decide)
    (he : starEach (e :: es) X.env = (false, eval e X.env) :: starEach es X.env := by rfl) (hpl : (backTo pos (starEach es X.env)).any (·.1) = false := by rfl) : JX X (.Call (.Name x p) (e :: es) [] pos) ρ P R := ⟨fun W σ H ex hV Q g gx => by
  obtain ⟨f, fd, ps, F, hm, hkp, hb⟩ := c.ex
  refine .of (pe_callS (E := fun σ => WE (Wall X) σ) (F.mono hk) (hr) hg hm hkp hb (fun σ => passAt takes_all σ) pa_w hdb he hpl) (ha W σ H ex hV _ fun vs W1 H1 s1 r1 => ?_)
  exact ⟨by rw [← r1.length]; exact hn, W1, ds, P, R, s1.wh, r1, hG, fun d' hd => (g d' hd).step s1, fun er hR => (gx er hR).step s1.hh⟩⟩
theorem jx_of {ρ : Rho} (h : JP X e ρ P) : JX X e ρ P R := ⟨fun W σ H ex hV Q g _ => h.run W σ H ex hV Q g⟩
theorem ExOk.good {E : Ent} {ρ : RhoS} {er : Er} (h : ExOk X E er ρ) {σ : L2.St} {H : Hp} (s : StOk X.K E ρ σ H) : GoodX X.K H er fun cls d H' => Wall X cls d σ H' := fun d H' ex at' fr => by
  obtain ⟨Wx, tk, q⟩ := h
  exact ⟨Wx, tk, q d σ H H' s ex at' fr⟩
theorem js_setX (h : JX X e (fzR ρ) P R) (hk : ∀ d, P d → Φ (.nx (ρ.set i (some (.fz d))))) (he : ∀ er, R er → Φ (.ex er ρ)) (hN : X.N.Nodup) (hi : X.N[i]? = some x := by rfl) (hx : Loc X.env.scope x := by first | exact Or.inl rfl | exact Or.inr rfl) (hp : i ∉ pin := by decide) (hs : swapsWith e (some (.Name x p')) pos.line X.env = pure false := by rfl)
    (hf : X.fn x = true ∨ X.env.scope.names.lookup x = some .local := by first | exact .inl rfl | exact .inr rfl) : JS X pin (.Assign [.Name x p'] e pos) ρ Φ := ⟨fun E σ H D hpn ⟨Hf, A, s⟩ k =>
  .of (ps_set hN hi hx pe_w hs hf) (h.run Hf σ H s.fh s.vis _ (fun d hd v W' H' st r => k _ (hk d hd) _ H' ⟨W', _, (s.step st).setFz r (hpn.none hp)⟩) fun er hR => (show ExOk X E er ρ from k _ (he er hR)).good ⟨Hf, A, s⟩)⟩
theorem js_exX (h : JX X e (allR ρ) P R) (hk : ∀ d, P d → Φ (.nx ρ)) (he : ∀ er, R er → Φ (.ex er ρ)) (hs : swapsWith e none pos.line X.env = pure false := by rfl) : JS X pin (.Expr e pos) ρ Φ := ⟨fun E σ H D hpn ⟨Hf, A, s⟩ k =>
  .of (ps_expr pe_w hs) (h.run H σ H (.refl _) s.visH _ (fun d hd v W' H' st r => k _ (hk d hd) σ H' ⟨Hf, A, s.grow st.hh⟩) fun er hR => (show ExOk X E er ρ from k _ (he er hR)).good ⟨Hf, A, s⟩)⟩
theorem js_retXR (h : JX X e (retR pin ρ) P R) (hk : ∀ d, P d → Φ (.rt d ρ)) (he : ∀ er, R er → Φ (.ex er ρ)) : JS X pin (.Return (some e) pos) ρ Φ := ⟨fun E σ H D hp ⟨Hf, A, s⟩ k =>
  .of (ps_ret pe_w) (h.run (retW E Hf H A) σ H s.retH (s.visR hp) _ (fun d hd v W' H' st r => k _ (hk d hd) v H' ⟨σ, Hf, A, W', s.grow st.hh, s.retHf.trans st.ww, st.wh, fun b h1 h2 => by
      by_cases q : retW E Hf H A b = none
      · exact s.kp b (st.fr b h1 q)
      · by_cases hn : ∃ i, b ∈ A i ∧ E.pa i ≠ none
        · exact absurd (retW_arg hn) q
        · by_cases z : E.H0 b = none
          · exact z
          · rw [retW_old hn z] at q; exact s.fr b q h2, fun i a ha hpa => by
      cases q : W' a with
      | none => rfl
      | some o => exact absurd (st.fr a (by rw [q]; simp) (retW_arg ⟨i, ha, hpa⟩)) (s.ap i a ha).2.1, r⟩) fun er hR => (show ExOk X E er ρ from k _ (he er hR)).good ⟨Hf, A, s⟩)⟩
theorem js_retX (h : JX X e (allR ρ) P R) (hk : ∀ d, P d → Φ (.rt d ρ)) (he : ∀ er, R er → Φ (.ex er ρ)) : JS X [] (.Return (some e) pos) ρ Φ := js_retXR (by rw [retR_nil]; exact h) hk he
end

/-! ### raise -/
def wMk (X : Cx) (e : Expr) : L2.St → Hp → XK → Prop := fun σ H Q => ∀ pins s, Inv X pins σ H s → wpAny (model X.prog X.w) X.A (eval e X.env) (MkP X pins σ Q) X.xe s
theorem pmk_w {X : Cx} {e : Expr} : PMk X e (wMk X e) := fun pins s σ H Q I h => h pins s I
structure JMk (X : Cx) (e : Expr) (ρ : Rho) (er : Er) : Prop where
  run : ∀ W σ H, Ex W H → Vis X.K ρ W σ → ∀ Q : XK, GoodX X.K H er Q → wMk X e σ H Q
section
variable {X : Cx} {pin : List Nat} {ρ : RhoS} {Φ : Out → Prop} {e : Expr} {es : List Expr} {ds : List D} {pos p p' : Pos} {i k j n : Nat} {x : Str} {er : Er}
theorem js_raise (h : JMk X e (allR ρ) er) (hk : Φ (.ex er ρ)) (hc : X.calm = true := by rfl) : JS X pin (.Raise (some e) none pos) ρ Φ := ⟨fun E σ H D hpn ⟨Hf, A, s⟩ k =>
  .of (ps_raise hc takes_all pmk_w) (h.run H σ H (.refl _) s.visH _ ((show ExOk X E er ρ from k _ hk).good ⟨Hf, A, s⟩))⟩
/-- a class without own __init__ -/
structure OwnErr (K : PySem.W.Frag) (mg : Str → Option Value) (x : Str) (C : Addr) : Prop where
  g : mg x = some (.ref C)
  q : ∃ bmB, ExcBaseFacts "ValueError" "ValueError.__new__" "ValueError.__init__" bmB ∧ PySem.W.excIn K C bmB "ValueError.__new__" = true
  kp : PySem.W.keepIn K (.ref C) = true
  sub : PySem.W.subIn K (.ref C) (.type "BaseException") = some true
  ty : PySem.W.typeIn K (.ref C) = some (.type "type")
theorem jmk_own {ρ : Rho} {C : Addr} (O : OwnErr X.K X.mg x C) (ha : JA X (e :: es) ρ ds) (hl : ds.length ≤ sizeLine := by (simp only [List.length_cons, List.length_nil]; decide)) (hg : Gl X x := by rfl) (hdb : (x == ("__debug__" : Str)) = false := by decide)
    (he : starEach (e :: es) X.env = (false, eval e X.env) :: starEach es X.env := by rfl) (hpl : (backTo pos (starEach es X.env)).any (·.1) = false := by rfl) : JMk X (.Call (.Name x p) (e :: es) [] pos) ρ ⟨.ref C, none⟩ := ⟨fun W σ H ex hV Q g pins s I => by
  obtain ⟨bmB, F, q⟩ := O.q
  refine pmk_ownA F q O.g O.kp (raises_own O.sub O.ty) hg pa_w hdb he hpl pins s σ H Q I (ha W σ H ex hV _ fun vs W1 H1 s1 r1 => ⟨by rw [← r1.length]; exact hl, g none H1 s1.hh rfl fun dd z => by cases z⟩)⟩
/-- a class with its own __init__ that says super().__init__(..) -/
structure SupErr (P : Program) (w : World) (K : PySem.W.Frag) (mg : Str → Option Value) (base : Heap) (k : Nat) (x : Str) (C : Addr) (fld : Str) (G : D → Prop) : Prop where
  g : mg x = some (.ref C)
  T : OexC K C
  ex : ∃ fI fd pa, PySem.W.findIn K (.ref C) "__init__" = some (some (.ref fI)) ∧ PySem.W.typeIn K (.ref fI) = some (.type "function") ∧ FnOk P w K mg base CX0 k fI fd ["self", pa] (spSup K C fld G) ∧ Binds K fd ["self", pa] []
theorem jmk_sup {ρ : Rho} {C : Addr} {fld : Str} {G : D → Prop} {d : D} (c : SupErr X.prog X.w X.K X.mg X.base k x C fld G) (hr : Room j X.A) (ha : JA X [e] ρ [d]) (hG : G d) (hd : flatD d = true) (hk : k + 1 ≤ j := by decide) (hg : Gl X x := by rfl) (hdb : (x == ("__debug__" : Str)) = false := by decide)
    (he : starEach [e] X.env = (false, eval e X.env) :: starEach [] X.env := by rfl) (hpl : (backTo pos (starEach [] X.env)).any (·.1) = false := by rfl) : JMk X (.Call (.Name x p) [e] [] pos) ρ ⟨.ref C, some [(fld, d)]⟩ := ⟨fun W σ H ex hV Q g pins s I => by
  obtain ⟨fI, fd, pa, h1, h2, F, hb⟩ := c.ex
  refine pmk_oex (ds := []) (dvs := []) c.T h1 h2 F (hr.mono hk) hb .nil pass0 hg c.g pa_w hdb he hpl pins s σ H Q I (ha W σ H ex hV _ fun vs W1 H1 s1 r1 => ?_)
  cases r1 with
  | @cons _ v _ _ r t =>
    cases t
    refine ⟨by show 1 ≤ 1000; decide, fun a na => ⟨a, v, d, rfl, hG, r.any hd, upd_same, fun H2 dx e2 n1 n2 => ⟨rfl, dx, [(fld, v)], upd_same, ?_, ?_, ?_⟩⟩⟩
    · rw [upd_ne n2]; exact upd_same
    · cases z : H1 dx with
      | none => rfl
      | some o =>
        by_cases q : dx = a
        · exact absurd q n2
        · have := e2 dx o (by rw [upd_ne q]; exact z)
          rw [n1] at this; cases this
    · have eH : Ex H1 (upd (del (upd (upd H2 dx (exd dx [(fld, v)])) a (exo a C (some dx))) a) dx (.xd [(fld, v)])) := fun b o z => by
        have hba : b ≠ a := fun q => by rw [q, na] at z; cases z
        have h2 : H2 b = some o := e2 b o (by rw [upd_ne hba]; exact z)
        have hbd : b ≠ dx := fun q => by rw [q, n1] at h2; cases h2
        rw [upd_ne hbd]
        show (if b = a then none else _) = _
        rw [if_neg hba, upd_ne hba, upd_ne hbd]
        exact h2
      refine g (some dx) _ (s1.hh.trans eH) ⟨dx, _, rfl, upd_same, rfl, .cons (r.any hd) .nil⟩ fun dd z => ?_
      cases z
      cases q : H dx with
      | none => rfl
      | some o =>
        have w1 := s1.hh _ _ q
        have hba : dx ≠ a := n2
        have := e2 dx o (by rw [upd_ne hba]; exact w1)
        rw [n1] at this; cases this⟩
end

/-! ### try -/
/-- an except clause: its class, the slot of its name, its suite -/
structure Hd where
  c : Value
  i : Option Nat
  st : List Stmt
inductive HdJ (X : Cx) : List ExceptHandler → List Hd → Prop
  | nil : HdJ X [] []
  | plain {x : Str} {c : Value} {b₀ : Stmt} {suite : List Stmt} {np pos' : Pos} {hds : List ExceptHandler} {l : List Hd} : Names X x c → HdJ X hds l → HdJ X (.ExceptHandler (some (.Name x np)) none (b₀ :: suite) pos' :: hds) (⟨c, none, b₀ :: suite⟩ :: l)
  | named {x n : Str} {i : Nat} {c : Value} {b₀ : Stmt} {suite : List Stmt} {np pos' : Pos} {hds : List ExceptHandler} {l : List Hd} : Names X x c → X.N[i]? = some n → X.env.kindOf n = some .local → HdJ X hds l →
      HdJ X (.ExceptHandler (some (.Name x np)) (some n) (b₀ :: suite) pos' :: hds) (⟨c, some i, b₀ :: suite⟩ :: l)
/-- nothing leaves a suite; its name is gone behind it -/
def noEx (Φ : Out → Prop) : Out → Prop
  | .ex _ _ => False
  | .nx ρ => Φ (.nx ρ)
  | .rt d ρ => Φ (.rt d ρ)
  | .bk ρ => Φ (.bk ρ)
  | .ct ρ => Φ (.ct ρ)
def goneI (i : Nat) (Φ : Out → Prop) : Out → Prop
  | .ex _ _ => False
  | .nx ρ => Φ (.nx (ρ.set i none))
  | .rt d ρ => Φ (.rt d ρ)
  | .bk ρ => Φ (.bk (ρ.set i none))
  | .ct ρ => Φ (.ct (ρ.set i none))
/-- the dict of a caught error: there where it has fields, none else -/
structure DOk (er : Er) (d : Option Addr) : Prop where
  has : er.fs.isSome = true → ∃ dd, d = some dd
  no : er.fs = none → d = none
instance {er : Er} {d : Option Addr} : CoeFun (DOk er d) (fun _ => er.fs.isSome = true → ∃ dd, d = some dd) := ⟨DOk.has⟩
/-- the clause that takes er, where the names are worth ρ -/
def catchJ (X : Cx) (pin : List Nat) (Φ : Out → Prop) : List Hd → Er → RhoS → Prop
  | [], er, ρ => Φ (.ex er ρ)
  | ⟨c, none, st⟩ :: r, er, ρ => ∃ b, PySem.W.exmOne X.K er.cls c = some b ∧ (b = true → ∀ (a : Addr) (oe : Obj) (d : Option Addr) (pn : List (Addr × Obj)), Zc er.cls d oe → (∃ vs, oe.data = .fields vs) → JSs (X.suite a ((a, oe) :: pn)) pin st ρ (noEx Φ)) ∧ (b = false → catchJ X pin Φ r er ρ)
  | ⟨c, some i, st⟩ :: r, er, ρ => ∃ b, PySem.W.exmOne X.K er.cls c = some b ∧ (b = true → i ∉ pin ∧ ∀ (a : Addr) (oe : Obj) (d : Option Addr) (pn : List (Addr × Obj)), Zc er.cls d oe → (∃ vs, oe.data = .fields vs) → DOk er d →
      JSs (X.suite a ((a, oe) :: pn)) pin st (ρ.set i (some (.fz (.exc a d (er.fs.getD []))))) (goneI i Φ)) ∧ (b = false → catchJ X pin Φ r er ρ)
def tryO (X : Cx) (pin : List Nat) (hs : List Hd) (Φ : Out → Prop) : Out → Prop
  | .ex er ρ => catchJ X pin Φ hs er ρ
  | .nx ρ => Φ (.nx ρ)
  | .rt d ρ => Φ (.rt d ρ)
  | .bk ρ => Φ (.bk ρ)
  | .ct ρ => Φ (.ct ρ)
def tsOf (X : Cx) (st : List Stmt) : Addr → Value → Option Addr → TS := fun a cls d D σ H => ∀ (oe : Obj) (pn : List (Addr × Obj)), Zc cls d oe → (∃ vs, oe.data = .fields vs) → wSs (X.suite a ((a, oe) :: pn)) st D σ H
theorem tsOf_ok {X : Cx} {st : List Stmt} : SuiteOk X st (tsOf X st) := fun a oe cls d pn hz hf => ⟨fun pins s σ H D I h => h oe pn hz hf pins s I⟩
def hdT (X : Cx) (h : Hd) : HdT := (h.c, h.i, tsOf X h.st)
theorem HdJ.m {X : Cx} : ∀ {hds : List ExceptHandler} {l : List Hd}, HdJ X hds l → HdM X hds (l.map (hdT X))
  | _, _, .nil => .nil
  | _, _, .plain hc r => .plain hc tsOf_ok r.m
  | _, _, .named hc hi hl r => .named hc hi hl tsOf_ok r.m
section
variable {K : PySem.W.Frag} {E : Ent} {ρ : RhoS} {σ : L2.St} {H Hf : Hp} {A : Nat → List Addr}
theorem StAt.unset (s : StAt K E ρ σ H Hf A) {i : Nat} (hp : E.pa i = none) : StAt K E (ρ.set i none) (σ.set i none) H Hf A where
  len := by rw [List.length_set, List.length_set]; exact s.len
  w0 := s.w0
  fh := s.fh
  fr := s.fr
  hh := s.hh
  kp := s.kp
  sl := fun j sv h => by
    by_cases hj : i = j
    · subst hj
      rw [List.getElem?_set] at h
      split at h
      · split at h <;> cases h
      · exact absurd rfl (by assumption)
    · rw [List.getElem?_set_ne hj] at h
      rw [List.getElem?_set_ne hj]
      exact s.sl j sv h
  ap := s.ap
  dj := s.dj
  pn := fun j a h => by
    by_cases hj : i = j
    · subst hj; rw [hp] at h; cases h
    · rw [List.getElem?_set_ne hj]; exact s.pn j a h
end
section
variable {X : Cx} {pin : List Nat} {ρ : RhoS} {Φ : Out → Prop} {body : List Stmt} {h₀ : ExceptHandler} {hds : List ExceptHandler} {l : List Hd} {pos : Pos}
theorem catch_ok {E : Ent} {D : Ends} (hp : E.Pins pin) (k : ∀ o, Φ o → OutOk X E D o) : ∀ {l : List Hd} {er : Er} {ρ : RhoS}, catchJ X pin Φ l er ρ → ∀ d σ H H', StOk X.K E ρ σ H → Ex H H' → ErAt X.K H' er d → (∀ dd, d = some dd → H dd = none) → wMx X.K (Wall X) D (l.map (hdT X)) er.cls d σ H'
  | [], er, ρ, h, d, σ, H, H', s, ex, at', fr => (show ExOk X E er ρ from k _ h).good s d H' ex at' fr
  | ⟨c, none, st⟩ :: r, er, ρ, h, d, σ, H, H', ⟨Hf, A, s⟩, ex, at', fr => by
    obtain ⟨b, h1, h2, h3⟩ := h
    refine ⟨b, h1, fun hb a na oe pn hz hf => ?_, fun hb => catch_ok hp k (h3 hb) d σ H H' ⟨Hf, A, s⟩ ex at' fr⟩
    refine (h2 hb a oe d pn hz hf).run E σ H' D hp ⟨Hf, A, s.grow ex⟩ fun o ho => ?_
    cases o with
    | ex er ρ => exact ho.elim
    | nx ρ => exact k _ ho
    | rt v ρ => exact k _ ho
    | bk ρ => exact k _ ho
    | ct ρ => exact k _ ho
  | ⟨c, some i, st⟩ :: r, er, ρ, h, d, σ, H, H', ⟨Hf, A, s⟩, ex, at', fr => by
    obtain ⟨b, h1, h2, h3⟩ := h
    refine ⟨b, h1, fun hb a na oe pn hz hf => ?_, fun hb => catch_ok hp k (h3 hb) d σ H H' ⟨Hf, A, s⟩ ex at' fr⟩
    obtain ⟨hi, h2⟩ := h2 hb
    have hpa := hp.none hi
    obtain ⟨W1, s1, hrep⟩ : ∃ W1, StAt X.K E ρ σ H' W1 A ∧ Rep X.K W1 (.exc a d (er.fs.getD [])) (.ref a) := by
      unfold ErAt at at'
      cases hfs : er.fs with
      | none =>
        rw [hfs] at at'
        exact ⟨Hf, s.grow ex, .exc (fs := []) (fun dd z => by rw [show d = none from at'] at z; cases z) rfl .nil⟩
      | some fds =>
        rw [hfs] at at'
        obtain ⟨dd, vs, rfl, hd, hk, hr⟩ := at'
        have hn := fr dd rfl
        refine ⟨fun b => if b = dd then some (.xd vs) else Hf b, s.step ⟨fun b o z => ?_, fun b o z => ?_, ex, fun b z1 z2 => ?_⟩, .exc (fs := vs) (fun d2 z => ?_) hk (hr.mono fun b o z => by cases z)⟩
        · by_cases hb : b = dd
          · rw [hb] at z; have := s.fh _ _ z; rw [hn] at this; cases this
          · show (if b = dd then _ else _) = _; rw [if_neg hb]; exact z
        · by_cases hb : b = dd
          · rw [hb] at z; rw [if_pos rfl] at z; cases z; rw [hb]; exact hd
          · rw [if_neg hb] at z; exact ex _ _ (s.fh _ _ z)
        · by_cases hb : b = dd
          · rw [hb]; exact hn
          · rw [if_neg hb] at z1; exact absurd z2 z1
        · cases z; show (if dd = dd then _ else _) = _; rw [if_pos rfl]
    refine (h2 a oe d pn hz hf ⟨fun z => ?_, fun z => ?_⟩).run E (σ.set i (some (.ref a))) H' (unI D i) hp ⟨W1, _, s1.setFz hrep hpa⟩ fun o ho => ?_
    · unfold ErAt at at'
      cases hfs : er.fs with
      | none => rw [hfs] at z; cases z
      | some fds => rw [hfs] at at'; obtain ⟨dd, _, q, _⟩ := at'; exact ⟨dd, q⟩
    · unfold ErAt at at'
      rw [z] at at'
      exact at'
    · cases o with
      | ex er ρ => exact ho.elim
      | nx ρ => exact fun σ' H2 ⟨Hf', A', s'⟩ => (show OutOk X E D (.nx (ρ.set i none)) from k _ ho) _ H2 ⟨Hf', A', s'.unset hpa⟩
      | rt v ρ => exact k _ ho
      | bk ρ => exact fun σ' H2 ⟨Hf', A', s'⟩ => (show OutOk X E D (.bk (ρ.set i none)) from k _ ho) _ H2 ⟨Hf', A', s'.unset hpa⟩
      | ct ρ => exact fun σ' H2 ⟨Hf', A', s'⟩ => (show OutOk X E D (.ct (ρ.set i none)) from k _ ho) _ H2 ⟨Hf', A', s'.unset hpa⟩
theorem js_try (hh : HdJ X (h₀ :: hds) l) (hb : ∀ (pn : List (Addr × Obj)) (xe : Value → Shared → Prop), PassesOwn (model X.prog X.w) X.A X.env xe → JSs (X.tr pn xe) pin body ρ (tryO X pin l Φ)) (hN : X.N.Nodup) (hst : X.stack = X.env :: X.outer := by rfl) (hfr : X.env.frame = some X.env.locals := by rfl) :
    JS X pin (.Try body (h₀ :: hds) [] [] pos) ρ Φ := ⟨fun E σ H D hp s k =>
  .of (ps_try_mx (tb := fun Wx D σ H => ∀ (pn : List (Addr × Obj)) (xe : Value → Shared → Prop), L2.Takes (X.tr pn xe) Wx → PassesOwn (model X.prog X.w) X.A X.env xe → wSs (X.tr pn xe) body D σ H) hst hfr hN takes_all
    (fun Wx pn xe tk ps => ⟨fun pins s σ H D I h => h pn xe tk ps pins s I⟩) hh.m) fun pn xe tk ps => (hb pn xe ps).run E σ H D hp s fun o ho => by
      cases o with
      | ex er ρ' => exact ⟨_, tk, fun d σ' H1 H' s' ex at' fr => catch_ok hp k (show catchJ X pin Φ l er ρ' from ho) d σ' H1 H' s' ex at' fr⟩
      | nx ρ' => exact k _ ho
      | rt v ρ' => exact k _ ho
      | bk ρ' => exact k _ ho
      | ct ρ' => exact k _ ho⟩
theorem look_rep {K : PySem.W.Frag} {W : Hp} {n : Str} {d : D} : ∀ {fds : List (Str × D)} {fs : List (Str × V)}, fds.lookup n = some d → fs.map (·.1) = fds.map (·.1) → RepAll K W (fds.map (·.2)) (fs.map (·.2)) → ∃ v, fs.lookup n = some v ∧ Rep K W d v
  | [], _, hd, _, _ => by cases hd
  | _ :: _, [], _, h2, _ => by cases h2
  | (qk, qv) :: t, (qk', qv') :: t', hd, h2, h3 => by
    simp only [List.map_cons, List.cons.injEq] at h2
    obtain ⟨rfl, h2⟩ := h2
    cases h3 with
    | cons r t3 =>
      by_cases hq : n = qk'
      · subst hq
        simp only [List.lookup, beq_self_eq_true] at hd ⊢
        cases hd
        exact ⟨_, rfl, r⟩
      · have hq' : (n == qk') = false := by simpa using hq
        simp only [List.lookup, hq'] at hd ⊢
        exact look_rep hd h2 t3
/-- an attribute of the error that a clause has caught -/
theorem j_excA {a C dd : Addr} {oe : Obj} {pn : List (Addr × Obj)} {e : Expr} {ρ : Rho} {fds : List (Str × D)} {d : D} {n : Str} (T : XfC X.K C) (hno : PySem.W.findIn X.K (.ref C) n = some none) (hz : Zc (.ref C) (some dd) oe) (hf : ∃ vs, oe.data = .fields vs) (he : J (X.suite a ((a, oe) :: pn)) e ρ (.exc a (some dd) fds))
    (hd : fds.lookup n = some d) (hb : attributeBase e n X.env (eval e X.env) = eval e X.env := by rfl) : J (X.suite a ((a, oe) :: pn)) (.Attribute e n pos) ρ d := ⟨fun W σ H ex hV Q g =>
  .of (pe_xf T hno hz hf pe_w hb) (he.run W σ H ex hV _ fun v W1 H1 s1 r1 => by
    cases r1 with
    | @exc _ _ fs _ h1 h2 h3 =>
      have hv := look_rep hd h2 h3
      obtain ⟨v, hl, r⟩ := hv
      exact ⟨rfl, rfl, dd, fs, v, rfl, s1.wh _ _ (h1 dd rfl), hl, g v W1 H1 s1 r⟩)⟩
end
end Pf

/-! enumerate(list), zip of lists, index of texts, {x!r}, names -/
namespace Pf
open PySem L2 PySem.Spec PyProof.Rows
open Evl (Ex)
section
variable {X : Cx} {K : PySem.W.Frag} {ρ : Rho} {a b e o : Expr} {es : List Expr} {ds es' : List D} {pos p tpos apos cpos : Pos} {elts : List Expr} {kk : Nat} {d : D}
theorem enumL_get {xs : List D} {i : Nat} {d : D} (h : (xs.zipIdx.map fun p => D.tup [.int (p.2 : Nat), p.1])[i]? = some d) : ∃ x, xs[i]? = some x ∧ d = .tup [.int (i : Nat), x] := by
  rw [List.getElem?_map, List.getElem?_zipIdx] at h
  cases q : xs[i]? with
  | none => rw [q] at h; cases h
  | some x => rw [q] at h; simp at h; exact ⟨x, rfl, h.symm⟩
theorem walks_enumL {W : Hp} {l : Addr} {vs : List V} (h : W l = some (.lst vs)) (k : RepAll K W ds vs) : Walks K (Ite K l) W (ds.zipIdx.map fun p => D.tup [.int (p.2 : Nat), p.1]) where
  go := fun i H ex hi => by
    rw [List.length_map, List.length_zipIdx] at hi
    have hv : i < vs.length := by rw [← k.length]; exact hi
    exact ⟨vs, vs[i], SqL.of (ex _ _ h), by simp [hv]⟩
  yld := fun i H x H' d ex hd hy W2 e1 e2 => by
    obtain ⟨T, y, rfl, hT, rfl, hy⟩ := hy
    obtain ⟨dx, h1, rfl⟩ := enumL_get hd
    obtain ⟨v, h2, h3⟩ := k.get h1
    have q := hy vs (SqL.of (ex _ _ h))
    rw [h2] at q; cases q
    exact ⟨_, .new e2 hT, .tup (SqT.of upd_same) (.cons (.int _) (.cons ((h3.mono e1).mono (Evl.Ex.new (Evl.fresh_back e2 hT))) .nil))⟩
  stop := fun H ex => ⟨vs, SqL.of (ex _ _ h), by rw [List.length_map, List.length_zipIdx]; exact Nat.le_of_eq k.length.symm⟩
theorem ji_enumL (hm : X.mg "enumerate" = none) (h : J X a ρ (.lst ds)) (hg : Gl X "enumerate" := by rfl) (hs : starEach [a] X.env = [(false, eval a X.env)] := by rfl) : JI X (.Tuple elts kk tpos) (.Call (.Name "enumerate" p) [a] [] pos) ρ (ds.zipIdx.map fun p => D.tup [.int (p.2 : Nat), p.1]) := ⟨fun W σ H ex hV R g =>
  .of (pi_enum hg hm pa_w hs) (ja_cons h ja_nil hs W σ H ex hV _ fun vs W1 H1 s1 r1 => by
    cases r1 with
    | cons r t =>
      cases t
      cases r with
      | lst h1 k => exact ⟨_, _, rfl, SqL.of (s1.wh _ _ h1), g _ W1 H1 s1 (walks_enumL h1 k)⟩)⟩
theorem zipL_get {xs ys : List D} {i : Nat} {d : D} (h : ((xs.zip ys).map fun p => D.tup [p.1, p.2])[i]? = some d) : ∃ x y, xs[i]? = some x ∧ ys[i]? = some y ∧ d = .tup [x, y] := by
  rw [List.getElem?_map] at h
  cases q : (xs.zip ys)[i]? with
  | none => rw [q] at h; cases h
  | some x =>
    rw [q] at h
    obtain ⟨h1, h2⟩ := List.getElem?_zip_eq_some.mp q
    exact ⟨x.1, x.2, h1, h2, (Option.some.inj h).symm⟩
theorem walks_zipL {W : Hp} {l m : Addr} {vs us : List V} (h : W l = some (.lst vs)) (k : RepAll K W ds vs) (h' : W m = some (.lst us)) (k' : RepAll K W es' us) : Walks K (Itz K l m) W ((ds.zip es').map fun p => D.tup [p.1, p.2]) where
  go := fun i H ex hi => by
    rw [List.length_map, List.length_zip] at hi
    have hv : i < vs.length := by rw [← k.length]; omega
    have hu : i < us.length := by rw [← k'.length]; omega
    exact ⟨vs, us, vs[i], us[i], SqL.of (ex _ _ h), SqL.of (ex _ _ h'), by simp [hv], by simp [hu]⟩
  yld := fun i H x H' d ex hd hy W2 e1 e2 => by
    obtain ⟨T, y, z, rfl, hT, rfl, hy, hz⟩ := hy
    obtain ⟨dx, dy, h1, h2, rfl⟩ := zipL_get hd
    obtain ⟨v, g1, g2⟩ := k.get h1
    obtain ⟨u, g3, g4⟩ := k'.get h2
    have q := hy vs (SqL.of (ex _ _ h))
    rw [g1] at q; cases q
    have q := hz us (SqL.of (ex _ _ h'))
    rw [g3] at q; cases q
    have en := Evl.Ex.new (o := .tup [y, z]) (Evl.fresh_back e2 hT)
    exact ⟨_, .new e2 hT, .tup (SqT.of upd_same) (.cons ((g2.mono e1).mono en) (.cons ((g4.mono e1).mono en) .nil))⟩
  stop := fun H ex => ⟨vs, us, SqL.of (ex _ _ h), SqL.of (ex _ _ h'), by
    rw [List.length_map, List.length_zip]
    have := k.length; have := k'.length
    omega⟩
theorem ji_zipL (hm : X.mg "zip" = none) (h : J X a ρ (.lst ds)) (h' : J X b ρ (.lst es')) (hg : Gl X "zip" := by rfl) (hs : starEach [a, b] X.env = (false, eval a X.env) :: starEach [b] X.env := by rfl) (hs2 : starEach [b] X.env = (false, eval b X.env) :: starEach [] X.env := by rfl) (hpl : (backTo pos (starEach [b] X.env)).any (·.1) = false := by rfl) :
    JI X (.Tuple elts kk tpos) (.Call (.Name "zip" p) [a, b] [] pos) ρ ((ds.zip es').map fun p => D.tup [p.1, p.2]) := ⟨fun W σ H ex hV R g =>
  .of (pi_zip hg hm pa_w hs hpl) (ja_cons h (ja_cons h' ja_nil hs2) hs W σ H ex hV _ fun vs W1 H1 s1 r1 => by
    cases r1 with
    | cons r t =>
      cases t with
      | cons r' t =>
        cases t
        cases r with
        | lst h1 k =>
          cases r' with
          | lst h2 k2 => exact ⟨_, _, _, _, rfl, SqL.of (s1.wh _ _ h1), SqL.of (s1.wh _ _ h2), g _ W1 H1 s1 (walks_zipL h1 k h2 k2)⟩)⟩
theorem j_fmtR {y : Str} (ha : J X e ρ (.str y)) (h : (reprText y).length ≤ sizeLine) : J X (.FormattedValue e 114 none pos) ρ (.str (reprText y)) := ⟨fun W σ H ex hV Q g => .of (pe_fmtR pe_w) (ha W σ H ex hV _ fun v W1 H1 s1 r1 => by
  cases r1; exact .inl ⟨y, rfl, h, g _ _ _ s1 (.str _)⟩)⟩
theorem j_fmtRI {i : Int} (ha : J X e ρ (.int i)) (h : i.natAbs.log2 < 1920) : J X (.FormattedValue e 114 none pos) ρ (.str (toString i)) := ⟨fun W σ H ex hV Q g => .of (pe_fmtR pe_w) (ha W σ H ex hV _ fun v W1 H1 s1 r1 => by
  cases r1; exact .inr ⟨i, rfl, h, g _ _ _ s1 (.str _)⟩)⟩
end
/-! ### texts as lists of signs -/
def tx (cs : List Nat) : Str := ⟨cs.toArray⟩
theorem tx_cps (cs : List Nat) : (tx cs).cps.toList = cs := rfl
theorem tx_len (cs : List Nat) : (tx cs).length = cs.length := by show cs.toArray.size = _; simp
theorem tx_of (z : Str) : tx z.cps.toList = z := by show (⟨z.cps.toList.toArray⟩ : Str) = z; rw [Array.toArray_toList]
theorem len_of (z : Str) : z.cps.toList.length = z.length := by rw [Array.length_toList]; rfl
theorem tx_app (a b : List Nat) : tx a ++ tx b = tx (a ++ b) := by
  show (⟨a.toArray ++ b.toArray⟩ : Str) = ⟨(a ++ b).toArray⟩
  rw [List.append_toArray]
theorem tx_inj {a b : List Nat} (h : tx a = tx b) : a = b := congrArg (fun z : Str => z.cps.toList) h
theorem le_size {n : Nat} (h : n ≤ 10000) : n ≤ sizeLine := Nat.le_trans h (by decide)
theorem lt_size {n : Nat} (h : n ≤ 10000) : n < sizeLine := Nat.lt_of_le_of_lt h (by decide)
theorem cutS_tx (cs : List Nat) (a b : Option Int) : cutS (tx cs) a b = tx (cut cs a b) := by
  unfold cutS cut tx
  congr 1
theorem atI_getD {α : Type} (d : α) {xs : List α} {i : Int} (h0 : 0 ≤ i) (h1 : i < xs.length) : atI xs i = some (xs.getD i.toNat d) := by
  unfold atI ixN
  rw [if_pos h0, if_pos (by omega)]
  show xs[i.toNat]? = _
  rw [List.getD_eq_getElem?_getD, List.getElem?_eq_getElem (by omega)]
  rfl
theorem atI_N {α : Type} (d : α) {xs : List α} {i : Int} (n : Nat) (h0 : i = (n : Int)) (h1 : n < xs.length) : atI xs i = some (xs.getD n d) := by
  subst h0
  exact atI_getD d (by omega) (by omega)
theorem cut_take {α : Type} (xs : List α) (n : Nat) (h : n ≤ xs.length) : cut xs none (some (n : Int)) = xs.take n := by
  unfold cut
  rw [HT.sIx_none, HT.sIx_nat, List.drop_zero]
  congr 1
  omega
theorem cut_takeN {α : Type} (xs : List α) (n : Nat) : cut xs none (some (n : Int)) = xs.take n := by
  unfold cut
  rw [HT.sIx_none, HT.sIx_nat, List.drop_zero]
  by_cases h : n ≤ xs.length
  · congr 1; omega
  · rw [List.take_of_length_le (by omega), List.take_of_length_le (by omega)]
theorem cut_drop {α : Type} (xs : List α) (n : Nat) (h : n ≤ xs.length) : cut xs (some (n : Int)) none = xs.drop n := by
  unfold cut
  rw [HT.sIx_none, HT.sIx_nat, Nat.min_eq_left h]
  exact List.take_of_length_le (by rw [List.length_drop]; omega)
theorem join_onesP (x : Str) (hx : x.cps = #[]) : ∀ L : List Nat, Txt.join x (L.map fun c => tx [c]) = tx L := by
  have key : ∀ (L : List Nat) (acc : Array Nat), (L.map fun c => tx [c]).foldl (fun acc p => acc ++ x.cps ++ p.cps) acc = acc ++ L.toArray := by
    intro L
    induction L with
    | nil => intro acc; simp
    | cons c L ih =>
      intro acc
      rw [List.map_cons, List.foldl_cons, ih, hx]
      simp [tx]
  intro L
  unfold Txt.join Builtin.Str.glued
  cases L with
  | nil => rfl
  | cons c L =>
    show (⟨List.foldl _ (tx [c]).cps (L.map fun c => tx [c])⟩ : Str) = _
    rw [key]
    unfold tx
    simp
theorem lenS {z : Str} (h : z.length ≤ sizeLine) : lenD (.str z) = some z.length := if_pos h
/-! ### module constants -/
theorem j_gI {X : Cx} {ρ : Rho} {pos : Pos} {n : Str} {i : Int} (h : ∃ t, X.mg n = some (.int i t)) (hg : Gl X n := by rfl) (hdb : (n == ("__debug__" : Str)) = false := by decide) : J X (.Name n pos) ρ (.int i) := by
  obtain ⟨t, h⟩ := h
  exact j_glob (v := .int i) h ⟨t, rfl⟩ (fun H => .int _) hg hdb
theorem j_gS {X : Cx} {ρ : Rho} {pos : Pos} {n : Str} {i : Str} (h : ∃ t, X.mg n = some (.str i t)) (hg : Gl X n := by rfl) (hdb : (n == ("__debug__" : Str)) = false := by decide) : J X (.Name n pos) ρ (.str i) := by
  obtain ⟨t, h⟩ := h
  exact j_glob (v := .str i) h ⟨t, rfl⟩ (fun H => .str _) hg hdb
/-! ### names and keys -/
def nmSign (c : Nat) : Bool := (decide (97 ≤ c) && decide (c ≤ 122)) || (decide (48 ≤ c) && decide (c ≤ 57))
theorem nm_mem (c : Nat) : decide (c ∈ ("abcdefghijklmnopqrstuvwxyz0123456789" : Str).cps.toList) = nmSign c := by
  rw [show ("abcdefghijklmnopqrstuvwxyz0123456789" : Str).cps.toList = [97, 98, 99, 100, 101, 102, 103, 104, 105, 106, 107, 108, 109, 110, 111, 112, 113, 114, 115, 116, 117, 118, 119, 120, 121, 122, 48, 49, 50, 51, 52, 53, 54, 55, 56, 57] from by decide +kernel]
  unfold nmSign
  rw [Bool.eq_iff_iff, Bool.or_eq_true, Bool.and_eq_true, Bool.and_eq_true, decide_eq_true_iff, decide_eq_true_iff, decide_eq_true_iff, decide_eq_true_iff, decide_eq_true_iff]
  simp only [List.mem_cons, List.not_mem_nil, or_false]
  omega
def isNm (z : Str) : Bool := (decide (1 ≤ z.length) && decide (z.length ≤ 12)) && z.cps.toList.all nmSign
end Pf

/-! calls that may raise within an expression; lists joined anew; text times int; keys, entries -/
namespace Pf
open PySem L2 PySem.Spec PyProof.Rows
open Evl (Ex)
section
variable {X : Cx} {ρ : Rho} {a b e : Expr} {es : List Expr} {x y z d : D} {ds es' : List D} {pos p : Pos} {op : CmpOp} {bo : Operator} {P P' : D → Prop} {R : Er → Prop} {t : Bool}
theorem op_mulS : OpR X (binaryOp .Mult) (fun x y H Q => ∃ (i : Str) (n : Int), x = .str i ∧ y = .int n ∧ MulOk i n ∧ Q (.str (Txt.mul i n)) H) := by
  rintro pins s σ H x y v u Q I rx ry ⟨i, n, rfl, rfl, hk, q⟩
  obtain ⟨t, rfl⟩ := rx
  obtain ⟨t', rfl⟩ := ry
  exact SB.mul hk fun t2 k => ⟨.str (Txt.mul i n), H, I.tok _, ⟨t2, rfl⟩, q⟩
theorem od_mulS {i z : Str} {n : Int} (h : MulOk i n) (hz : Txt.mul i n = z) : OpD X .Mult (.str i) (.int n) (.str z) := ⟨_, op_mulS, fun W H v u ex r1 r2 Q q => by
  cases r1; cases r2; subst hz; exact ⟨i, n, rfl, rfl, h, q.now ex (.str _)⟩⟩
/-- xs + ys, a list of its own -/
theorem jn_add (ha : J X a ρ (.lst ds)) (hb : J X b ρ (.lst es')) (hl : ds.length + es'.length ≤ sizeLine) : JN X (.BinOp a .Add b pos) ρ (ds ++ es') := ⟨fun W σ H ex hV Q g =>
  .of (pe_op op_cat pe_w pe_w) (ha W σ H ex hV _ fun v W1 H1 s1 r1 => hb W1 σ H1 s1.wh (hV.mono s1.ww) _ fun u W2 H2 s2 r2 => by
    cases r1 with
    | lst h1 k1 =>
      cases r2 with
      | lst h2 k2 =>
        have s3 := s1.trans s2
        refine ⟨_, _, _, _, rfl, rfl, s2.wh _ _ (s2.ww _ _ h1), s2.wh _ _ h2, by rw [← k1.length, ← k2.length]; exact hl, fun q hq => ?_⟩
        exact g q W2 _ _ (s3.trans (.newH s3.wh hq)) (Evl.fresh_back s3.hh hq) (Evl.fresh_back s3.wh hq) upd_same ((k1.mono s2.ww).append k2))⟩
/-! a call that may raise, with something done to what it hands back -/
theorem jx_cmN (ha : JX X a ρ P R) (hP : ∀ d, P d → isNon d = t) : JX X (.Compare a [.IsNot] [.Constant .none kk p] pos) ρ (fun d => d = .bl (!t) ∧ ∃ d0, P d0) R := ⟨fun W σ H ex hV Q g gx => by
  refine .of (pe_cmpR op_notN pe_w pe_w (by first | exact nobehind _ (by decide) (by decide) | rfl)) (ha.run W σ H ex hV _ (fun d hd v W1 H1 s1 r1 => (j_non (X := X) (pos := p) (k := kk)).run W1 σ H1 s1.wh (hV.mono s1.ww) _ fun u W2 H2 s2 r2 => ?_) gx)
  have q := hP d hd
  subst q
  exact r2_notN W2 H2 v u s2.wh (r1.mono s2.ww) r2 Q ((g _ ⟨rfl, d, hd⟩).step (s1.trans s2))⟩
theorem jx_intB (T : Bt X.mg) (ha : JX X e ρ P R) (hP : ∀ d, P d → d = .bl t) (hg : Gl X "int" := by rfl) (he : starEach [e] X.env = (false, eval e X.env) :: starEach [] X.env := by rfl) (hpl : (backTo pos (starEach [] X.env)).any (·.1) = false := by rfl) :
    JX X (.Call (.Name "int" p) [e] [] pos) ρ (fun d => d = .int (if t then 1 else 0) ∧ ∃ d0, P d0) R := ⟨fun W σ H ex hV Q g gx => by
  refine .of (pe_callTy call_int1 hg T.int (by decide +kernel) (pa_cons pe_w pa_nil he) (by decide) (by decide) he hpl) (ha.run W σ H ex hV _ (fun d hd v W1 H1 s1 r1 => ?_) gx)
  have q := hP d hd
  subst q
  exact rc_intB (b := t) W1 H1 [v] s1.wh (.cons r1 .nil) Q ((g _ ⟨rfl, _, hd⟩).step s1)⟩
theorem jx_bin (ha : J X a ρ x) (hb : JX X b ρ P R) (hP : ∀ d, P d → d = y) (h : OpD X bo x y z) : JX X (.BinOp a bo b pos) ρ (fun d => d = z ∧ ∃ d0, P d0) R := ⟨fun W σ H ex hV Q g gx => by
  obtain ⟨r, h1, h2⟩ := h
  refine .of (pe_op h1 pe_w pe_w) (ha W σ H ex hV _ fun v W1 H1 s1 r1 => hb.run W1 σ H1 s1.wh (hV.mono s1.ww) _ (fun d hd u W2 H2 s2 r2 => ?_) fun er hR => (gx er hR).step s1.hh)
  have q := hP d hd
  subst q
  exact h2 W2 H2 v u s2.wh (r1.mono s2.ww) r2 Q ((g _ ⟨rfl, _, hd⟩).step (s1.trans s2))⟩
theorem jx_imp {P2 : D → Prop} {R2 : Er → Prop} (h : JX X e ρ P R) (h1 : ∀ d, P d → P2 d) (h2 : ∀ er, R er → R2 er) : JX X e ρ P2 R2 := ⟨fun W σ H ex hV Q g gx => h.run W σ H ex hV Q (fun d hd => g d (h1 d hd)) fun er hR => gx er (h2 er hR)⟩
/-- a call that may raise, but does not here -/
theorem jp_of (h : JX X e ρ P R) (hR : ∀ er, ¬ R er) : JP X e ρ P := ⟨fun W σ H ex hV Q g => h.run W σ H ex hV Q g fun er h => absurd h (hR er)⟩
theorem j_of (h : JX X e ρ P R) (hR : ∀ er, ¬ R er) (hP : ∀ d', P d' → d' = d) : J X e ρ d := ⟨fun W σ H ex hV Q g => h.run W σ H ex hV Q (fun d' hd => by rw [hP d' hd]; exact g) fun er h => absurd h (hR er)⟩
end
/-! ### keys, and parts of entries -/
def kySign (c : Nat) : Bool := nmSign c || decide (c = 45)
theorem ky_mem (c : Nat) : decide (c ∈ ("abcdefghijklmnopqrstuvwxyz0123456789-" : Str).cps.toList) = kySign c := by
  rw [show ("abcdefghijklmnopqrstuvwxyz0123456789-" : Str).cps.toList = ("abcdefghijklmnopqrstuvwxyz0123456789" : Str).cps.toList ++ [45] from by decide +kernel]
  unfold kySign
  rw [← nm_mem, Bool.eq_iff_iff, Bool.or_eq_true, decide_eq_true_iff, decide_eq_true_iff, decide_eq_true_iff, List.mem_append, List.mem_singleton]
def isKy (z : Str) : Bool := (decide (1 ≤ z.length) && decide (z.length ≤ 20)) && z.cps.toList.all kySign
def nmD : D → Bool
  | .str z => isNm z
  | _ => false
def kyD : D → Bool
  | .str z => isKy z
  | _ => false
def inD (lo hi : Int) : D → Bool
  | .int i => decide (lo ≤ i) && decide (i ≤ hi)
  | _ => false
/-- a text that is not long, or an int -/
def part : D → Bool
  | .str z => decide (z.length ≤ 2000)
  | .int _ => true
  | _ => false
/-- an entry by its parts -/
def entD : List D → Bool
  | [.str w, a, b, c, d] => decide (w = "ask") && ((kyD a && (nmD b && inD 1 1000 c)) && inD 0 1000000000 d)
  | [.str w, a, b] => decide (w = "release") && (kyD a && inD 0 1000000000 b)
  | _ => false
def OkE (es : List D) : Prop := es.all part = true ∧ es.length ≤ 100 ∧ ∃ w r, es = .str w :: r
def kyOf : List D → Str
  | _ :: .str z :: _ => z
  | _ => ""
def lastOf (es : List D) : Int := match es.getLast? with
  | some (.int i) => i
  | _ => 0
def isRel : List D → Bool
  | .str w :: _ => decide (w = "release")
  | _ => false
def goesL (es : List D) (m : Int) (A : List Str) : Bool := entD es && (!decide (lastOf es < m) && (decide (kyOf es ∈ A) == isRel es))
/-- the number of the first entry that is none or does not go on -/
def chkAt : Int → List Str → List (List D) → Nat → Option Nat
  | _, _, [], _ => none
  | m, A, e :: r, k => if goesL e m A = true then chkAt (lastOf e) (A ++ [kyOf e]) r (k + 1) else some k
end Pf

/-! an error's class out of what K tells -/
namespace Pf
open PySem L2 PySem.Spec PyProof.Rows
open Evl (Ex)
theorem sup_k {P : Program} {K : PySem.W.Frag} {mg : Str → Option Value} {h : Heap} {C cc c N : Addr} {nm q : Str} {bs bm : List Value} {sn : List Str} {sub : List Value} {ab : Bool} {col : Option Bool} {dd cld cdd : Option Addr} {k0 k1 k2 k3 k5 : Option Value} {cl ccl : Value} {csl ccs : Array (Option Value)} {vs : Array Value} {file : Str} {tf : Tok} {cdC : ClassData}
    (X : K.In h) (G : h.Ns mainGlobals mg) (h1 : K.lookup C = some (excClassObj nm q C N bs bm true sn sub ab col dd k0 k1 k2 k3 k5 "ValueError.__new__")) (h2 : PySem.HandSPX.refsVE bm = true) (h3 : PySem.W.findIn K (.ref C) "__setattr__" = some (some (.builtin "object.__setattr__"))) (h4 : PySem.W.subIn K (.ref C) (.type "BaseException") = some true)
    (h5 : PySem.W.typeIn K (.ref C) = some (.type "type")) (h6 : PySem.W.keepIn K (.ref C) = true) (h7 : PySem.W.nsIn K mainGlobals "super" = some none) (h8 : K.lookup cc = some ⟨cl, cld, .cell (some (.ref C)), csl⟩) (h9 : K.lookup c = some ⟨ccl, cdd, .fields vs, ccs⟩) (h10 : vs[2]? = some (.str file tf)) (h11 : ((P.main.file : Str) == file) = true)
    (h12 : (P.main.scope.names.lookup ("super" : Str)).isSome = false) (h13 : PySem.W.clsIn K C = some cdC) (h14 : PySem.W.nsIn K cStatics "thirdparty.any" = some none) (h15 : PySem.W.mroIn K C (.ref C) = some true) (h16 : PySem.W.ks_superIn K C C "__init__" = some (some (.builtin "ValueError.__init__"))) (h17 : PySem.W.subIn K (.ref C) (.type "ValueError") = some true) : SupK P K mg C cc c where
  T := ⟨⟨nm, q, N, bs, bm, sn, sub, ab, col, dd, k0, k1, k2, k3, k5, h1, h2⟩, h3, h4, h5, h6⟩
  sup := PySem.W.mg_none_of X G h7
  cell := ⟨cl, cld, csl, h8⟩
  code := ⟨ccl, cdd, vs, ccs, file, tf, h9, h10, h11⟩
  top := h12
  cd := ⟨cdC, h13⟩
  opq := h14
  self := h15
  ini := h16
  sb := h17
theorem sup_e {P : Program} {w : World} {K : PySem.W.Frag} {mg : Str → Option Value} {base : Heap} {k : Nat} {x fld pa : Str} {C cc c fI : Addr} {fd : FuncData} {G : D → Prop} (SK : SupK P K mg C cc c) (hg : mg x = some (.ref C)) (h1 : PySem.W.findIn K (.ref C) "__init__" = some (some (.ref fI))) (h2 : PySem.W.typeIn K (.ref fI) = some (.type "function"))
    (F : FnOk P w K mg base CX0 k fI fd ["self", pa] (spSup K C fld G)) (hb : Binds K fd ["self", pa] []) : SupErr P w K mg base k x C fld G := ⟨hg, SK.T, fI, fd, pa, h1, h2, F, hb⟩
theorem own_e {K : PySem.W.Frag} {mg : Str → Option Value} {h : Heap} {x : Str} {C : Addr} (hg : mg x = some (.ref C)) (h1 : PySem.W.excIn K C [.type "ValueError", .type "Exception", .type "BaseException", .type "object"] "ValueError.__new__" = true) (h2 : PySem.W.keepIn K (.ref C) = true)
    (h3 : PySem.W.subIn K (.ref C) (.type "BaseException") = some true) (h4 : PySem.W.typeIn K (.ref C) = some (.type "type")) : OwnErr K mg x C := ⟨hg, ⟨_, F.excBase_ValueError, h1⟩, h2, h3, h4⟩
end Pf

/-! tuples without a dict: made by tuple(xs), asked for a place -/
namespace Pf
open PySem L2 PySem.Spec PyProof.Rows
open Evl (Ex)
section
variable {X : Cx} {K : PySem.W.Frag} {ρ : Rho} {a b e o : Expr} {es : List Expr} {ds : List D} {pos p apos cpos : Pos} {d : D}
theorem Rep.thaw {H : Hp} {v : V} (h : Rep K H (.ftup ds) v) : Rep K H (.tup ds) v := by
  cases h with
  | ftup h1 _ _ h4 => exact .tup (.inl (.inr ⟨_, h1⟩)) h4
theorem j_thaw (h : J X e ρ (.ftup ds)) : J X e ρ (.tup ds) := ⟨fun W σ H ex hV Q g => h.run W σ H ex hV Q fun v W' H' st r => g v W' H' st r.thaw⟩
/-- a view: a number and such a tuple -/
theorem j_thaw2 {x : D} (h : J X e ρ (.tup [x, .ftup ds])) : J X e ρ (.tup [x, .tup ds]) := ⟨fun W σ H ex hV Q g => h.run W σ H ex hV Q fun v W' H' st r => g v W' H' st (by
  cases r with
  | tup h1 k =>
    cases k with
    | cons r1 k => cases k with
      | cons r2 k => exact .tup h1 (.cons r1 (.cons r2.thaw k)))⟩
theorem call_tupleF : CallR X (.type "tuple") (fun xs H Q => ∃ p ys, xs = [.ref p] ∧ SqL X.K H p ys ∧ ∀ l ob, ob.dict = none → ob.cls = .type "tuple" → H l = none → Q (.ref l) (upd H l (.frz ob (.tup ys)))) := by
  rintro pins s σ H xs us Q I r ⟨p, ys, rfl, hq, q⟩
  obtain ⟨u, rfl, rx⟩ := vals1 r
  cases rx
  obtain ⟨its, r', pl, hz⟩ := I.list hq
  refine call_tuple_list pl.isList (fun h' kp => ?_) (by have := r'.length; simp only [List.size_toArray]; omega)
  have I1 : Inv X pins σ H { s with heap := h' } := I.kept (t' := s.toks) kp
  have I2 : Inv X pins σ (upd H h'.objs.size (.frz { cls := .type "tuple", data := .seq its.toArray } (.tup ys))) { s with heap := h'.push { cls := .type "tuple", data := .seq its.toArray } } :=
    I1.laid (t' := s.toks) (fun b o e => Heap.get?_push_of_some _ e) (Nat.le_refl _) (show ObjOk X.prog X.w _ _ _ (.frz _ (.tup ys)) from ⟨Heap.get?_push_at rfl rfl, hz, its, r', IsTup.new _ _⟩)
  exact ⟨.ref h'.objs.size, _, I2, rfl, q _ _ rfl rfl (I1.hok.fresh (Nat.le_refl _))⟩
theorem jb_tupleF (T : Bt X.mg) (ha : JA X [e] ρ [.lst ds]) (hg : Gl X "tuple" := by rfl) (he : starEach [e] X.env = (false, eval e X.env) :: starEach [] X.env := by rfl) (hpl : (backTo pos (starEach [] X.env)).any (·.1) = false := by rfl) : J X (.Call (.Name "tuple" p) [e] [] pos) ρ (.ftup ds) :=
  j_ct call_tupleF T.tuple (by decide +kernel) ha (fun W H vs ex r Q q => by
    cases r with
    | cons r t =>
      cases t
      cases r with
      | lst h1 k => exact ⟨_, _, rfl, SqL.of (ex _ _ h1), fun l ob h2 h3 hl => q _ _ _ (.new ex hl) (.ftup upd_same h2 h3 (k.mono (Evl.Ex.new (Evl.fresh_back ex hl))))⟩) hg (by decide) (by decide) he hpl
/-- the place of a text in such a tuple of texts -/
theorem j_idxT {xs : List Str} {z : Str} {j : Nat} (ho : J X o ρ (.ftup (xs.map D.str))) (ha : J X a ρ (.str z)) (hj : xs[j]? = some z) (hno : ∀ m, m < j → xs[m]? ≠ some z) (hs : starEach [a] X.env = (false, eval a X.env) :: starEach [] X.env := by rfl) (hbase : attributeBase o "index" X.env (eval o X.env) = eval o X.env := by rfl)
    (hfew : ((backTo cpos (starEach [a] X.env)).all (fun x => !x.1) && (backToKw cpos (keywordEach [] X.env)).all (fun x => x.1.isSome) && decide ([a].length + ([] : List Keyword).length + (if ([] : List Keyword).isEmpty then 0 else 1) < 30)) = true := by rfl)
    (hline : (apos.endLine == cpos.line) = true := by rfl) (hplain : (backTo cpos (starEach [] X.env)).any (·.1) = false := by rfl) : J X (.Call (.Attribute o "index" apos) [a] [] cpos) ρ (.int (j : Nat)) := ⟨fun W σ H ex hV Q g => fun pins s I => by
  refine wpAny_Call_method_late hbase hfew hline rfl (thn (ho W σ H ex hV (fun v H1 => ∃ W1, Step W H W1 H1 ∧ Rep X.K W1 (.ftup (xs.map D.str)) v) (fun v W1 H1 s1 r1 => ⟨W1, s1, r1⟩) pins s I) fun u s1 ⟨v, H1, I1, r1, W1, st, rp⟩ => ?_)
  cases rp with
  | @ftup l ob vs _ h1 h2 h3 k =>
    have hu : u = Value.ref l := r1
    subst hu
    cases k.strs
    have hH := st.wh _ _ h1
    obtain ⟨hob, _⟩ := I1.hok _ _ hH
    refine ⟨"tuple", "tuple.index", PySem.F.plainAttrs_tuple, PySem.F.slot_tuple_index, PySem.F.type_tuple_index, ⟨ob, hob, h3⟩, fun b e => ?_, ?_⟩
    · cases e; exact ⟨ob, hob, h2⟩
    · have hA := (ja_cons ha ja_nil hs) W1 σ H1 st.wh (hV.mono st.ww) (fun us H2 => us = [.str z] ∧ Ex H1 H2 ∧ ∃ W2, Step W1 H1 W2 H2) (fun us W2 H2 s2 r2 => by
        cases r2 with
        | cons q r => cases q; cases r; exact ⟨rfl, s2.hh, W2, s2⟩) cpos pins s1 I1
      rw [hs] at hA ⊢
      refine Calls.callWith_builtin (by show (false || (backTo cpos (starEach [] X.env)).any (·.1)) = false; rw [hplain]; rfl) (Calls.evalArgs_plain ?_)
      refine thn hA fun us s2 ⟨vs2, H2, I2, r2, e2, e3, W2, s2'⟩ => ?_
      subst e2
      exact mt_tup_index pins s2 σ H2 (.ref l) _ _ us Q I2 rfl r2 ⟨l, xs, z, j, rfl, rfl, .inl (.inr ⟨ob, e3 _ _ hH⟩), hj, hno, g _ W2 H2 (st.trans s2') (.int _)⟩⟩
end
end Pf
namespace Pf
open PySem L2 PySem.Spec PyProof.Rows
open Evl (Ex)
section
variable {X : Cx} {K : PySem.W.Frag} {ρ : Rho} {a b e o : Expr} {es : List Expr} {ds : List D} {pos p apos cpos : Pos} {d : D}
/-- isinstance(a tuple, T) -/
theorem jb_isiT {e2 : Expr} {Ty : String} {b : Bool} (T : Bt X.mg) (ha : JA X [e, e2] ρ [.tup ds, .ty Ty]) (hk : PySem.W.kitOne X.K (.type "tuple") (.type Ty) = some b) (hg : Gl X "isinstance" := by rfl) (he : starEach [e, e2] X.env = (false, eval e X.env) :: starEach [e2] X.env := by rfl) (hpl : (backTo pos (starEach [e2] X.env)).any (·.1) = false := by rfl) :
    J X (.Call (.Name "isinstance" p) [e, e2] [] pos) ρ (.bl b) := j_cb call_isi T.isinstance (by decide +kernel) ha (fun W H vs ex r Q q => by
  cases r with
  | cons r t =>
    cases t with
    | cons r' t' =>
      cases t'
      cases r'
      cases r with
      | @tup l vs _ h1 k =>
        have ht : TyX X.K H (.ref l) (.type "tuple") := by
          rcases Evl.ex_t ex h1 with (h | ⟨o, h⟩) | ⟨o, its, n, h, hc, _⟩
          · exact .base (.tup h)
          · exact .fTuple h
          · exact .kTuple h hc
        exact ⟨_, _, _, _, b, rfl, .ty Ty, ht, hk, q.now ex (.bl _)⟩) hg (by decide) (by decide) he hpl
theorem flatV_str (z : Str) : flatV (V.str z) = true := rfl
/-- the place of a text in a list of texts -/
theorem j_idxL {xs : List Str} {z : Str} {j : Nat} (ho : J X o ρ (.lst (xs.map D.str))) (ha : J X a ρ (.str z)) (hj : xs[j]? = some z) (hno : ∀ m, m < j → xs[m]? ≠ some z) (hs : starEach [a] X.env = (false, eval a X.env) :: starEach [] X.env := by rfl) (hbase : attributeBase o "index" X.env (eval o X.env) = eval o X.env := by rfl)
    (hfew : ((backTo cpos (starEach [a] X.env)).all (fun x => !x.1) && (backToKw cpos (keywordEach [] X.env)).all (fun x => x.1.isSome) && decide ([a].length + ([] : List Keyword).length + (if ([] : List Keyword).isEmpty then 0 else 1) < 30)) = true := by rfl)
    (hline : (apos.endLine == cpos.line) = true := by rfl) (hplain : (backTo cpos (starEach [] X.env)).any (·.1) = false := by rfl) : J X (.Call (.Attribute o "index" apos) [a] [] cpos) ρ (.int (j : Nat)) := ⟨fun W σ H ex hV Q g =>
  .of (pe_bm PySem.F.plainAttrs_list PySem.F.slot_list_index PySem.F.type_list_index mt_index pe_w pa_w hbase hfew hline hs hplain) (ho W σ H ex hV _ fun v W1 H1 s1 r1 => by
  cases r1 with
  | lst h1 k =>
    cases k.strs
    refine ⟨.inl ⟨rfl, _, SqL.of (s1.wh _ _ h1)⟩, (ja_cons ha ja_nil hs) W1 σ H1 s1.wh (hV.mono s1.ww) _ fun us W2 H2 s2 r2 => ?_⟩
    cases r2 with
    | cons q1 r2 =>
      cases q1; cases r2
      refine ⟨_, xs.map V.str, .str z, j, .str z, rfl, rfl, SqL.of (s2.wh _ _ (s2.ww _ _ h1)), rfl, ?_, ?_, ?_, fun m z' hm hz' => ?_, g _ W2 H2 (s1.trans s2) (.int _)⟩
      · rw [List.all_map]; exact List.all_eq_true.mpr fun _ _ => rfl
      · rw [List.getElem?_map, hj]; rfl
      · simp [eqV]
      · rw [List.getElem?_map] at hz'
        cases q : xs[m]? with
        | none => rw [q] at hz'; cases hz'
        | some y =>
          rw [q] at hz'; cases hz'
          have : y ≠ z := fun e => hno m hm (by rw [q, e])
          simp [eqV, this])⟩
end
end Pf

/-! numbers within texts, split by a sign, str of a text -/
namespace Pf
open PySem L2 PySem.Spec PyProof.Rows
open Evl (Ex)
open PySem.NumText (AllDigits digitsVal)
section
variable {X : Cx} {K : PySem.W.Frag} {ρ : Rho} {a b e o : Expr} {es : List Expr} {ds : List D} {pos p apos cpos : Pos} {d : D}
theorem j_split {x y : PySem.Str} (ho : J X o ρ (.str x)) (ha : JA X [a] ρ [.str y]) (hy : (y.length == 0) = false) (hl : x.length + 2 ≤ sizeLine) (hbase : attributeBase o "split" X.env (eval o X.env) = eval o X.env := by rfl)
    (hfew : ((backTo cpos (starEach [a] X.env)).all (fun x => !x.1) && (backToKw cpos (keywordEach [] X.env)).all (fun x => x.1.isSome) && decide ([a].length + ([] : List Keyword).length + (if ([] : List Keyword).isEmpty then 0 else 1) < 30)) = true := by rfl)
    (hline : (apos.endLine == cpos.line) = true := by rfl) (hs : starEach [a] X.env = (false, eval a X.env) :: starEach [] X.env := by rfl) (hplain : (backTo cpos (starEach [] X.env)).any (·.1) = false := by rfl) :
    J X (.Call (.Attribute o "split" apos) [a] [] cpos) ρ (.lst ((Txt.split x y).map D.str)) := ⟨fun W σ H ex hV Q g =>
  .of (pe_bm PySem.F.plainAttrs_str PySem.F.slot_str_split PySem.F.type_str_split mt_split pe_w pa_w hbase hfew hline hs hplain) (ho W σ H ex hV _ fun v W1 H1 s1 r1 => by
  cases r1
  refine ⟨rfl, ha W1 σ H1 s1.wh (hV.mono s1.ww) _ fun us W2 H2 s2 r2 => ?_⟩
  cases r2 with
  | cons q1 r2 =>
    cases q1
    cases r2
    exact ⟨x, y, rfl, rfl, hy, hl, fun q hq => g _ _ _ ((s1.trans s2).trans (.new s2.wh hq)) (.lst upd_same (RepAll.toStrs _))⟩)⟩
theorem rc_strS {z : PySem.Str} : RCD K (fun xs H Q => ∃ a, xs = [V.str a] ∧ Q (V.str a) H) [.str z] (.str z) := fun W H vs ex r Q q => by
  cases r with | cons r t => cases t; cases r; exact ⟨_, rfl, q.now ex (.str _)⟩
theorem jb_strS {z : PySem.Str} (T : Bt X.mg) (ha : JA X [e] ρ [.str z]) (hg : Gl X "str" := by rfl) (he : starEach [e] X.env = (false, eval e X.env) :: starEach [] X.env := by rfl) (hpl : (backTo pos (starEach [] X.env)).any (·.1) = false := by rfl) :
    J X (.Call (.Name "str" p) [e] [] pos) ρ (.str z) := j_ct SkE.call_str_str T.str (by decide +kernel) ha rc_strS hg (by decide) (by decide) he hpl
end
/-! ### joined and split -/
theorem join_len (y : Str) : ∀ xs : List Str, (Txt.join y xs).length ≤ (xs.map (·.length)).sum + xs.length * y.length := by
  intro xs
  rw [TL.join_eq]
  induction xs with
  | nil => exact Nat.zero_le _
  | cons x xs ih =>
    cases xs with
    | nil => show x.length ≤ _; simp
    | cons z r =>
      show (x ++ y ++ Str.join y (z :: r)).length ≤ _
      rw [app_len, app_len]
      simp only [List.map_cons, List.sum_cons, List.length_cons, Nat.add_mul] at ih ⊢
      omega
theorem sum_le {xs : List Str} {m : Nat} (h : ∀ x ∈ xs, x.length ≤ m) : (xs.map (·.length)).sum ≤ xs.length * m := by
  induction xs with
  | nil => simp
  | cons x xs ih =>
    have h1 := h x (by simp)
    have h2 := ih fun y hy => h y (by simp [hy])
    simp only [List.map_cons, List.sum_cons, List.length_cons, Nat.add_mul]
    omega
/-! ### numbers -/
def numS (n : Int) : List Nat := ((toString n : String) : Str).cps.toList
def isDg (c : Nat) : Bool := decide (48 ≤ c) && decide (c ≤ 57)
def okNum (cs : List Nat) (k : Nat) : Bool := (decide (1 ≤ cs.length) && decide (cs.length ≤ k)) && cs.all isDg
def zeroed (cs : List Nat) : Bool := decide (cs.getD 0 0 = 48) && !decide (cs = [48])
def pNum (cs : List Nat) (k : Nat) : Option Nat := if okNum cs k = true then (if zeroed cs = true then none else some (digitsVal cs)) else none
def optN : Option Nat → D
  | none => .non
  | some n => .int (n : Int)
theorem dg_mem (c : Nat) : decide (c ∈ ("0123456789" : Str).cps.toList) = isDg c := by
  rw [show ("0123456789" : Str).cps.toList = [48, 49, 50, 51, 52, 53, 54, 55, 56, 57] from by decide +kernel]
  unfold isDg
  rw [Bool.eq_iff_iff, Bool.and_eq_true, decide_eq_true_iff, decide_eq_true_iff, decide_eq_true_iff]
  simp only [List.mem_cons, List.not_mem_nil, or_false]
  omega
theorem val_lt : ∀ cs : List Nat, AllDigits cs → digitsVal cs < 10 ^ cs.length := by
  have key : ∀ (cs : List Nat) (acc : Nat), AllDigits cs → cs.foldl (fun acc c => acc * 10 + (c - 48)) acc < (acc + 1) * 10 ^ cs.length := by
    intro cs
    induction cs with
    | nil => intro acc _; simp
    | cons c cs ih =>
      intro acc h
      have hc := h c List.mem_cons_self
      have := ih (acc * 10 + (c - 48)) fun d hd => h d (List.mem_cons_of_mem _ hd)
      rw [List.foldl_cons, List.length_cons, Nat.pow_succ]
      refine Nat.lt_of_lt_of_le this ?_
      rw [Nat.mul_comm (10 ^ cs.length) 10, ← Nat.mul_assoc]
      exact Nat.mul_le_mul_right _ (by omega)
  intro cs h
  have := key cs 0 h
  unfold digitsVal
  simpa using this
theorem signs_of (n : Nat) : numS (n : Int) = (Nat.toDigits 10 n).map Char.toNat := PySem.W.KIN.signs_num n
theorem dig_range {c : Char} (h : c.isDigit = true) : 48 ≤ c.toNat ∧ c.toNat ≤ 57 := by
  unfold Char.isDigit at h
  rw [Bool.and_eq_true, decide_eq_true_iff, decide_eq_true_iff] at h
  exact ⟨h.1, h.2⟩
theorem numS_dig (n : Nat) : AllDigits (numS (n : Int)) := by
  intro c hc
  rw [signs_of] at hc
  obtain ⟨ch, hch, rfl⟩ := List.mem_map.mp hc
  exact dig_range (Nat.isDigit_of_mem_toDigits (by decide) (by decide) hch)
theorem numS_val (n : Nat) : digitsVal (numS (n : Int)) = n := by rw [signs_of]; exact PySem.W.KIN.val_back n
theorem numS_le {n k : Nat} (hk : 1 ≤ k) (h : n < 10 ^ k) : (numS (n : Int)).length ≤ k := by rw [signs_of, List.length_map]; exact digits10_le hk h
theorem numS_pos (n : Nat) : 1 ≤ (numS (n : Int)).length := by rw [signs_of, List.length_map]; exact tDigits_len_ge 10 n
theorem pNum_num {n k : Nat} (hk : 1 ≤ k) (h : n < 10 ^ k) : pNum (numS (n : Int)) k = some n := by
  have hd := numS_dig n
  have hl := numS_le hk h
  have hp := numS_pos n
  have hok : okNum (numS (n : Int)) k = true := by
    unfold okNum
    rw [Bool.and_eq_true, Bool.and_eq_true, decide_eq_true_iff, decide_eq_true_iff]
    refine ⟨⟨hp, hl⟩, List.all_eq_true.mpr fun c hc => ?_⟩
    unfold isDg
    rw [Bool.and_eq_true, decide_eq_true_iff, decide_eq_true_iff]
    exact hd c hc
  have hz : zeroed (numS (n : Int)) = false := by
    have hv := numS_val n
    cases hcs : numS (n : Int) with
    | nil => rfl
    | cons c rest =>
      cases rest with
      | nil =>
        unfold zeroed
        by_cases q : c = 48
        · subst q; rfl
        · show (decide (c = 48) && _) = false
          rw [decide_eq_false q]; rfl
      | cons e rest =>
        unfold zeroed
        show (decide (c = 48) && _) = false
        by_cases q : c = 48
        · exfalso
          subst q
          rw [hcs] at hv hd
          have h2 : digitsVal (e :: rest) = n := by rw [← hv]; rfl
          have h3 := val_lt (e :: rest) (fun c hc => hd c (List.mem_cons_of_mem _ hc))
          rw [h2] at h3
          have h4 := numS_le (n := n) (k := (e :: rest).length) (by simp) h3
          rw [hcs] at h4
          simp at h4
          omega
        · rw [decide_eq_false q]; rfl
  unfold pNum
  rw [if_pos hok, hz, numS_val]
  rfl
/-! ### more on joined texts -/
theorem sapp_assoc (a b c : Str) : a ++ b ++ c = a ++ (b ++ c) := by
  show (⟨a.cps ++ b.cps ++ c.cps⟩ : Str) = ⟨a.cps ++ (b.cps ++ c.cps)⟩
  rw [Array.append_assoc]
theorem join_fold (y x : Str) (xs : List Str) : xs.foldl (fun a z => a ++ y ++ z) x = Txt.join y (x :: xs) := by
  rw [TL.join_eq]
  induction xs generalizing x with
  | nil => rfl
  | cons z r ih =>
    rw [List.foldl_cons, ih]
    show Str.join y ((x ++ y ++ z) :: r) = x ++ y ++ Str.join y (z :: r)
    cases r with
    | nil => rfl
    | cons q r =>
      show (x ++ y ++ z) ++ y ++ Str.join y (q :: r) = x ++ y ++ (z ++ y ++ Str.join y (q :: r))
      rw [sapp_assoc (x ++ y ++ z), sapp_assoc (x ++ y) z, sapp_assoc z]
theorem mem_join {c : Nat} {y : Str} : ∀ {xs : List Str}, c ∈ (Txt.join y xs).cps.toList → c ∈ y.cps.toList ∨ ∃ x ∈ xs, c ∈ x.cps.toList := by
  intro xs
  rw [TL.join_eq]
  induction xs with
  | nil => intro h; cases h
  | cons x xs ih =>
    cases xs with
    | nil => exact fun h => .inr ⟨x, by simp, h⟩
    | cons z r =>
      intro h
      have h' : c ∈ TL.tl (x ++ y ++ Str.join y (z :: r)) := h
      rw [TL.tl_append, TL.tl_append, List.mem_append, List.mem_append] at h'
      rcases h' with (h | h) | h
      · exact .inr ⟨x, by simp, h⟩
      · exact .inl h
      · rcases ih h with q | ⟨w, hw, q⟩
        · exact .inl q
        · exact .inr ⟨w, by simp [hw], q⟩
theorem le_join (y : Str) : ∀ {xs : List Str} {x : Str}, x ∈ xs → x.length ≤ (Txt.join y xs).length := by
  intro xs
  induction xs with
  | nil => intro x h; cases h
  | cons a xs ih =>
    intro x h
    rw [TL.join_eq] at ih ⊢
    cases xs with
    | nil => rw [List.mem_singleton] at h; subst h; exact Nat.le_refl _
    | cons z r =>
      show x.length ≤ (a ++ y ++ Str.join y (z :: r)).length
      rw [app_len, app_len]
      rcases List.mem_cons.mp h with h | h
      · subst h; omega
      · have := ih h; omega
theorem split_in {x y w : Str} (h : w ∈ Txt.split x y) : w.length ≤ x.length := by
  have := le_join y h
  rw [TL.join_eq, PySem.StrLaws.join_split] at this
  exact this
theorem split_ne {x y : Str} (hy : Txt.split "" y ≠ []) : Txt.split x y ≠ [] := fun h => by
  have e := PySem.StrLaws.join_split x y
  rw [h] at e
  have e2 : x = "" := e.symm
  rw [e2] at h
  exact hy h
theorem cut_init {α : Type} (xs : List α) : cut xs none (some (-1)) = xs.dropLast := by
  unfold cut
  rw [HT.sIx_none, List.drop_zero, Nat.sub_zero, List.dropLast_eq_take]
  refine congrArg (fun k => xs.take k) ?_
  show (if (-1 : Int) < 0 then ((-1 : Int) + (xs.length : Int)).toNat else min (-1 : Int).toNat xs.length) = _
  rw [if_pos (by decide)]
  omega
theorem ji_tx {X : Cx} {ρ : Rho} {a tg : Expr} {cs : List Nat} (ha : J X a ρ (.str (tx cs))) : JI X tg a ρ (cs.map fun c : Nat => D.str ⟨#[c]⟩) := ji_str ha
end Pf

/-! sets of texts: len(set(xs)), sorted(set(xs)), for any number of texts -/
namespace Pf
open PySem L2 PySem.Spec PyProof.Rows
open Evl (Ex)

/-- the texts that a set's entries bear -/
def txtOf (e : Int × Value) : Str := strOf e.2
def TxE (P : Program) (w : World) (e : Int × Value) : Prop := ∃ z tk, e = ((PySem.strKind P w).hash z, Value.str z tk)
/-- a set of texts at a: its members, each once, and a table that can be walked -/
structure TSet (P : Program) (w : World) (h : Heap) (a : Addr) (xs : List Str) (o : Obj) (es : Array (Int × Value)) (ep : Nat) (t : SetTable) : Prop where
  at' : h.get? a = some o
  ex : o.ExactSet
  da : o.data = .set es ep t
  tx : ∀ e ∈ es.toList, TxE P w e
  pm : (es.toList.map txtOf).Perm xs
  nd : xs.Nodup
  few : xs.length < scanBound
  fits : t.fits es.size = true
  ris : Ris t.place.toList
  led : w.params.followText "set-order" = true ∨ t.led = true
def TS1 (P : Program) (w : World) (h : Heap) (a : Addr) (xs : List Str) : Prop := ∃ o es ep t, TSet P w h a xs o es ep t
section
variable {P : Program} {w : World} {h h' : Heap} {a : Addr} {xs : List Str} {o : Obj} {es : Array (Int × Value)} {ep : Nat} {t : SetTable}
theorem TSet.size (R : TSet P w h a xs o es ep t) : es.size = xs.length := by rw [← Array.length_toList, ← R.pm.length_eq, List.length_map]
theorem TSet.els (R : TSet P w h a xs o es ep t) : ElemsOf (PySem.strKind P w) es.toList := fun e he => by
  obtain ⟨z, tk, rfl⟩ := R.tx e he
  exact ⟨⟨z, strKind_is _ _ _ _, rfl⟩, rfl⟩
theorem TSet.small (R : TSet P w h a xs o es ep t) : es.size < scanBound := by rw [R.size]; exact R.few
theorem TSet.has (R : TSet P w h a xs o es ep t) (k : Str) : k ∈ xs ↔ ∃ e ∈ es.toList, (PySem.strKind P w).is k e.2 = true := by
  rw [← R.pm.mem_iff, List.mem_map]
  constructor
  · rintro ⟨e, he, q⟩
    obtain ⟨z, tk, rfl⟩ := R.tx e he
    have q' : z = k := q
    exact ⟨_, he, by rw [q']; exact strKind_is _ _ _ _⟩
  · rintro ⟨e, he, q⟩
    obtain ⟨z, tk, rfl⟩ := R.tx e he
    exact ⟨_, he, (PySem.strKind P w).inj _ _ _ (strKind_is P w z tk) q⟩
theorem TS1.keep (R : TS1 P w h a xs) (k : ∀ o, h.get? a = some o → h'.get? a = some o) : TS1 P w h' a xs := by
  obtain ⟨o, es, ep, t, r⟩ := R
  exact ⟨o, es, ep, t, k o r.at', r.ex, r.da, r.tx, r.pm, r.nd, r.few, r.fits, r.ris, r.led⟩
end
/-- one more -/
def addD (xs : List Str) (k : Str) : List Str := if k ∈ xs then xs else xs ++ [k]
section
variable {P : Program} {w : World} {A : Around} {E : Value → Shared → Prop} {s : Shared} {a : Addr} {xs : List Str}
/-- what is stored behind an addition, the table grown or not -/
theorem ts_tail {xs' : List Str} {g : Bool → Sem Unit} (hg : ∀ (b : Bool) (s₁ : Shared) (Q' : Unit → Shared → Prop), Q' () s₁ → wpAny (model P w) A (g b) Q' E s₁) {o : Obj} {es es1 : Array (Int × Value)} {ep : Nat} {t t1 : SetTable} (ho : s.heap.get? a = some o) (hex : o.ExactSet) (hd : o.data = .set es ep t)
    (htx : ∀ e ∈ es1.toList, TxE P w e) (hpm : (es1.toList.map txtOf).Perm xs') (hnd : xs'.Nodup) (hfew : xs'.length < scanBound) (hfit : t1.fits es1.size = true) (hris : Ris t1.place.toList) (hled : w.params.followText "set-order" = true ∨ t1.led = true) {d : Bool} {R : Option Bool → Shared → Prop}
    (hR : ∀ h', Heap.SameBut a s.heap h' → TS1 P w h' a xs' → R (some true) { s with heap := h' }) :
    wpAny (model P w) A (do
        storeSet a es1 t1
        if (!d && t1.tooFull) = true then do
            g (relayAll t1 es1 (SetTable.grown es1.size)).2.2
            storeSet a (relayAll t1 es1 (SetTable.grown es1.size)).1 (relayAll t1 es1 (SetTable.grown es1.size)).2.1
            pure (some true)
          else pure (some true)) R E s := by
  have z1 : es1.size = xs'.length := by rw [← Array.length_toList, ← hpm.length_eq, List.length_map]
  have b1 : es1.size < scanBound := by rw [z1]; exact hfew
  refine wpAny_bind (wpAny_storeSet_of ho hd ?_ (fits_of_scanBound b1))
  have at1 := store_at (es' := es1) (t' := t1) ho hd
  have same1 := Heap.SameBut.update s.heap a (Obj.putSet es1 t1)
  split
  · have p2 := relayAll_perm t1 es1 (SetTable.grown es1.size)
    have f2 := relayAll_fits t1 es1 (SetTable.grown es1.size)
    have r2 := relayAll_ris t1 es1 (SetTable.grown es1.size)
    have l2 := relayAll_led t1 es1 (SetTable.grown es1.size)
    rcases hz : relayAll t1 es1 (SetTable.grown es1.size) with ⟨es2, t2, gave⟩
    rw [hz] at p2 f2 r2 l2
    have z2 : es2.size = es1.size := by rw [← Array.length_toList, ← Array.length_toList]; exact p2.length_eq
    refine wpAny_bind (hg _ _ _ (wpAny_bind (wpAny_storeSet_of at1 rfl (wpAny_pure (hR _ (same1.trans (Heap.SameBut.update _ a _)) ⟨_, es2, _, t2, store_at at1 rfl, hex, rfl, fun e he => htx e (p2.mem_iff.mp he), (p2.map txtOf).trans hpm, hnd, hfew, f2, r2, ?_⟩)) (fits_of_scanBound (by show es2.size < scanBound; rw [z2]; exact b1)))))
    rcases hled with q | q
    · exact .inl q
    · exact .inr (l2.trans q)
  · exact wpAny_pure (hR _ same1 ⟨_, es1, _, t1, at1, hex, rfl, htx, hpm, hnd, hfew, hfit, hris, hled⟩)
theorem ts_add {k : Str} {tk : Tok} {Q : Bool → Shared → Prop} (R : TS1 P w s.heap a xs) (room : xs.length + 1 < scanBound) (hQ : ∀ b h', Heap.SameBut a s.heap h' → TS1 P w h' a (addD xs k) → Q b { s with heap := h' }) :
    wpAny (model P w) A (setAddHashed a (.str k tk) ((PySem.strKind P w).hash k)) Q E s := by
  obtain ⟨o, es, ep, t, r⟩ := R
  have hkey : (PySem.strKind P w).is k (.str k tk) = true := strKind_is P w k tk
  have hsc : (Value.str k tk).scannable = true := rfl
  unfold setAddHashed setAddHashedIn
  refine wpAny_holding (wpAny_bind (wpAny_setState_of r.at' r.da r.fits ?_))
  dsimp only
  rw [byScan_of hsc r.small r.els]
  simp only [↓reduceIte]
  unfold setAddByScan
  refine wpAny_bind (wpAny_bind (wpAny_rule (wpAny_bind (wpAny_setScan_of hkey r.at' r.da r.fits r.els ?_))))
  cases hfi : List.findIdx? (fun e => (PySem.strKind P w).is k e.2) es.toList with
  | some j =>
    dsimp only
    obtain ⟨hj, pj, _⟩ := List.findIdx?_eq_some_iff_getElem.mp hfi
    have hin : k ∈ xs := (r.has k).mpr ⟨es.toList[j], List.getElem_mem hj, pj⟩
    have e : addD xs k = xs := by unfold addD; rw [if_pos hin]
    exact wpAny_pure (wpAny_pure (hQ _ s.heap (Heap.SameBut.refl a s.heap) (by rw [e]; exact ⟨o, es, ep, t, r⟩)))
  | none =>
    dsimp only
    have hnin : k ∉ xs := fun q => by
      obtain ⟨e, he, q⟩ := (r.has k).mp q
      have := List.findIdx?_eq_none_iff.mp hfi e he
      rw [q] at this; cases this
    have e : addD xs k = xs ++ [k] := by unfold addD; rw [if_neg hnin]
    rw [e] at hQ
    have gw : ∀ (b : Bool) {s₁ : Shared} {Q' : Unit → Shared → Prop}, Q' () s₁ → wpAny (model P w) A (match b with | true => rule "set.scan.the-table-gave-way" | false => pure ()) Q' E s₁ := fun b s₁ Q' q => by
      cases b
      · exact wpAny_pure q
      · exact wpAny_rule q
    have p1 := layNew_perm t es ((PySem.strKind P w).hash k) (.str k tk)
    have f1 := layNew_fits t es ((PySem.strKind P w).hash k) (.str k tk)
    have r1 := layNew_ris t es ((PySem.strKind P w).hash k) (.str k tk) r.ris
    have l1 := layNew_led t es ((PySem.strKind P w).hash k) (.str k tk)
    rcases hz : layNew t es ((PySem.strKind P w).hash k) (.str k tk) with ⟨es1, t1, wasDummy, gave⟩
    rw [hz] at p1 f1 r1 l1
    dsimp only at p1 f1 r1 l1 ⊢
    rw [Array.toList_push] at p1
    have tx1 : ∀ e ∈ es1.toList, TxE P w e := fun e he => by
      rcases List.mem_append.mp (p1.mem_iff.mp he) with q | q
      · exact r.tx e q
      · rw [List.mem_singleton] at q; exact ⟨k, tk, q⟩
    have pm1 : (es1.toList.map txtOf).Perm (xs ++ [k]) := by
      have q := p1.map txtOf
      rw [List.map_append] at q
      exact q.trans (List.Perm.append_right _ r.pm)
    have nd1 : (xs ++ [k]).Nodup := by
      rw [List.nodup_append]
      exact ⟨r.nd, by simp, fun x hx y hy exy => by rw [List.mem_singleton] at hy; exact hnin (by rw [← hy, ← exy]; exact hx)⟩
    have few1 : (xs ++ [k]).length < scanBound := by rw [List.length_append]; exact room
    have led1 : w.params.followText "set-order" = true ∨ t1.led = true := by
      rcases r.led with q | q
      · exact .inl q
      · exact .inr (l1.trans q)
    refine wpAny_bind (gw _ ?_)
    split
    · refine wpAny_bind ?_
      rw [hashByValue_scannable 8 hsc]
      refine wpAny_pure (ts_tail ?_ r.at' r.ex r.da tx1 pm1 nd1 few1 ?_ ?_ ?_ ?_)
      · intro b s₁ Q' q; cases b <;> first | exact wpAny_pure q | exact wpAny_rule q
      · first | (split <;> first | exact f1 | exact SetTable.fits_plain_off f1) | exact f1
      · first | (split <;> exact r1) | exact r1
      · first | (split <;> exact led1) | exact led1
      · intro h' sb q; dsimp only; exact wpAny_pure (hQ _ h' sb q)
    · refine wpAny_bind (wpAny_pure ?_)
      simp only [↓reduceIte]
      refine ts_tail ?_ r.at' r.ex r.da tx1 pm1 nd1 few1 f1 r1 led1 ?_
      · intro b s₁ Q' q; cases b <;> first | exact wpAny_pure q | exact wpAny_rule q
      · intro h' sb q; dsimp only; exact wpAny_pure (hQ _ h' sb q)
end
def ddL (xs : List Str) : List Str := xs.foldl addD []
theorem ddL_snoc (xs : List Str) (x : Str) : ddL (xs ++ [x]) = addD (ddL xs) x := by unfold ddL; rw [List.foldl_append]; rfl
theorem addD_len (xs : List Str) (x : Str) : (addD xs x).length ≤ xs.length + 1 := by unfold addD; split <;> simp
theorem ddL_len (xs : List Str) : (ddL xs).length ≤ xs.length := by
  have key : ∀ (l acc : List Str), (l.foldl addD acc).length ≤ acc.length + l.length := by
    intro l
    induction l with
    | nil => intro acc; simp
    | cons x l ih =>
      intro acc
      have := ih (addD acc x)
      have := addD_len acc x
      rw [List.foldl_cons, List.length_cons]
      omega
  have := key xs []
  simpa [ddL] using this
theorem ddL_take {xs : List Str} {i : Nat} (h : i < xs.length) : ddL (xs.take (i + 1)) = addD (ddL (xs.take i)) (xs.getD i Str.empty) := by
  rw [List.take_add_one, List.getD_eq_getElem?_getD, List.getElem?_eq_getElem h]
  exact ddL_snoc _ _
section
variable {prog : Program} {w : World} {A : Around} {R : Result → Shared → Prop} {I : Addr} {fp wr : List Addr} {G : Array GenState → Array GenState → Prop} {n : Nat} {Pv : Nat → Value → Prop} {St : Nat → Shared → Prop}
theorem ts_loop (W : WalksS prog w A.in1 I fp wr G n Pv St) (S : Addr) (hS : S ∉ fp) (zs : List Str) (hz : zs.length = n) (hb : n + 1 < scanBound) (hval : ∀ i v, Pv i v → ∃ t, v = .str (zs.getD i Str.empty) t) :
    ∀ (k i : Nat) (s : Shared), n - i = k → i ≤ n → St i s → TS1 prog w s.heap S (ddL (zs.take i)) → (∀ s', Moved (S :: wr) G s s' → TS1 prog w s'.heap S (ddL zs) → R (.ok (.ret .none)) s') →
      codeAny (model prog w) A (.builtin "set.update.loop" ⟨[.ref S, .ref I], []⟩) R s := by
  have notW : S ∉ wr := fun q => hS (W.sub _ q)
  intro k
  induction k with
  | zero =>
    intro i s hk hi st T fin
    have hin : i = n := by omega
    subst hin
    refine codeAny_builtin PyProof.Rows.F.entry_set_update_loop ?_
    rw [Around.under_plainId PyProof.Rows.F.plain_set_update_loop _]
    show wpAny _ A.in1 (pyNext (.ref I) >>= _) _ _ s
    refine wpAny_bind (W.done s _ _ st fun s' hm => ?_)
    show wpAny _ A.in1 (ret Value.none) _ _ s'
    rw [← hz, List.take_length] at T
    exact wpAny_pure (fin s' (hm.mono fun b q => List.mem_cons_of_mem _ q) (T.keep fun o q => hm.heap S _ notW q))
  | succ k ih =>
    intro i s hk hi st T fin
    have hlt : i < n := by omega
    refine codeAny_builtin PyProof.Rows.F.entry_set_update_loop ?_
    rw [Around.under_plainId PyProof.Rows.F.plain_set_update_loop _]
    show wpAny _ A.in1 (pyNext (.ref I) >>= _) _ _ s
    refine wpAny_bind (W.item i s _ _ hlt st fun v s' hP st' hm => ?_)
    obtain ⟨t, rfl⟩ := hval i v hP
    have T' := T.keep fun o q => hm.heap S _ notW q
    show wpAny _ A.in1 (holding [Value.str (zs.getD i Str.empty) t] (setAdd S (.str (zs.getD i Str.empty) t)) >>= _) _ _ s'
    refine wpAny_bind (wpAny_holding ?_)
    unfold setAdd
    refine wpAny_holding (wpAny_bind ((PySem.strKind prog w).pyHash (k := zs.getD i Str.empty) (strKind_is _ _ _ _) ?_))
    have room : (ddL (zs.take i)).length + 1 < scanBound := by
      have := ddL_len (zs.take i)
      rw [List.length_take] at this
      omega
    refine ts_add (s := { s' with toks := s'.toks + 1 }) T' room fun _ h' sb T2 => ?_
    rw [← ddL_take (by omega)] at T2
    refine wpAny_pure ⟨plainId_quiet PyProof.Rows.F.plain_set_update_loop _, ih (i + 1) _ (by omega) hlt (W.frame _ s' _ _ st' (Nat.le_succ _) fun b hb o e => ?_) T2 fun s'' hm'' T3 => ?_⟩
    · rw [sb.2 b (fun q : b = S => hS (by rw [← q]; exact hb))]; exact e
    · refine fin s'' (Moved.trans W.gtrans ((hm.mono fun b q => List.mem_cons_of_mem _ q).then_heap (Nat.le_succ _) fun b o hb e => ?_) hm'') T3
      rw [sb.2 b (fun q : b = S => hb (by rw [q]; exact List.mem_cons_self))]; exact e
end
section
variable {P : Program} {w : World} {A : Around} {E : Value → Shared → Prop} {s : Shared}
/-- set.__new__ with something to take in: the table keeps its order where the world doesn't follow the text -/
theorem new_led (a : Value) {Q : Value → Shared → Prop} (h : Q (.ref s.heap.objs.size) { s with heap := s.heap.push { cls := .type "set", dict := none, data := .set #[] 0 (.fresh 0 0 (!w.params.followText "set-order")) } }) :
    codeAny (model P w) A (.call (.builtin "set.__new__") ⟨[.type "set", a], []⟩) (wants Q E) s := by
  refine codeAny_of_tree (show wpAny _ A.in1 (do checkBuiltinCall "set.__new__" ⟨[.type "set", a], []⟩; again (.builtin "set.__new__" ⟨[.type "set", a], []⟩)) _ _ s from ?_)
  refine wpAny_bind (wpAny_of_eq (PySem.F.newCall_set_1 a) (wpAny_pure ⟨plainId_quiet PySem.F.plain_set_new _, codeAny_builtin PySem.F.entry_set_new ?_⟩))
  rw [Around.under_plainId PySem.F.plain_set_new _]
  unfold Builtin.«set.__new__» Builtin.Frozenset.newClass
  have hsub := sub_set_self
  obtain ⟨hp, g, d, tk, os⟩ := s
  dsimp only
  wp_walk
  refine wpAny_askSetting (wpAny_pure ?_)
  dsimp only
  simp only [newObj]
  exact wpAny_bind (wpAny_alloc (wpAny_pure (wpAny_pure h)))
theorem ts_fresh (h : Heap) : TS1 P w (h.push { cls := .type "set", dict := none, data := .set #[] 0 (.fresh 0 0 (!w.params.followText "set-order")) }) h.objs.size [] :=
  ⟨_, #[], 0, _, Heap.get?_push_size _ rfl, ⟨rfl, rfl, rfl⟩, rfl, (fun e he => by simp at he), .refl _, List.nodup_nil, by decide, rfl, List.Pairwise.nil, by
    show _ ∨ (!w.params.followText "set-order") = true
    cases w.params.followText "set-order"
    · exact .inr rfl
    · exact .inl rfl⟩
end
section
variable {P : Program} {w : World} {A : Around} {E : Value → Shared → Prop} {s : Shared}
theorem strs_val {us : List Value} {xs : List Str} (h : StrsAre us xs) (i : Nat) (v : Value) (q : us[i]? = some v) : ∃ t, v = .str (xs.getD i Str.empty) t := SS.strs_at h i v q
set_option maxHeartbeats 3200000 in
/-- set(xs), xs a list of texts -/
theorem call_set_ts {l : Addr} {items : Array Value} {zs : List Str} {Q : Value → Shared → Prop} (hh : A.handled = none) (hl : s.heap.IsList l items) (hi : StrsAre items.toList zs) (hf : zs.length + 1 < scanBound)
    (h : ∀ (h' : Heap) (tk : Nat), TS1 P w h' s.heap.objs.size (ddL zs) → (∀ b o, s.heap.get? b = some o → h'.get? b = some o) → Q (.ref s.heap.objs.size) { s with heap := h', toks := tk }) :
    wpAny (model P w) A (call (.type "set") [.ref l]) Q E s := by
  have hsz : zs.length = items.size := by rw [← StrsAre.len_eq hi, Array.length_toList]
  have hlS : l < s.heap.objs.size := by obtain ⟨o, ho, _⟩ := hl; exact Heap.lt_size ho
  obtain ⟨c, tl, hmro⟩ := PySem.F.called_set.mro
  have hmade := PySem.F.called_set.made
  have hsub := PySem.F.called_set.sub
  refine wpAny_call (codeAny_of_tree (show wpAny _ _ (callAny (.type "set") _) _ _ _ from ?_))
  refine wpAny_pure ⟨Code.quiet_builtin _ (by decide +kernel), codeAny_builtin PySem.F.entry_type_call ?_⟩
  rw [Around.under_plain (weight_type_call_type "set" [.ref l] []) rfl]
  have h1 := PySem.F.called_set.notType
  have h2 := PySem.F.called_set.canCreate
  have hct := PySem.F.typeCall_set_1 (.ref l)
  repeat (any_goals (first | assumption | wp_step))
  refine codeAny_mono (new_led (.ref l) (E := E) (Q := fun obj s₁ => obj = .ref s.heap.objs.size ∧ s₁ = { s with heap := s.heap.push { cls := .type "set", dict := none, data := .set #[] 0 (.fresh 0 0 (!w.params.followText "set-order")) } }) ⟨rfl, rfl⟩) fun r s₁ hr => ?_
  cases r with
  | error e => exact hr
  | ok fl =>
    cases fl with
    | next => exact hr.elim
    | brk => exact hr.elim
    | cont => exact hr.elim
    | ret obj =>
      obtain ⟨rfl, rfl⟩ := hr
      have T0 := ts_fresh (P := P) (w := w) s.heap
      have hS : (s.heap.push { cls := .type "set", dict := none, data := .set #[] 0 (.fresh 0 0 (!w.params.followText "set-order")) }).get? s.heap.objs.size = some { cls := .type "set", dict := none, data := .set #[] 0 (.fresh 0 0 (!w.params.followText "set-order")) } := Heap.get?_push_size _ rfl
      have hl1 : (s.heap.push { cls := .type "set", dict := none, data := .set #[] 0 (.fresh 0 0 (!w.params.followText "set-order")) }).IsList l items := hl.push _
      have kp0 : ∀ b o, s.heap.get? b = some o → (s.heap.push { cls := .type "set", dict := none, data := .set #[] 0 (.fresh 0 0 (!w.params.followText "set-order")) }).get? b = some o := fun b o q => Heap.get?_push_of_some _ q
      have hz1 : (s.heap.push { cls := .type "set", dict := none, data := .set #[] 0 (.fresh 0 0 (!w.params.followText "set-order")) }).objs.size = s.heap.objs.size + 1 := size_push' _ _
      generalize s.heap.push { cls := .type "set", dict := none, data := .set #[] 0 (.fresh 0 0 (!w.params.followText "set-order")) } = hp1 at T0 hS hl1 kp0 hz1
      have hT : Shared.TypeIs { s with heap := hp1 } (.ref s.heap.objs.size) "set" := ⟨_, hS, rfl⟩
      have hli := PySem.F.called_set.init.lookup
      have hbi := PySem.F.called_set.init.bind (.ref s.heap.objs.size)
      repeat (any_goals (first | assumption | wp_step))
      refine codeAny_mono (codeAny_call_builtin (R := wants (fun r s₂ => r = .none ∧ ∃ h' tk, s₂ = { s with heap := h', toks := tk } ∧ TS1 P w h' s.heap.objs.size (ddL zs) ∧ ∀ b o, s.heap.get? b = some o → h'.get? b = some o) E) PySem.F.called_set.init.plain PySem.F.entry_set_init (check_set_init_1 hT ?_)) fun r₂ s₂ hr₂ => ?_
      · obtain ⟨ol, hol, hcl, nl, hdl⟩ := id hl1
        obtain ⟨ocls, odict, odata, oslots⟩ := ol
        simp only at hcl hdl
        subst hcl; subst hdl
        have hsls := PySem.F.sub_list_set
        have hslf := PySem.F.sub_list_frozenset
        have hne : (Value.type "list" == Value.type "dict") = false := by decide
        unfold Builtin.«set.__init__» noKeywords Builtin.Frozenset.updateFrom
        generalize hPI : pyIter = PI
        wp_walk
        subst hPI
        refine wpAny_pyIter_list hl1 (wpAny_bind (wpAny_runValue ?_))
        have hneI : l ≠ hp1.objs.size := by rw [hz1]; exact Nat.ne_of_lt (Nat.lt_succ_of_lt hlS)
        have hSf : s.heap.objs.size ∉ [hp1.objs.size, l] := by
          rw [hz1]
          simp only [List.mem_cons, List.not_mem_nil, or_false, not_or]
          exact ⟨Nat.ne_of_lt (Nat.lt_succ_self _), Nat.ne_of_gt hlS⟩
        have hval : ∀ (i : Nat) (v : Value), items[i]? = some v → ∃ t, v = .str (zs.getD i Str.empty) t := fun i v hv => SS.strs_at hi i v (by rw [Array.getElem?_toList]; exact hv)
        have hh3 : A.in1.in1.in1.handled = none := by simp [hh]
        refine ts_loop ((Walks.list hh3 _ l hneI items).toS) s.heap.objs.size hSf zs hsz (by rw [← hsz]; exact hf) hval (items.size - 0) 0 _ (by omega) (Nat.zero_le _) ⟨⟨_, Heap.get?_push_size _ rfl, rfl, rfl⟩, (hl1.push _)⟩ (T0.keep fun o q => Heap.get?_push_of_some _ q) ?_
        intro s' hm T
        obtain ⟨h', g', d', tk', os'⟩ := s'
        have eg : g' = s.gens := hm.gens
        have ed : d' = s.drawn := hm.drawn
        have eo : os' = s.os := hm.os
        subst eg; subst ed; subst eo
        show wpAny _ _ _ _ _ _
        refine wpAny_pure ?_
        show wpAny _ _ (ret Value.none) _ _ _
        refine wpAny_pure ⟨rfl, h', tk', rfl, T, fun b o q => ?_⟩
        have hb := Heap.lt_size q
        refine hm.heap b o (fun z => ?_) (Heap.get?_push_of_some _ (kp0 b o q))
        simp only [List.mem_cons, List.not_mem_nil, or_false] at z
        rcases z with z | z
        · exact absurd z (Nat.ne_of_lt hb)
        · exact absurd z (by rw [hz1]; exact Nat.ne_of_lt (Nat.lt_succ_of_lt hb))
      · cases r₂ with
        | error e => exact hr₂
        | ok fl₂ =>
          cases fl₂ with
          | ret r =>
            obtain ⟨rfl, h', tk, rfl, T, kp⟩ := hr₂
            repeat (any_goals (first | assumption | wp_step))
            exact h _ _ T kp
          | next => exact hr₂.elim
          | brk => exact hr₂.elim
          | cont => exact hr₂.elim
end
end Pf

/-! len(set(xs)), sorted(set(xs)), xs a list of texts -/
namespace Pf
open PySem L2 PySem.Spec PyProof.Rows
open Evl (Ex)
/-- the order of texts -/
def ltT (a b : Str) : Prop := a.cps.toList < b.cps.toList
theorem ltT_of {a b : Str} (h : ltCps b.cps.toList a.cps.toList = false) (hne : a ≠ b) : ltT a b := by
  rw [ltCps_eq] at h
  have h' : ¬ b.cps.toList < a.cps.toList := of_decide_eq_false h
  unfold ltT
  rcases Std.lt_trichotomy a.cps.toList b.cps.toList with q | q | q
  · exact q
  · exact absurd (TL.ext_tl q) hne
  · exact absurd q h'
theorem asc_of : ∀ {p : Str} {l : List Str}, risingS p l = true → (p :: l).Nodup → (p :: l).Pairwise ltT
  | p, [], _, _ => List.pairwise_singleton _ _
  | p, x :: r, h, hn => by
    have h' : (!ltCps x.cps.toList p.cps.toList && risingS x r) = true := h
    rw [Bool.and_eq_true, Bool.not_eq_true'] at h'
    have ih := asc_of h'.2 (List.nodup_cons.mp hn).2
    have hpx := ltT_of h'.1 (fun e => (List.nodup_cons.mp hn).1 (by rw [e]; simp))
    refine List.pairwise_cons.mpr ⟨fun y hy => ?_, ih⟩
    rcases List.mem_cons.mp hy with rfl | hy
    · exact hpx
    · exact List.lt_trans hpx ((List.pairwise_cons.mp ih).1 y hy)
theorem asc_sorted {l : List Str} (h : sortedS l = true) (hn : l.Nodup) : l.Pairwise ltT := by
  cases l with
  | nil => exact .nil
  | cons p l => exact asc_of h hn
theorem addD_mem (xs : List Str) (k z : Str) : z ∈ addD xs k ↔ z ∈ xs ∨ z = k := by
  unfold addD
  split
  · constructor
    · exact .inl
    · rintro (q | rfl)
      · exact q
      · assumption
  · simp
theorem ddL_mem (xs : List Str) (z : Str) : z ∈ ddL xs ↔ z ∈ xs := by
  have key : ∀ (l acc : List Str), z ∈ l.foldl addD acc ↔ z ∈ acc ∨ z ∈ l := by
    intro l
    induction l with
    | nil => intro acc; simp
    | cons x l ih =>
      intro acc
      rw [List.foldl_cons, ih, addD_mem, List.mem_cons]
      constructor
      · rintro ((h | h) | h)
        · exact .inl h
        · exact .inr (.inl h)
        · exact .inr (.inr h)
      · rintro (h | h | h)
        · exact .inl (.inl h)
        · exact .inl (.inr h)
        · exact .inr h
  unfold ddL
  rw [key]; simp
theorem ddL_all {xs : List Str} : (ddL xs).length = xs.length ↔ xs.Nodup := by
  have key : ∀ (l acc : List Str), acc.Nodup → (l.foldl addD acc).length ≤ acc.length + l.length ∧ ((l.foldl addD acc).length = acc.length + l.length ↔ (acc ++ l).Nodup) := by
    intro l
    induction l with
    | nil => intro acc h; simpa using h
    | cons x l ih =>
      intro acc h
      rw [List.foldl_cons]
      by_cases hx : x ∈ acc
      · rw [show addD acc x = acc from if_pos hx]
        have q := ih acc h
        refine ⟨by rw [List.length_cons]; omega, ⟨fun e => ?_, fun hn => ?_⟩⟩
        · rw [List.length_cons] at e; omega
        · rw [List.nodup_append] at hn
          exact absurd rfl (hn.2.2 x hx x (by simp))
      · rw [show addD acc x = acc ++ [x] from if_neg hx]
        have hn : (acc ++ [x]).Nodup := by
          rw [List.nodup_append]
          exact ⟨h, by simp, fun a ha b hb e => by rw [List.mem_singleton] at hb; exact hx (by rw [← hb, ← e]; exact ha)⟩
        have q := ih (acc ++ [x]) hn
        rw [List.length_append, List.append_assoc] at q
        simp only [List.length_cons, List.length_nil, List.singleton_append] at q ⊢
        refine ⟨by omega, ?_⟩
        rw [← q.2]
        constructor <;> intro e <;> omega
  have := (key xs [] List.nodup_nil).2
  simpa [ddL] using this
section
variable {P : Program} {w : World} {A : Around} {E : Value → Shared → Prop} {s : Shared} {a : Addr} {xs : List Str}
theorem strs_of_vals : ∀ (vs : List Value), (∀ v ∈ vs, ∃ z tk, v = Value.str z tk) → StrsAre vs (vs.map strOf)
  | [], _ => .nil
  | v :: vs, h => by
    obtain ⟨z, tk, rfl⟩ := h v List.mem_cons_self
    exact .cons z tk (strs_of_vals vs fun u hu => h u (List.mem_cons_of_mem _ hu))
theorem sorted_ts {Q : Value → Shared → Prop} (R : TS1 P w s.heap a xs) (hh : A.handled = none)
    (hQ : ∀ s' p (out : Array Value) (c : Nat) (zs : List Str), (∀ b o, s.heap.get? b = some o → s'.heap.get? b = some o) → s'.gens = s.gens → s'.os = s.os → s.heap.objs.size ≤ p → s'.heap.get? p = some (seqObj "list" out c) → StrsAre out.toList zs → zs.Perm xs → zs.Pairwise ltT → Q (.ref p) s') :
    wpAny (model P w) A (call (.builtin "sorted") [.ref a]) Q E s := by
  obtain ⟨o, es, ep, t, r⟩ := R
  refine Calls.call_function_entry kind_sorted plain_sorted entry_sorted (args_sorted1 _) ?_
  unfold Builtin.«sorted»
  refine wpAny_bind (m := checkCount "sorted" 1 1 _) (wpAny_pure ?_)
  refine wpAny_bind (collect_set (A := A.in1) hh ⟨o, r.at', r.ex.1, r.da⟩ r.fits r.small r.ris r.led fun s1 vs k1 hz g1 o1 pm => ?_)
  have hI : StrsAre vs (vs.map strOf) := strs_of_vals vs fun v hv => by
    obtain ⟨e, he, q⟩ := List.mem_map.mp (pm.mem_iff.mp hv)
    obtain ⟨z, tk, rfl⟩ := r.tx e he
    exact ⟨z, tk, q.symm⟩
  have hp : (vs.map strOf).Perm xs := by
    have q := pm.map strOf
    rw [List.map_map] at q
    exact q.trans r.pm
  have hvl : vs.length ≤ sizeLine := by
    rw [← List.length_map (f := strOf), hp.length_eq]
    exact fits_of_scanBound r.few
  refine wpAny_bind (wpAny_newList ?_ hvl)
  have hoL : (s1.heap.push (seqObj "list" vs.toArray 0)).get? s1.heap.objs.size = some (seqObj "list" vs.toArray 0) := Heap.get?_push_size _ rfl
  refine wpAny_bind (wpAny_holding (wpAny_call_entry slot_list_sort ⟨_, hoL, rfl⟩ entry_list_sort (list_sort_treeKAny strKind_oneLt hoL hI.keysOf (fun v₁ v₂ rest e => keyKind_strs (by rw [← e]; exact hI)) hvl fun st' hp2 hs => ⟨_, rfl, ?_⟩) (args_list_sort _)))
  obtain ⟨zs, a1, a2, a3⟩ := sorted_out_str hI hp2 hs
  obtain ⟨c, hc⟩ := sortedHeap_at (vs := vs) (out := (arrOf st').map (·.2)) hoL
  have pz := a2.trans hp
  refine wpAny_pure ⟨_, rfl, hQ _ s1.heap.objs.size _ c zs (fun b u e => ?_) g1 o1 hz hc a1 pz (asc_sorted a3 (pz.nodup_iff.mpr r.nd))⟩
  have q := k1 b u e
  have hlt := Heap.lt_size q
  show (sortedHeap (s1.heap.push (seqObj "list" vs.toArray 0)) s1.heap.objs.size vs _).get? b = some u
  rw [sortedHeap_old (Nat.ne_of_lt hlt) (by rw [size_push']; exact Nat.lt_succ_of_lt hlt)]
  exact Heap.get?_push_of_some _ q
end
section
variable {X : Cx} {a : Expr} {ta : TE} {p p2 q pos : Pos} {ρ : Rho} {zs : List Str}
def tSetL (K : PySem.W.Frag) (ta : TE) (k : List Str → Hp → VK → Prop) : TE := fun σ H Q => ta σ H fun x H1 => ∃ l, ∃ xs : List Str, x = .ref l ∧ SqL K H1 l (xs.map V.str) ∧ xs.length + 1 < scanBound ∧ k xs H1 Q
theorem pe_lenTS (hc : X.calm = true) (hg : Gl X "len") (hm : X.mg "len" = none) (hg2 : Gl X "set") (hm2 : X.mg "set" = none) (ha : PE X a ta) (na : starEach [a] X.env = (false, eval a X.env) :: starEach [] X.env := by rfl) :
    PE X (.Call (.Name "len" p) [.Call (.Name "set" p2) [a] [] q] [] pos) (tSetL X.K ta fun xs H1 Q => Q (.int ((ddL xs).length : Nat)) H1) := by
  refine ⟨fun pins s σ H Q I h => ?_⟩
  refine Call_ (ld_blt I hg hm boot_len ?_)
  refine PyProof.Rows.callWith_builtin1 (PyProof.Rows.args_cons ?_ rfl) rfl rfl
  refine Call_ (ld_blt I hg2 hm2 boot_set ?_)
  refine PyProof.Rows.callWith_type1 (PyProof.Rows.args_cons (thn (ha.run pins s σ H _ I h) fun v s1 ⟨x, H1, I1, r1, q1⟩ => PyProof.Rows.args_nil ?_) na) na rfl
  obtain ⟨l, xs, rfl, hq, hb, q1⟩ := q1
  cases r1
  obtain ⟨its, r, pl, hz⟩ := I1.list hq
  refine call_set_ts (P := X.prog) (w := X.w) (I1.ok.hd hc) pl.isList (by simpa using strsAre_of r) hb fun h' tk T hk => ?_
  refine PyProof.Rows.args_nil ?_
  obtain ⟨o, es, ep, t, R⟩ := T
  have I2 : Inv X pins σ H1 { s1 with heap := h', toks := tk } := I1.kept fun b o e => hk b o e
  have hl := ddL_len xs
  have hs := R.size
  exact call_len_set R.at' R.ex R.da R.fits (by have h4 : scanBound = 4096 := rfl; omega) ⟨.int ((ddL xs).length : Nat), H1, I2.tok _, ⟨_, by rw [hs]⟩, q1⟩
theorem pe_sortedTS (hc : X.calm = true) (hg : Gl X "sorted") (hm : X.mg "sorted" = none) (hg2 : Gl X "set") (hm2 : X.mg "set" = none) (hb0 : bootBuiltins "sorted" = some (.builtin "sorted")) (ha : PE X a ta) (na : starEach [a] X.env = (false, eval a X.env) :: starEach [] X.env := by rfl) :
    PE X (.Call (.Name "sorted" p) [.Call (.Name "set" p2) [a] [] q] [] pos) (tSetL X.K ta fun xs H1 Q => ∀ (zs : List Str) (l' : Addr), zs.Pairwise ltT → (∀ z, z ∈ zs ↔ z ∈ xs) → zs.length ≤ xs.length → H1 l' = none → Q (.ref l') (upd H1 l' (.lst (zs.map V.str)))) := by
  refine ⟨fun pins s σ H Q I h => ?_⟩
  refine Call_ (ld_blt I hg hm hb0 ?_)
  refine PyProof.Rows.callWith_builtin1 (PyProof.Rows.args_cons ?_ rfl) rfl rfl
  refine Call_ (ld_blt I hg2 hm2 boot_set ?_)
  refine PyProof.Rows.callWith_type1 (PyProof.Rows.args_cons (thn (ha.run pins s σ H _ I h) fun v s1 ⟨x, H1, I1, r1, q1⟩ => PyProof.Rows.args_nil ?_) na) na rfl
  obtain ⟨l, xs, rfl, hq, hb, q1⟩ := q1
  cases r1
  obtain ⟨its, r, pl, hz⟩ := I1.list hq
  refine call_set_ts (P := X.prog) (w := X.w) (I1.ok.hd hc) pl.isList (by simpa using strsAre_of r) hb fun h' tk T hk => ?_
  refine PyProof.Rows.args_nil ?_
  have I2 : Inv X pins σ H1 { s1 with heap := h', toks := tk } := I1.kept fun b o e => hk b o e
  have T2 : TS1 X.prog X.w ({ s1 with heap := h', toks := tk } : Shared).heap s1.heap.objs.size (ddL xs) := T
  generalize ({ s1 with heap := h', toks := tk } : Shared) = s2 at I2 T2 ⊢
  refine sorted_ts (P := X.prog) (w := X.w) T2 (I1.ok.hd hc) fun s' l' out c zs kp g o hp hg' hi pm asc => ?_
  have hlen : (zs.map V.str).length ≤ sizeLine := by
    have := ddL_len xs
    rw [List.length_map, pm.length_eq]
    exact fits_of_scanBound (by omega)
  have hn : H1 l' = none := I2.hok.fresh hp
  have J : Inv X pins σ (upd H1 l' (.lst (zs.map V.str))) { s2 with heap := s'.heap, gens := s'.gens, drawn := s'.drawn, toks := s'.toks } :=
    I2.call (ch := []) (Un.laid kp hp hn) (I2.hok.laid kp hp ⟨hlen, out.toList, c, vals_of_strs hi, hg'⟩) (by rw [g]; exact I2.bare) (fun _ z => nomatch z)
  have e : s' = { s2 with heap := s'.heap, gens := s'.gens, drawn := s'.drawn, toks := s'.toks } := by
    cases s'
    cases s2
    cases o
    rfl
  rw [e]
  exact ⟨.ref l', _, J, rfl, q1 zs l' asc (fun z => (pm.mem_iff).trans (ddL_mem xs z)) (by rw [pm.length_eq]; exact ddL_len xs) hn⟩
end
section
variable {X : Cx} {a : Expr} {p p2 q pos : Pos} {ρ : Rho} {xs : List Str}
/-- len(set(xs)) -/
theorem jb_lenSet (T : Bt X.mg) (ha : J X a ρ (.lst (xs.map D.str))) (hb : xs.length + 1 < scanBound) (hc : X.calm = true := by rfl) (hg : Gl X "len" := by rfl) (hg2 : Gl X "set" := by rfl) (na : starEach [a] X.env = (false, eval a X.env) :: starEach [] X.env := by rfl) :
    J X (.Call (.Name "len" p) [.Call (.Name "set" p2) [a] [] q] [] pos) ρ (.int ((ddL xs).length : Nat)) := ⟨fun W σ H ex hV Q g => .of (pe_lenTS hc hg T.len hg2 T.set pe_w na) (ha W σ H ex hV _ fun v W1 H1 s1 r1 => by
  cases r1 with
  | lst h1 k => cases k.strs; exact ⟨_, xs, rfl, SqL.of (s1.wh _ _ h1), hb, g _ W1 H1 s1 (.int _)⟩)⟩
/-- sorted(set(xs)) -/
theorem jp_sortedSet (T : Bt X.mg) (ha : J X a ρ (.lst (xs.map D.str))) (hb : xs.length + 1 < scanBound) (hc : X.calm = true := by rfl) (hg : Gl X "sorted" := by rfl) (hg2 : Gl X "set" := by rfl) (na : starEach [a] X.env = (false, eval a X.env) :: starEach [] X.env := by rfl) :
    JP X (.Call (.Name "sorted" p) [.Call (.Name "set" p2) [a] [] q] [] pos) ρ fun d => ∃ zs : List Str, d = .lst (zs.map D.str) ∧ zs.Pairwise ltT ∧ (∀ z, z ∈ zs ↔ z ∈ xs) ∧ zs.length ≤ xs.length := ⟨fun W σ H ex hV Q g => .of (pe_sortedTS hc hg T.sorted hg2 T.set (by decide +kernel) pe_w na) (ha W σ H ex hV _ fun v W1 H1 s1 r1 => by
  cases r1 with
  | lst h1 k =>
    cases k.strs
    exact ⟨_, xs, rfl, SqL.of (s1.wh _ _ h1), hb, fun zs l' h2 h3 h4 hn => g _ ⟨zs, rfl, h2, h3, h4⟩ _ _ _ (s1.trans (.new s1.wh hn)) (.lst upd_same (RepAll.toStrs _))⟩)⟩
end
end Pf

/-! tables of the module, zip of tuples, chains of three, isinstance of a caught error, texts in order -/
namespace Pf
open PySem L2 PySem.Spec PyProof.Rows
open Evl (Ex)
section
variable {X : Cx} {ρ : Rho} {a b c d e : Expr} {x y z u : D} {pos p : Pos} {op op' op'' : CmpOp} {t t' t'' : Bool}
theorem cd_ltS {x y : Str} : CmD X .Lt (.str x) (.str y) (decide (x.cps.toList < y.cps.toList)) := ⟨_, op_lt_str, fun W H v u ex r1 r2 Q q => by
  cases r1; cases r2; exact ⟨x, y, rfl, rfl, q.now ex (.bl _)⟩⟩
/-- a op b op' c op'' d, as a test -/
def tChain3 (r r' r'' : R2) (ta tb tc td : TE) : L2.St → Hp → (Bool → Hp → Prop) → Prop := fun σ H Q => ta σ H fun x H1 => tb σ H1 fun y H2 => r x y H2 fun v H3 => ∃ k, v = .bl k ∧ if k = true then tc σ H3 fun z H4 => r' y z H4 fun v5 H5 => ∃ k, v5 = .bl k ∧ if k = true then td σ H5 fun w H6 => r'' z w H6 fun v7 H7 => ∃ k, v7 = .bl k ∧ Q k H7 else Q false H5 else Q false H3
theorem pt_chain3 {r r' r'' : R2} {ta tb tc td : TE} (ho : OpR X (compareOp op) r) (ho' : OpR X (compareOp op') r') (ho'' : OpR X (compareOp op'') r'') (ha : PE X a ta) (hb : PE X b tb) (hc : PE X c tc) (hd : PE X d td)
    (hm : lastMarks [op, op', op''] [b, c, d] = false := by with_unfolding_all rfl) : PT X (.Compare a [op, op', op''] [b, c, d] pos) (tChain3 r r' r'' ta tb tc td) := by
  refine ⟨fun pins s σ H Q I h => ?_⟩
  refine isTrue_chain (thn (ha.run pins s σ H _ I h) fun v s1 ⟨x, H1, I1, r1, q1⟩ => test_link (thn (hb.run pins s1 σ H1 _ I1 q1) fun u s2 ⟨y, H2, I2, r2, q2⟩ =>
    thn (ho pins s2 σ H2 x y v u _ I2 r1 r2 q2) fun d s3 ⟨z, H3, I3, r3, k, e, q3⟩ => ?_)) hm
  subst e
  cases r3
  refine wpAny_truthy_bool ?_
  cases k with
  | false => exact ite_ff ⟨H3, I3, q3⟩
  | true =>
    refine ite_tt (test_link (thn (hc.run pins s3 σ H3 _ I3 q3) fun w' s4 ⟨z', H4, I4, r4, q4⟩ => thn (ho' pins s4 σ H4 y z' u w' _ I4 r2 r4 q4) fun d' s5 ⟨z2, H5, I5, r5, k2, e2, q5⟩ => ?_))
    subst e2
    cases r5
    refine wpAny_truthy_bool ?_
    cases k2 with
    | false => exact ite_ff ⟨H5, I5, q5⟩
    | true =>
      refine ite_tt (test_last (thn (hd.run pins s5 σ H5 _ I5 q5) fun w6 s6 ⟨z6, H6, I6, r6, q6⟩ => thn (ho'' pins s6 σ H6 z' z6 w' w6 _ I6 r4 r6 q6) fun d7 s7 ⟨z7, H7, I7, r7, k7, e7, q7⟩ => ?_))
      subst e7
      cases r7
      exact wpAny_truthy_bool ⟨H7, I7, q7⟩
theorem jt_ch3 (ha : J X a ρ x) (hb : J X b ρ y) (hc : J X c ρ z) (hd : J X d ρ u) (h1 : CmD X op x y t) (h2 : CmD X op' y z t') (h3 : CmD X op'' z u t'') (hm : lastMarks [op, op', op''] [b, c, d] = false := by with_unfolding_all rfl) :
    JT X (.Compare a [op, op', op''] [b, c, d] pos) ρ (t && (t' && t'')) := by
  obtain ⟨r, o1, c1⟩ := h1
  obtain ⟨r', o2, c2⟩ := h2
  obtain ⟨r'', o3, c3⟩ := h3
  refine ⟨fun W σ H e V Q g => .of (pt_chain3 o1 o2 o3 pe_w pe_w pe_w pe_w hm) (ha W σ H e V _ fun v W1 H1 s1 r1 => hb W1 σ H1 s1.wh (V.mono s1.ww) _ fun w W2 H2 s2 r2 => c1 W2 H2 v w s2.wh (r1.mono s2.ww) r2 _ fun v3 W3 H3 s3 r3 => ?_)⟩
  cases r3
  refine ⟨t, rfl, ?_⟩
  cases t with
  | false =>
    rw [if_neg Bool.false_ne_true]
    exact g W3 H3 ((s1.trans s2).trans s3)
  | true =>
    rw [if_pos rfl]
    refine hc W3 σ H3 s3.wh (V.mono ((s1.trans s2).trans s3).ww) _ fun w3 W4 H4 s4 r4 => c2 W4 H4 w w3 s4.wh (r2.mono (s3.trans s4).ww) r4 _ fun v5 W5 H5 s5 r5 => ?_
    cases r5
    refine ⟨t', rfl, ?_⟩
    cases t' with
    | false =>
      rw [if_neg Bool.false_ne_true]
      exact g W5 H5 ((((s1.trans s2).trans s3).trans s4).trans s5)
    | true =>
      rw [if_pos rfl]
      refine hd W5 σ H5 s5.wh (V.mono ((((s1.trans s2).trans s3).trans s4).trans s5).ww) _ fun w6 W6 H6 s6 r6 => c3 W6 H6 w3 w6 s6.wh (r4.mono (s5.trans s6).ww) r6 _ fun v7 W7 H7 s7 r7 => ?_
      cases r7
      exact ⟨t'', rfl, g W7 H7 ((((((s1.trans s2).trans s3).trans s4).trans s5).trans s6).trans s7)⟩
end
/-! ### tables of the module: texts to tuples of ints -/
abbrev adD (a : Addr) : D := .exc a none []
theorem rep_ad {K : PySem.W.Frag} {H : Hp} {a : Addr} : Rep K H (adD a) (.ref a) := .exc (fs := []) (fun dd z => by cases z) rfl .nil
structure Tab (K : PySem.W.Frag) (w : World) (mg : Str → Option Value) (n : Str) (T : List (Str × Option (List Int))) : Prop where
  ex : ∃ d es c, mg n = some (.ref d) ∧ KDict K w d es c ∧ ∀ z o, (z, o) ∈ T → match o with
    | none => PySem.W.nsIn K d z = some none
    | some ns => ∃ a ob its m, PySem.W.nsIn K d z = some (some (.ref a)) ∧ K.lookup a = some ob ∧ ob.cls = .type "tuple" ∧ ob.data = .seq its m ∧ its.size ≤ sizeLine ∧ L2.Vals (ns.map V.int) its.toList
section
variable {X : Cx} {ρ : Rho} {a b e : Expr} {pos p : Pos} {n z : Str} {T : List (Str × Option (List Int))} {ns : List Int}
theorem jt_ninTab (c : Tab X.K X.w X.mg n T) (o : Option (List Int)) (hz : (z, o) ∈ T) (ha : J X a ρ (.str z)) (hg : Gl X n := by rfl) (hdb : (n == ("__debug__" : Str)) = false := by decide) (hm : behindInMarks .NotIn (.Name n p) = false := by rfl) : JT X (.Compare a [.NotIn] [.Name n p] pos) ρ (!o.isSome) := by
  obtain ⟨d, es, c, h1, D, h2⟩ := c.ex
  refine jt_cm ha (j_glob (v := .ref d) h1 rfl (fun H => rep_ad) hg hdb) ⟨_, op_notIn_kd D, fun W H v u ex r1 r2 Q q => ?_⟩ hm
  cases r1; cases r2
  have q2 := h2 z o hz
  cases o with
  | none => exact ⟨z, none, rfl, rfl, q2, q.now ex (.bl _)⟩
  | some ns =>
    obtain ⟨a, ob, its, m, q2, _⟩ := q2
    exact ⟨z, some (.ref a), rfl, rfl, q2, q.now ex (.bl _)⟩
theorem j_ixTab (c : Tab X.K X.w X.mg n T) (hz : (z, some ns) ∈ T) (ha : J X a ρ (.str z)) (hg : Gl X n := by rfl) (hdb : (n == ("__debug__" : Str)) = false := by decide) (hs : PlainIx a := by exact fun _ _ => rfl) : J X (.Subscript (.Name n p) a pos) ρ (.tup (ns.map D.int)) := by
  obtain ⟨d, es, c, h1, D, h2⟩ := c.ex
  obtain ⟨l, ob, its, m, q1, q2, q3, q4, q5, q6⟩ := h2 z _ hz
  exact ⟨fun W σ H ex hV Q g => .of (pe_ix ix_kdict pe_w pe_w hs) ((j_glob (v := .ref d) (d := adD d) h1 rfl (fun H => rep_ad) hg hdb) W σ H ex hV _ fun v W1 H1 s1 r1 => ha W1 σ H1 s1.wh (hV.mono s1.ww) _ fun u W2 H2 s2 r2 => by
    cases r1; cases r2
    exact ⟨d, z, .ref l, rfl, rfl, ⟨es, c, .ref l, D.at_, D.lit, q1, rfl⟩, g _ _ _ (s1.trans s2) (.tup (.inr ⟨ob, its, m, q2, q3, q4, q5, q6⟩) (RepAll.toInts ns))⟩)⟩
end
/-! ### zip(tuple, tuple) -/
section
variable {X : Cx} {K : PySem.W.Frag} {ρ : Rho} {a b : Expr} {ds es' : List D} {pos p tpos : Pos} {elts : List Expr} {kk : Nat}
theorem walks_zipT {W : Hp} {l m : Addr} {vs us : List V} (h : SqT K W l vs) (k : RepAll K W ds vs) (h' : SqT K W m us) (k' : RepAll K W es' us) : Walks K (RZ.ItzT K l m) W ((ds.zip es').map fun p => D.tup [p.1, p.2]) where
  go := fun i H ex hi => by
    rw [List.length_map, List.length_zip] at hi
    have hv : i < vs.length := by rw [← k.length]; omega
    have hu : i < us.length := by rw [← k'.length]; omega
    exact ⟨vs, us, vs[i], us[i], Evl.ex_t ex h, Evl.ex_t ex h', by simp [hv], by simp [hu]⟩
  yld := fun i H x H' d ex hd hy W2 e1 e2 => by
    obtain ⟨T, y, z, rfl, hT, rfl, hy, hz⟩ := hy
    obtain ⟨dx, dy, h1, h2, rfl⟩ := zipL_get hd
    obtain ⟨v, g1, g2⟩ := k.get h1
    obtain ⟨u, g3, g4⟩ := k'.get h2
    have q := hy vs (Evl.ex_t ex h)
    rw [g1] at q; cases q
    have q := hz us (Evl.ex_t ex h')
    rw [g3] at q; cases q
    have en := Evl.Ex.new (o := .tup [y, z]) (Evl.fresh_back e2 hT)
    exact ⟨_, .new e2 hT, .tup (SqT.of upd_same) (.cons ((g2.mono e1).mono en) (.cons ((g4.mono e1).mono en) .nil))⟩
  stop := fun H ex => ⟨vs, us, Evl.ex_t ex h, Evl.ex_t ex h', by
    rw [List.length_map, List.length_zip]
    have := k.length; have := k'.length
    omega⟩
theorem ji_zipT (hm : X.mg "zip" = none) (h : J X a ρ (.tup ds)) (h' : J X b ρ (.tup es')) (hg : Gl X "zip" := by rfl) (hs : starEach [a, b] X.env = (false, eval a X.env) :: starEach [b] X.env := by rfl) (hs2 : starEach [b] X.env = (false, eval b X.env) :: starEach [] X.env := by rfl) (hpl : (backTo pos (starEach [b] X.env)).any (·.1) = false := by rfl) :
    JI X (.Tuple elts kk tpos) (.Call (.Name "zip" p) [a, b] [] pos) ρ ((ds.zip es').map fun p => D.tup [p.1, p.2]) := ⟨fun W σ H ex hV R g =>
  .of (RZ.pi_zipA hg hm pa_w hs hpl) (ja_cons h (ja_cons h' ja_nil hs2) hs W σ H ex hV _ fun vs W1 H1 s1 r1 => by
    cases r1 with
    | cons r t =>
      cases t with
      | cons r' t =>
        cases t
        cases r with
        | tup h1 k =>
          cases r' with
          | tup h2 k2 => exact ⟨_, _, _, _, rfl, .inr ⟨Evl.ex_t s1.wh h1, Evl.ex_t s1.wh h2, g _ W1 H1 s1 (walks_zipT h1 k h2 k2)⟩⟩)⟩
end
/-! ### isinstance of a caught error without fields -/
section
variable {X : Cx} {ρ : Rho} {e e2 : Expr} {pos p : Pos} {fds : List (Str × D)} {a C : Addr} {oe : Obj} {pn : List (Addr × Obj)} {b : Bool}
theorem j_isE {c : V} {cv : Value} {d2 : D} (T : Bt X.mg) (EC : ExcC X.K C) (hz : Zc (.ref C) none oe) (hf : ∃ vs, oe.data = .fields vs) (he1 : J (X.suite a ((a, oe) :: pn)) e ρ (.exc a none fds)) (he2 : J (X.suite a ((a, oe) :: pn)) e2 ρ d2) (hr : ∀ W v, Rep X.K W d2 v → v = c) (hc : ∀ u, RelV c u → u = cv) (hk : PySem.W.kitOne X.K (.ref C) cv = some b) (hg : Gl X "isinstance" := by rfl)
    (hs : starEach [e, e2] X.env = (false, eval e X.env) :: starEach [e2] X.env := by rfl) (hs2 : starEach [e2] X.env = (false, eval e2 X.env) :: starEach [] X.env := by rfl) (hpl : (backTo pos (starEach [e2] X.env)).any (·.1) = false := by rfl) :
    J (X.suite a ((a, oe) :: pn)) (.Call (.Name "isinstance" p) [e, e2] [] pos) ρ (.bl b) :=
  j_cb (X := X.suite a ((a, oe) :: pn)) (call_isE EC hz hf) T.isinstance (by decide +kernel) (ja_cons he1 (ja_cons he2 ja_nil hs2) hs) (fun W H vs ex r Q q => by
    cases r with
    | cons r t =>
      cases t with
      | cons r' t =>
        cases t
        cases r
        have := hr _ _ r'
        subst this
        exact ⟨_, cv, b, rfl, hc, hk, q.now ex (.bl _)⟩) hg (by decide) (by decide) hs hpl
end
/-! ### {key: value, ..} -/
section
variable {X : Cx} {ρ : Rho} {pos : Pos}
inductive JPs (X : Cx) (ρ : Rho) : List (Option Expr) → List Expr → List (Str × D) → Prop
  | nil : JPs X ρ [] [] []
  | cons {k v : Expr} {ks : List (Option Expr)} {vs : List Expr} {z : Str} {d : D} {r : List (Str × D)} : J X k ρ (.str z) → J X v ρ d → JPs X ρ ks vs r → JPs X ρ (some k :: ks) (v :: vs) ((z, d) :: r)
def trsOf (X : Cx) : List (Option Expr) → List Expr → List (TE × TE)
  | some k :: ks, v :: vs => (wE X k, wE X v) :: trsOf X ks vs
  | _, _ => []
theorem JPs.pps : ∀ {ks : List (Option Expr)} {vs : List Expr} {r : List (Str × D)}, JPs X ρ ks vs r → PPs X pos ks vs (trsOf X ks vs)
  | _, _, _, .nil => pps_nil
  | _, _, _, .cons _ _ h => pps_cons pe_w pe_w h.pps
theorem JPs.len : ∀ {ks : List (Option Expr)} {vs : List Expr} {r : List (Str × D)}, JPs X ρ ks vs r → ks.length = vs.length ∧ ks.length = r.length ∧ ks.all (·.isSome) = true
  | _, _, _, .nil => ⟨rfl, rfl, rfl⟩
  | _, _, _, .cons _ _ h => by
    obtain ⟨a, b, c⟩ := h.len
    exact ⟨by simp [a], by simp [b], by simp [c]⟩
theorem JPs.run : ∀ {ks : List (Option Expr)} {vs : List Expr} {r : List (Str × D)}, JPs X ρ ks vs r → ∀ W σ H, Ex W H → Vis X.K ρ W σ → ∀ Q : List (V × V) → Hp → Prop, (∀ (us : List V) W' H', Step W H W' H' → RepAll X.K W' (r.map (·.2)) us → Q ((r.map fun q => V.str q.1).zip us) H') → tPairs (trsOf X ks vs) σ H Q
  | _, _, _, .nil => fun W σ H ex hV Q g => g [] W H (.refl ex) .nil
  | _, _, _, .cons hk hv h => fun W σ H ex hV Q g => hk W σ H ex hV _ fun x W1 H1 s1 r1 => hv W1 σ H1 s1.wh (hV.mono s1.ww) _ fun y W2 H2 s2 r2 => h.run W2 σ H2 s2.wh (hV.mono (s1.trans s2).ww) _ fun us W3 H3 s3 r3 => by
    cases r1
    exact g (y :: us) W3 H3 ((s1.trans s2).trans s3) (.cons (r2.mono s3.ww) r3)
theorem merge_new {κ : Type} [DecidableEq κ] : ∀ {more kvs : List (Key × V)}, (kvs.map (·.1) ++ more.map (·.1)).Nodup → mergeK kvs more = kvs ++ more
  | [], kvs, _ => by unfold mergeK; simp
  | q :: more, kvs, h => by
    have hq : (kvs.any fun kv => decide (kv.1 = q.1)) = false := by
      rw [List.any_eq_false]
      intro kv hkv e
      have e' := of_decide_eq_true e
      rw [List.nodup_append] at h
      exact h.2.2 kv.1 (List.mem_map.mpr ⟨kv, hkv, rfl⟩) q.1 (by simp) e'
    have h1 : putK kvs q.1 q.2 = kvs ++ [q] := by unfold putK; rw [if_neg (by rw [hq]; decide)]
    show mergeK (putK kvs q.1 q.2) more = _
    rw [h1, merge_new (κ := κ) (by rw [List.map_append, List.append_assoc]; exact h), List.append_assoc]
    rfl
theorem j_disp {ks : List (Option Expr)} {vs : List Expr} {r : List (Str × D)} (h : JPs X ρ ks vs r) (h0 : ks ≠ []) (h15 : ks.length ≤ 15) (hn : (r.map fun q => (Sum.inr q.1 : Key)).Nodup) : J X (.Dict ks vs pos) ρ (.dct (r.map fun q => (.inr q.1, q.2))) := ⟨fun W σ H ex hV Q g => by
  obtain ⟨l1, l2, l3⟩ := h.len
  refine .of (pe_disp h.pps l3 l1 h0 h15) fun p hp => ?_
  have hWp : W p = none := by
    cases q : W p with
    | none => rfl
    | some o => rw [ex _ _ q] at hp; cases hp
  have ex1 : Ex W (upd H p (.dK [])) := fun b o q => by
    have hb : b ≠ p := fun z => by rw [z, hWp] at q; cases q
    rw [upd_ne hb]; exact ex _ _ q
  refine h.run W σ _ ex1 hV _ fun us W' H' st ra => ?_
  have hl : us.length = r.length := by rw [← ra.length, List.length_map]
  have hp' : H' p = some (.dK []) := st.hh _ _ upd_same
  have hW'p : W' p = none := by
    cases q : W' p with
    | none => rfl
    | some o => have := st.fr p (by rw [q]; simp) hWp; rw [upd_same] at this; cases this
  refine ⟨hp', (r.map fun q => (Sum.inr q.1 : Key)).zip us, ?_, by rw [List.length_zip, List.length_map]; omega, ?_⟩
  · rw [show (r.map fun q => V.str q.1) = (r.map fun q => (Sum.inr q.1 : Key)).map kV from by rw [List.map_map]; rfl, List.zip_map_left]
    rfl
  · have hk : ((r.map fun q => (Sum.inr q.1 : Key)).zip us).map (·.1) = r.map fun q => (Sum.inr q.1 : Key) := List.map_fst_zip (by rw [List.length_map]; omega)
    have hv : ((r.map fun q => (Sum.inr q.1 : Key)).zip us).map (·.2) = us := List.map_snd_zip (by rw [List.length_map]; omega)
    rw [merge_new (κ := Key) (kvs := []) (by rw [hk]; exact hn), List.nil_append]
    generalize hkv : (r.map fun q => (Sum.inr q.1 : Key)).zip us = kvs at hk hv
    refine g _ (upd W' p (.dK kvs)) _ ⟨fun b o q => ?_, fun b o q => ?_, fun b o q => ?_, fun b q1 q2 => ?_⟩ (.dct upd_same (by rw [hk, List.map_map]; rfl) ?_)
    · have hb : b ≠ p := fun z => by rw [z, hWp] at q; cases q
      rw [upd_ne hb]; exact st.ww _ _ q
    · by_cases hb : b = p
      · subst hb; rw [upd_same] at q ⊢; exact q
      · rw [upd_ne hb] at q ⊢; exact st.wh _ _ q
    · have hb : b ≠ p := fun z => by rw [z, hp] at q; cases q
      rw [upd_ne hb]
      exact st.hh _ _ (by rw [upd_ne hb]; exact q)
    · by_cases hb : b = p
      · subst hb; exact hp
      · rw [upd_ne hb] at q1
        have := st.fr b q1 q2
        rw [upd_ne hb] at this; exact this
    · rw [hv, List.map_map]
      refine ra.mono fun b o q => ?_
      have hb : b ≠ p := fun z => by rw [z, hW'p] at q; cases q
      rw [upd_ne hb]; exact q⟩
end
end Pf

/-! a tuple of a list that is known by a promise -/
namespace Pf
open PySem L2 PySem.Spec PyProof.Rows
open Evl (Ex)
section
variable {X : Cx} {ρ : Rho} {e : Expr} {pos p : Pos} {P1 : D → Prop}
theorem jp_tupleL (T : Bt X.mg) (h : JP X e ρ P1) (hP : ∀ d, P1 d → ∃ ds, d = .lst ds) (hg : Gl X "tuple" := by rfl) (he : starEach [e] X.env = (false, eval e X.env) :: starEach [] X.env := by rfl) (hpl : (backTo pos (starEach [] X.env)).any (·.1) = false := by rfl) :
    JP X (.Call (.Name "tuple" p) [e] [] pos) ρ fun d => ∃ ds, P1 (.lst ds) ∧ d = .tup ds := ⟨fun W σ H ex hV Q g => .of (pe_callTy call_tuple_of hg T.tuple (by decide +kernel) (pa_cons pe_w pa_nil he) (by decide) (by decide) he hpl) (h.run W σ H ex hV _ fun d hd v W1 H1 s1 r1 => by
  obtain ⟨ds, rfl⟩ := hP d hd
  exact rc_tupleL W1 H1 [v] s1.wh (.cons r1 .nil) Q ((g _ ⟨ds, hd, rfl⟩).step s1))⟩
end
/-! several values, some known by a promise -/
structure JAP (X : Cx) (es : List Expr) (ρ : Rho) (P : List D → Prop) : Prop where
  run : ∀ W σ H, Ex W H → Vis X.K ρ W σ → ∀ Q : List V → Hp → Prop, (∀ ds, P ds → GoodA X.K W H ds Q) → wA X es σ H Q
section
variable {X : Cx} {ρ : Rho} {e : Expr} {es : List Expr} {pos : Pos} {P1 : D → Prop} {P : List D → Prop} {d : D} {ds : List D}
theorem jap_of (h : JA X es ρ ds) : JAP X es ρ fun l => l = ds := ⟨fun W σ H ex hV Q g => h W σ H ex hV Q (g _ rfl)⟩
theorem jap_cons (h : J X e ρ d) (h2 : JAP X es ρ P) (hs : starEach (e :: es) X.env = (false, eval e X.env) :: starEach es X.env := by rfl) : JAP X (e :: es) ρ fun l => ∃ r, P r ∧ l = d :: r := ⟨fun W σ H ex hV Q g =>
  .of (pa_cons pe_w pa_w hs) (h W σ H ex hV _ fun v W1 H1 s1 r1 => h2.run W1 σ H1 s1.wh (hV.mono s1.ww) _ fun r hr vs W2 H2 s2 r2 => g (d :: r) ⟨r, hr, rfl⟩ (v :: vs) W2 H2 (s1.trans s2) (.cons (r1.mono s2.ww) r2))⟩
theorem jap_p (h : JP X e ρ P1) (h2 : JA X es ρ ds) (hs : starEach (e :: es) X.env = (false, eval e X.env) :: starEach es X.env := by rfl) : JAP X (e :: es) ρ fun l => ∃ d, P1 d ∧ l = d :: ds := ⟨fun W σ H ex hV Q g =>
  .of (pa_cons pe_w pa_w hs) (h.run W σ H ex hV _ fun d hd v W1 H1 s1 r1 => h2 W1 σ H1 s1.wh (hV.mono s1.ww) _ fun vs W2 H2 s2 r2 => g (d :: ds) ⟨d, hd, rfl⟩ (v :: vs) W2 H2 (s1.trans s2) (.cons (r1.mono s2.ww) r2))⟩
theorem jp_tup {k} (h : JAP X es ρ P) (hl : ∀ ds, P ds → ds.length ≤ sizeLine) : JP X (.Tuple es k pos) ρ fun d => ∃ ds, P ds ∧ d = .tup ds := ⟨fun W σ H ex hV Q g =>
  .of (pe_tup pa_w) (h.run W σ H ex hV _ fun ds hds vs W1 H1 s1 r1 => ⟨by rw [← r1.length]; exact hl ds hds, fun q hq =>
    g _ ⟨ds, hds, rfl⟩ _ _ _ (s1.trans (.new s1.wh hq)) (.tup (SqT.of upd_same) (r1.mono (Evl.Ex.new (Evl.fresh_back s1.wh hq))))⟩)⟩
end
end Pf

/-! what is a slot's own may be frozen; a list and one that is known by a promise, joined -/
namespace Pf
open PySem L2 PySem.Spec PyProof.Rows
open Evl (Ex)
section
variable {K : PySem.W.Frag} {E : Ent} {ρ : RhoS} {σ : L2.St} {H Hf : Hp} {A : Nat → List Addr} {i : Nat} {d : D}
theorem StAt.freeze (s : StAt K E ρ σ H Hf A) (hi : ρ[i]? = some (some (.ow d))) (hp : E.pa i = none) : StAt K E (ρ.set i (some (.fz d))) σ H (fun b => if b ∈ A i then H b else Hf b) (fun j => if j = i then [] else A j) := by
  have no : ∀ b, b ∈ A i → Hf b = none := fun b hb => (s.ap i b hb).1
  have ex : Ex Hf (fun b => if b ∈ A i then H b else Hf b) := fun b o q => by
    show (if b ∈ A i then H b else Hf b) = some o
    rw [if_neg (fun hb => by rw [no b hb] at q; cases q)]; exact q
  refine ⟨by rw [List.length_set]; exact s.len, s.w0.trans ex, fun b o q => ?_, fun b q1 q2 => ?_, s.hh, s.kp, fun j sv q => ?_, fun j a ha => ?_, fun j k a h1 h2 => ?_, s.pn⟩
  · by_cases hb : b ∈ A i
    · have q' : (if b ∈ A i then H b else Hf b) = some o := q
      rw [if_pos hb] at q'; exact q'
    · have q' : (if b ∈ A i then H b else Hf b) = some o := q
      rw [if_neg hb] at q'; exact s.fh _ _ q'
  · by_cases hb : b ∈ A i
    · rcases (s.ap i b hb).2.2 with h | ⟨_, h⟩
      · exact h
      · exact absurd hp h
    · have q' : (if b ∈ A i then H b else Hf b) ≠ none := q1
      rw [if_neg hb] at q'
      exact s.fr b q' q2
  · by_cases hj : i = j
    · subst hj
      obtain ⟨v, e1, e2⟩ := s.sl i _ hi
      have hlt : i < ρ.length := (List.getElem?_eq_some_iff.mp hi).1
      rw [List.getElem?_set_self hlt] at q
      cases q
      exact ⟨v, e1, e2.1.rep ex fun a ha => if_pos ha⟩
    · rw [List.getElem?_set_ne hj] at q
      obtain ⟨v, e1, e2⟩ := s.sl j sv q
      refine ⟨v, e1, ?_⟩
      cases sv with
      | fz d => exact Rep.mono ex e2
      | ow d =>
        have hji : ¬ j = i := fun e => hj e.symm
        show Own K _ H d v (if j = i then [] else A j) ∧ (if j = i then [] else A j) ≠ []
        rw [if_neg hji]
        exact ⟨e2.1.move ex fun _ _ => rfl, e2.2⟩
  · by_cases hj : j = i
    · have ha' : a ∈ (if j = i then [] else A j) := ha
      rw [if_pos hj] at ha'; cases ha'
    · have ha' : a ∈ (if j = i then [] else A j) := ha
      rw [if_neg hj] at ha'
      obtain ⟨h1, h2⟩ := s.ap j a ha'
      refine ⟨?_, h2⟩
      show (if a ∈ A i then H a else Hf a) = none
      rw [if_neg (fun hb => hj (s.dj j i a ha' hb))]; exact h1
  · have h1' : a ∈ (if j = i then [] else A j) := h1
    have h2' : a ∈ (if k = i then [] else A k) := h2
    by_cases hj : j = i
    · rw [if_pos hj] at h1'; cases h1'
    · by_cases hk : k = i
      · rw [if_pos hk] at h2'; cases h2'
      · rw [if_neg hj] at h1'; rw [if_neg hk] at h2'
        exact s.dj j k a h1' h2'
end
section
variable {X : Cx} {pin : List Nat} {st : List Stmt} {ρ : RhoS} {Φ : Out → Prop} {d : D}
/-- what is own may be taken as frozen -/
theorem jss_freeze (i : Nat) (hi : ρ[i]? = some (some (.ow d))) (h : JSs X pin st (ρ.set i (some (.fz d))) Φ) (hp : i ∉ pin := by decide) : JSs X pin st ρ Φ := ⟨fun E σ H D hpn ⟨Hf, A, s⟩ k =>
  h.run E σ H D hpn ⟨_, _, s.freeze hi (hpn.none hp)⟩ k⟩
end
section
variable {X : Cx} {ρ : Rho} {a b : Expr} {ds : List D} {pos : Pos} {P2 : D → Prop}
theorem jp_addL (ha : J X a ρ (.lst ds)) (hb : JP X b ρ P2) (hP : ∀ d, P2 d → ∃ es, d = .lst es ∧ ds.length + es.length ≤ sizeLine) : JP X (.BinOp a .Add b pos) ρ fun d => ∃ es, P2 (.lst es) ∧ d = .lst (ds ++ es) := ⟨fun W σ H ex hV Q g => by
  refine .of (pe_op op_cat pe_w pe_w) (ha W σ H ex hV _ fun v W1 H1 s1 r1 => hb.run W1 σ H1 s1.wh (hV.mono s1.ww) _ fun d hd u W2 H2 s2 r2 => ?_)
  obtain ⟨es, rfl, hl⟩ := hP d hd
  cases r1 with
  | lst h1 k1 =>
    cases r2 with
    | lst h2 k2 =>
      have s3 := s1.trans s2
      refine ⟨_, _, _, _, rfl, rfl, s2.wh _ _ (s2.ww _ _ h1), s2.wh _ _ h2, by rw [← k1.length, ← k2.length]; exact hl, fun q hq => ?_⟩
      exact g _ ⟨es, hd, rfl⟩ _ _ _ (s3.trans (.new s3.wh hq)) (.lst upd_same (((k1.mono s2.ww).append k2).mono (Evl.Ex.new (Evl.fresh_back s3.wh hq))))⟩
end
end Pf

/-! sorted(xs), xs tuples that begin with different texts -/
namespace Pf
open PySem L2 PySem.Spec PyProof.Rows
open Evl (Ex)
open SrtO (Swo Srtd Stb SortableO Cmp)
/-- the text at the beginning of a tuple -/
def nmAt (h : Heap) (v : Value) : Str := match v with
  | .ref a => match h.get? a with
    | some o => match o.data with
      | .seq its _ => match its.toList with
        | Value.str z _ :: _ => z
        | _ => Str.empty
      | _ => Str.empty
    | none => Str.empty
  | _ => Str.empty
def HasTxt (h : Heap) (v : Value) : Prop := ∃ a o z t r n, v = .ref a ∧ h.get? a = some o ∧ o.cls = .type "tuple" ∧ o.data = .seq (Value.str z t :: r).toArray n
theorem HasTxt.nm {h : Heap} {v : Value} (x : HasTxt h v) : ∃ a o t r n, v = .ref a ∧ h.get? a = some o ∧ o.cls = .type "tuple" ∧ o.data = .seq (Value.str (nmAt h v) t :: r).toArray n := by
  obtain ⟨a, o, z, t, r, n, rfl, h1, h2, h3⟩ := x
  refine ⟨a, o, t, r, n, rfl, h1, h2, ?_⟩
  have : nmAt h (.ref a) = z := by
    unfold nmAt
    simp only [h1, h3]
  rw [this]; exact h3
def ltN (f : Value → Str) (v u : Value) : Bool := decide ((f v).cps.toList < (f u).cps.toList)
theorem swo_nm (f : Value → Str) : Swo (ltN f) := by
  refine ⟨fun x y h => ?_, fun x y z h1 h2 => ?_⟩
  · have a := of_decide_eq_true h
    exact decide_eq_false fun q => absurd (List.lt_trans a q) (List.lt_irrefl _)
  · have a := of_decide_eq_false h1
    have b := of_decide_eq_false h2
    exact decide_eq_false fun q => by
      rcases Std.lt_trichotomy (f x).cps.toList (f y).cps.toList with c | c | c
      · exact b (List.lt_trans q c)
      · exact b (by rw [← c]; exact q)
      · exact a c
section
variable {prog : Program} {w : World} {A : Around} {s : Shared}
theorem lex_same {fin : Bool} {Q : Bool → Shared → Prop} : ∀ (r : List Value) (i : Nat), Q fin s → PySem.W.KatLex prog w A true fin Q (r.zip r) i s
  | [], _, h => PySem.W.kat_nil h
  | v :: r, i, h => PySem.W.kat_cons (SeqAt.EqAt.same (A := A) (s := s) v prog w _ _ (PySem.W.kat_yes (lex_same r (i + 1) h)))
theorem nm_cmp {vs : List Value} {h0 : Heap} (hp : ∀ v ∈ vs, HasTxt s.heap v) (hf : ∀ v ∈ vs, nmAt s.heap v = nmAt h0 v) (hd : ∀ v ∈ vs, ∀ u ∈ vs, nmAt h0 v = nmAt h0 u → v = u) : Cmp prog w A s (tuples' true) (fun p => p.1 ∈ vs) (SrtO.lt2 (ltN (nmAt h0))) := by
  intro p q hm hm'
  show wpAny (model prog w) A (keyLt' (tuples' true) p.1 q.1) (fun r s' => s' = s ∧ r = ltN (nmAt h0) p.1 q.1) (fun _ _ => False) s
  obtain ⟨a, o, t, r, n, e, ho, hc, hda⟩ := (hp _ hm).nm
  obtain ⟨a', o', t', r', n', e', ho', hc', hda'⟩ := (hp _ hm').nm
  rw [hf _ hm] at hda
  rw [hf _ hm'] at hda'
  have dd := hd _ hm _ hm'
  unfold ltN
  generalize nmAt h0 p.1 = z at hda dd ⊢
  generalize nmAt h0 q.1 = z' at hda' dd ⊢
  rw [e, e']
  refine PySem.W.kat_lt ho hda ho' hda' ?_
  show PySem.W.KatLex prog w A true _ _ ((Value.str z t, Value.str z' t') :: r.zip r') 0 s
  refine PySem.W.kat_cons (SeqAt.EqAt.str_str z t z' t' prog w _ _ ?_)
  refine PySem.W.kat_go (fun e1 => ?_) (fun e1 => ?_)
  · have ez : z = z' := by simpa using e1
    have ev := dd ez
    rw [e, e'] at ev
    have ea : a = a' := by injection ev
    subst ea
    rw [ho] at ho'
    cases ho'
    rw [hda] at hda'
    have er : (Value.str z t :: r) = (Value.str z' t' :: r') := by
      injection hda' with h1 _
      exact congrArg Array.toList h1
    injection er with er1 er2
    subst er2
    subst ez
    refine PySem.W.kat_yes (lex_same r 1 ⟨rfl, ?_⟩)
    rw [decide_eq_false (List.lt_irrefl _)]
    exact decide_eq_false (by simp)
  · exact PySem.W.kat_no (oneLt_str (s := s) ⟨rfl, rfl⟩)
theorem first_kind {vs : List Value} {Q : SortKind → Shared → Prop} {E : Value → Shared → Prop} (h0 : 0 < vs.length) (hp : ∀ v ∈ vs, HasTxt s.heap v) (hq : Q (tuples' true) s) : wpAny (model prog w) A (keyKind' vs.toArray) Q E s := by
  obtain ⟨fs, h1, h2, h3⟩ : ∃ fs, PySem.W.KatTups s.heap vs fs ∧ fs.length = vs.length ∧ ∀ f ∈ fs, ∃ z t, f = Value.str z t := by
    clear h0 hq
    induction vs with
    | nil => exact ⟨[], PySem.W.KatTups.nil, rfl, by simp⟩
    | cons v vs ih =>
      obtain ⟨fs, a1, a2, a3⟩ := ih fun u hu => hp u (List.mem_cons_of_mem _ hu)
      obtain ⟨a, o, z, t, r, n, rfl, h1, h2, h3⟩ := hp v List.mem_cons_self
      exact ⟨.str z t :: fs, PySem.W.KatTups.cons h1 h2 h3 rfl a1, by simp [a2], fun f hf => by
        rcases List.mem_cons.mp hf with rfl | hf
        · exact ⟨z, t, rfl⟩
        · exact a3 f hf⟩
  refine PySem.W.kat_kind (T := .type "str") h1 (by omega) (fun f hm => ?_) (by rfl) ?_
  · obtain ⟨x, t, rfl⟩ := h3 f hm
    exact PySem.W.Looks.now
  · have e : (Value.type "str" != Value.type "tuple") = true := by first | decide +kernel | rfl | decide
    rw [e]
    exact hq
theorem HasTxt.keeps {h h' : Heap} {v : Value} (x : HasTxt h v) (k : ∀ b o, h.get? b = some o → o.cls = .type "tuple" → h'.get? b = some o) : HasTxt h' v ∧ nmAt h' v = nmAt h v := by
  obtain ⟨a, o, z, t, r, n, rfl, h1, h2, h3⟩ := x
  have h4 := k _ _ h1 h2
  refine ⟨⟨a, o, z, t, r, n, rfl, h4, h2, h3⟩, ?_⟩
  unfold nmAt
  simp only [h1, h4]
theorem sorted_first {l : Addr} {vs : List Value} {E : Value → Shared → Prop} {Q : Value → Shared → Prop} (hl : s.heap.IsList l vs.toArray) (hz : vs.length ≤ sizeLine) (hp : ∀ v ∈ vs, HasTxt s.heap v) (hd : ∀ v ∈ vs, ∀ u ∈ vs, nmAt s.heap v = nmAt s.heap u → v = u)
    (h : ∀ out : List Value, Srtd (ltN (nmAt s.heap)) out → out.Perm vs → Q (.ref (s.heap.objs.size + 1)) { s with heap := sortedAll s.heap vs out.toArray }) :
    wpAny (model prog w) A (call (.builtin "sorted") [.ref l]) Q E s := by
  refine SrtO.sorted_ord (swo_nm (nmAt s.heap)) hl hz (fun h2 h₁ a ha kk => ?_) fun out hs hb => h out hs hb.perm
  intro h' keep
  have hk : ∀ b o, s.heap.get? b = some o → o.cls = .type "tuple" → h'.get? b = some o := fun b o q _ => keep b o (kk b o q).1 (kk b o q).2
  refine ⟨tuples' true, fun Q E hq => first_kind (s := { s with heap := h' }) (by omega) (fun v hv => ((hp v hv).keeps hk).1) hq, ?_⟩
  exact nm_cmp (s := { s with heap := h' }) (h0 := s.heap) (fun v hv => ((hp v hv).keeps hk).1) (fun v hv => ((hp v hv).keeps hk).2) hd
end
theorem perm_lift {α β : Type} {g : α → β} : ∀ {l m : List β}, l.Perm m → ∀ {xs : List α}, m = xs.map g → ∃ ys : List α, ys.Perm xs ∧ l = ys.map g := by
  intro l m h
  induction h with
  | nil => intro xs e; exact ⟨[], by rw [List.map_eq_nil_iff.mp e.symm], rfl⟩
  | @cons x l m h ih =>
    intro xs e
    cases xs with
    | nil => cases e
    | cons a xs =>
      rw [List.map_cons] at e
      injection e with e1 e2
      obtain ⟨ys, p, q⟩ := ih e2
      exact ⟨a :: ys, p.cons a, by rw [e1, q, List.map_cons]⟩
  | @swap x y l =>
    intro xs e
    match xs, e with
    | a :: b :: xs, e =>
      rw [List.map_cons, List.map_cons] at e
      injection e with e1 e
      injection e with e2 e3
      exact ⟨b :: a :: xs, List.Perm.swap _ _ _, by rw [List.map_cons, List.map_cons, e1, e2, e3]⟩
  | trans h1 h2 i1 i2 =>
    intro xs e
    obtain ⟨ys, p, q⟩ := i2 e
    obtain ⟨zs, p', q'⟩ := i1 q
    exact ⟨zs, p'.trans p, q'⟩
section
variable {X : Cx} {β : Type} {nm : β → Str}
def rSortT (K : PySem.W.Frag) (nm : β → Str) : List V → Hp → VK → Prop := fun vs H Q => ∃ (a : Addr) (ps : List (V × β)), vs = [V.ref a] ∧ SqL K H a (ps.map (·.1)) ∧ (∀ p ∈ ps, ∃ t r, p.1 = V.ref t ∧ SqT K H t (V.str (nm p.2) :: r)) ∧ (ps.map fun p => nm p.2).Nodup ∧
  ∀ (ps' : List (V × β)) q, ps'.Perm ps → (ps'.map fun p => nm p.2).Pairwise ltT → H q = none → Q (.ref q) (upd H q (.lst (ps'.map (·.1))))
theorem cr_sortedT : CallR X (.builtin "sorted") (rSortT X.K nm) := by
  intro pins s σ H vs us Q I r h
  obtain ⟨a, ps, rfl, hs, hx, hn, q⟩ := h
  obtain ⟨its, rv, hl, hz⟩ := I.list hs
  obtain ⟨u, rfl, ru⟩ := vals1 r
  obtain rfl : u = Value.ref a := ru
  have hlen : its.length = ps.length := by rw [← rv.length, List.length_map]
  have hzI : its.length ≤ sizeLine := by rw [hlen, ← List.length_map (as := ps) (f := fun p : V × β => p.1)]; exact hz
  -- the items with what they stand for
  obtain ⟨qs, hq1, hq2⟩ : ∃ qs : List (Value × V × β), qs.map (·.1) = its ∧ qs.map (·.2) = ps := ⟨its.zip ps, List.map_fst_zip (by omega), List.map_snd_zip (by omega)⟩
  have hrel : ∀ p ∈ qs, RelV p.2.1 p.1 := fun p hp => by
    obtain ⟨i, hi⟩ := List.mem_iff_getElem?.mp hp
    have e1 : its[i]? = some p.1 := by rw [← hq1, List.getElem?_map, hi]; rfl
    have e2 : (ps.map (·.1))[i]? = some p.2.1 := by rw [← hq2, List.map_map, List.getElem?_map, hi]; rfl
    obtain ⟨u, hu, ru⟩ := rv.get e2
    rw [e1] at hu
    cases hu
    exact ru
  have hN : ∀ p ∈ qs, HasTxt s.heap p.1 ∧ nmAt s.heap p.1 = nm p.2.2 := fun p hp => by
    have hp2 : p.2 ∈ ps := by rw [← hq2]; exact List.mem_map.mpr ⟨p, hp, rfl⟩
    obtain ⟨t, r, e, ht⟩ := hx _ hp2
    have hr := hrel p hp
    rw [e] at hr
    have hv : p.1 = Value.ref t := hr
    obtain ⟨its2, r2, ⟨o, ho, hc, n, hd⟩, _⟩ := I.tuple ht
    cases r2 with
    | @cons _ u2 _ us2 ra rb =>
      obtain ⟨tk, rfl⟩ := (show ∃ tk, u2 = Value.str (nm p.2.2) tk from ra)
      rw [hv]
      refine ⟨⟨t, o, _, tk, us2, n, rfl, ho, hc, hd⟩, ?_⟩
      unfold nmAt
      simp only [ho, hd]
  have hqn : (qs.map fun p => nm p.2.2).Nodup := by
    have e : (qs.map fun p => nm p.2.2) = ps.map fun p => nm p.2 := by rw [← hq2, List.map_map]; rfl
    rw [e]; exact hn
  have mem : ∀ v ∈ its, ∃ p ∈ qs, p.1 = v := fun v hv => by rw [← hq1] at hv; obtain ⟨p, hp, e⟩ := List.mem_map.mp hv; exact ⟨p, hp, e⟩
  refine sorted_first hl.isList hzI (fun v hv => ?_) (fun v hv u hu e => ?_) fun out hso hp => ?_
  · obtain ⟨p, hp, rfl⟩ := mem v hv
    exact (hN p hp).1
  · obtain ⟨p, hp, rfl⟩ := mem v hv
    obtain ⟨p', hp', rfl⟩ := mem u hu
    rw [(hN p hp).2, (hN p' hp').2] at e
    obtain ⟨i, hi⟩ := List.mem_iff_getElem?.mp hp
    obtain ⟨j, hj⟩ := List.mem_iff_getElem?.mp hp'
    obtain ⟨i1, i2⟩ := List.getElem?_eq_some_iff.mp hi
    obtain ⟨j1, j2⟩ := List.getElem?_eq_some_iff.mp hj
    have hij : i = j := by
      have pw := List.pairwise_iff_getElem.mp (List.nodup_iff_pairwise_ne.mp hqn)
      rcases Nat.lt_trichotomy i j with c | c | c
      · have := pw i j (by rw [List.length_map]; exact i1) (by rw [List.length_map]; exact j1) c
        rw [List.getElem_map, List.getElem_map, i2, j2] at this
        exact absurd e this
      · exact c
      · have := pw j i (by rw [List.length_map]; exact j1) (by rw [List.length_map]; exact i1) c
        rw [List.getElem_map, List.getElem_map, i2, j2] at this
        exact absurd e.symm this
    subst hij
    rw [hi] at hj
    cases hj
    rfl
  · obtain ⟨qs', hpq, rfl⟩ := perm_lift hp hq1.symm
    obtain ⟨n, hn2⟩ := PyProof.Rows.sortedAll_at s.heap its (qs'.map (·.1)).toArray
    have hsz : s.heap.objs.size ≤ s.heap.objs.size + 1 := Nat.le_succ _
    have hv : Vals ((qs'.map (·.2)).map (·.1)) (qs'.map (·.1)) := by
      have key : ∀ l : List (Value × V × β), (∀ p ∈ l, RelV p.2.1 p.1) → Vals ((l.map (·.2)).map (·.1)) (l.map (·.1)) := by
        intro l
        induction l with
        | nil => intro _; exact .nil
        | cons p l ih => intro h; exact .cons (h p List.mem_cons_self) (ih fun x hx => h x (List.mem_cons_of_mem _ hx))
      exact key qs' fun p hp => hrel p (hpq.mem_iff.mp hp)
    have hps : (qs'.map (·.2)).Perm ps := by rw [← hq2]; exact hpq.map _
    refine ⟨.ref (s.heap.objs.size + 1), upd H (s.heap.objs.size + 1) (.lst ((qs'.map (·.2)).map (·.1))), I.laid (t' := s.toks) (fun _ _ => PyProof.Rows.sortedAll_old) hsz ⟨?_, _, n, hv, hn2⟩, rfl, q _ _ hps ?_ (I.hok.fresh hsz)⟩
    · rw [List.length_map, hps.length_eq, ← hlen]
      exact hzI
    · have e : (qs'.map (·.2)).map (fun p => nm p.2) = qs'.map fun p => nm p.2.2 := by rw [List.map_map]; rfl
      rw [e]
      have hnd : (qs'.map fun p => nm p.2.2).Nodup := (hpq.map (fun p => nm p.2.2)).nodup_iff.mpr hqn
      have hso' : (qs'.map (·.1)).Pairwise (fun a b => ltN (nmAt s.heap) b a = false) := hso
      rw [List.pairwise_map] at hso' ⊢
      rw [List.nodup_iff_pairwise_ne, List.pairwise_map] at hnd
      refine List.Pairwise.imp_of_mem (fun {a b} ha hb h => ?_) (hso'.and hnd)
      have n1 := (hN a (hpq.mem_iff.mp ha)).2
      have n2 := (hN b (hpq.mem_iff.mp hb)).2
      have h1 := of_decide_eq_false (show decide ((nmAt s.heap b.1).cps.toList < (nmAt s.heap a.1).cps.toList) = false from h.1)
      rw [n1, n2] at h1
      refine ltT_of ?_ h.2
      rw [ltCps_eq]
      exact decide_eq_false h1
end
section
variable {X : Cx} {a : Expr} {p pos : Pos} {ρ : Rho}
abbrev tupN (l : Str × List D) : D := .tup (.str l.1 :: l.2)
/-- sorted(xs), xs tuples that begin with different texts -/
theorem jp_sortedT {ls : List (Str × List D)} (T : Bt X.mg) (ha : J X a ρ (.lst (ls.map tupN))) (hn : (ls.map (·.1)).Nodup) (hg : Gl X "sorted" := by rfl) (he : starEach [a] X.env = (false, eval a X.env) :: starEach [] X.env := by rfl) (hpl : (backTo pos (starEach [] X.env)).any (·.1) = false := by rfl) :
    JP X (.Call (.Name "sorted" p) [a] [] pos) ρ fun d => ∃ ls' : List (Str × List D), d = .lst (ls'.map tupN) ∧ ls'.Perm ls ∧ (ls'.map (·.1)).Pairwise ltT := ⟨fun W σ H ex hV Q g => .of (pe_callB (cr_sortedT (nm := fun l : Str × List D => l.1)) hg T.sorted (by decide +kernel) (pa_cons pe_w pa_nil he) (by decide) (by decide) he hpl) (ha W σ H ex hV _ fun v W1 H1 s1 r1 => by
  cases r1 with
  | @lst l vs _ h1 k =>
    have hl : vs.length = ls.length := by rw [← k.length, List.length_map]
    have hm1 : (vs.zip ls).map (·.1) = vs := List.map_fst_zip (by omega)
    have hm2 : (vs.zip ls).map (·.2) = ls := List.map_snd_zip (by omega)
    have hrep : ∀ q ∈ vs.zip ls, Rep X.K W1 (tupN q.2) q.1 := fun q hq => by
      obtain ⟨i, hi⟩ := List.mem_iff_getElem?.mp hq
      obtain ⟨e1, e2⟩ := List.getElem?_zip_eq_some.mp hi
      obtain ⟨v, g1, g2⟩ := k.get (i := i) (d := tupN q.2) (by rw [List.getElem?_map, e2]; rfl)
      rw [e1] at g1
      cases g1
      exact g2
    refine ⟨l, vs.zip ls, rfl, by rw [hm1]; exact SqL.of (s1.wh _ _ h1), fun q hq => ?_, ?_, fun ps' l' hp hs hn' => ?_⟩
    · have := hrep q hq
      generalize q.1 = v at this
      cases this with
      | tup h2 k2 =>
        cases k2 with
        | cons r2 k2 => cases r2; exact ⟨_, _, rfl, Evl.ex_t s1.wh h2⟩
    · have e : (vs.zip ls).map (fun q => q.2.1) = ls.map (·.1) := by
        have := congrArg (List.map fun l : Str × List D => l.1) hm2
        rw [List.map_map] at this
        exact this
      rw [e]; exact hn
    · have e1 : ((ps'.map (·.2)).map fun l : Str × List D => l.1) = ps'.map fun q => q.2.1 := by rw [List.map_map]; rfl
      refine g _ ⟨ps'.map (·.2), rfl, by have := hp.map (fun q : V × (Str × List D) => q.2); rw [hm2] at this; exact this, by rw [e1]; exact hs⟩ _ _ _ (s1.trans (.new s1.wh hn')) (.lst upd_same ?_)
      have key : ∀ l : List (V × (Str × List D)), (∀ q ∈ l, Rep X.K W1 (tupN q.2) q.1) → RepAll X.K W1 ((l.map (·.2)).map tupN) (l.map (·.1)) := by
        intro l
        induction l with
        | nil => intro _; exact .nil
        | cons q l ih => intro h; exact .cons (h q List.mem_cons_self) (ih fun x hx => h x (List.mem_cons_of_mem _ hx))
      exact (key ps' fun q hq => hrep q (hp.mem_iff.mp hq)).mono (Evl.Ex.new (Evl.fresh_back s1.wh hn')))⟩
end
end Pf

/-! new lists that are known by a promise; what hands back a new list; properties; an own object taken as a value; sorted texts; in, over data of any depth -/
namespace Pf
open PySem L2 PySem.Spec PyProof.Rows
open Evl (Ex)
structure JNP (X : Cx) (e : Expr) (ρ : Rho) (P : List D → Prop) : Prop where
  run : ∀ W σ H, Ex W H → Vis X.K ρ W σ → ∀ Q : VK, (∀ ds, P ds → ∀ (a : Addr) (W' H' : Hp) (vs : List V), Step W H W' H' → H a = none → W' a = none → H' a = some (.lst vs) → RepAll X.K W' ds vs → Q (.ref a) H') → wE X e σ H Q
section
variable {X : Cx} {ρr : Rho} {e a o : Expr} {es : List Expr} {ds : List D} {d : D} {P : List D → Prop} {pos p apos : Pos}
theorem jnp_of (h : JN X e ρr ds) : JNP X e ρr fun l => l = ds := ⟨fun W σ H ex hV Q g => h.run W σ H ex hV Q (g ds rfl)⟩
theorem jn_of (h : JNP X e ρr P) (k : ∀ l, P l → l = ds) : JN X e ρr ds := ⟨fun W σ H ex hV Q g => h.run W σ H ex hV Q fun l hl => by
  have := k l hl
  subst this
  exact g⟩
theorem JNP.imp {P2 : List D → Prop} (h : JNP X e ρr P) (k : ∀ l, P l → P2 l) : JNP X e ρr P2 := ⟨fun W σ H ex hV Q g => h.run W σ H ex hV Q fun l hl => g l (k l hl)⟩
theorem jp_N (h : JNP X e ρr P) : JP X e ρr fun d => ∃ l, P l ∧ d = .lst l := ⟨fun W σ H ex hV Q g => h.run W σ H ex hV Q fun l hl a W' H' vs st h1 h2 h3 r =>
  g _ ⟨l, hl, rfl⟩ (.ref a) (upd W' a (.lst vs)) H' (st.show' h1 h2 h3) (.lst upd_same (r.mono fun b u hb => by rw [upd_ne (ne_of_none hb h2)]; exact hb))⟩
theorem j_N (h : JN X e ρr ds) : J X e ρr (.lst ds) := ⟨fun W σ H ex hV Q g => h.run W σ H ex hV Q fun a W' H' vs st h1 h2 h3 r =>
  g (.ref a) (upd W' a (.lst vs)) H' (st.show' h1 h2 h3) (.lst upd_same (r.mono fun b u hb => by rw [upd_ne (ne_of_none hb h2)]; exact hb))⟩
/-- an object that has just been made, as a value -/
theorem jp_O {Pd : D → Prop} (h : JO1 X e ρr Pd) : JP X e ρr Pd := ⟨fun W σ H ex hV Q g => h.run W σ H ex hV Q fun d a W' H' A' hd st ow ne hA => by
  have ex2 : Ex W' (fun b => if b ∈ A' then H' b else W' b) := fun b u hb => by
    show (if b ∈ A' then H' b else W' b) = some u
    rw [if_neg (fun z => by rw [(hA b z).1] at hb; cases hb)]; exact hb
  refine g d hd (.ref a) (fun b => if b ∈ A' then H' b else W' b) H' ⟨st.ww.trans ex2, fun b u hb => ?_, st.hh, fun b h1 h2 => ?_⟩ (ow.rep ex2 fun b hb => if_pos hb)
  · by_cases z : b ∈ A'
    · have hb' : (if b ∈ A' then H' b else W' b) = some u := hb
      rw [if_pos z] at hb'; exact hb'
    · have hb' : (if b ∈ A' then H' b else W' b) = some u := hb
      rw [if_neg z] at hb'; exact st.wh b u hb'
  · by_cases z : b ∈ A'
    · exact (hA b z).2.2
    · have h1' : (if b ∈ A' then H' b else W' b) ≠ none := h1
      rw [if_neg z] at h1'; exact st.fr b h1' h2⟩
end
section
variable {X : Cx} {pin : List Nat} {ρ : RhoS} {Φ : Out → Prop} {e : Expr} {ds : List D} {P : List D → Prop} {pos p' p1 : Pos} {i : Nat} {x f : Str} {C : Addr} {fds : List (Str × D)}
theorem js_setNP (h : JNP X e (fzR ρ) P) (hk : ∀ l, P l → Φ (.nx (ρ.set i (some (.ow (.lst l)))))) (hN : X.N.Nodup) (hi : X.N[i]? = some x := by rfl) (hx : Loc X.env.scope x := by first | exact Or.inl rfl | exact Or.inr rfl) (hp : i ∉ pin := by decide) (hs : swapsWith e (some (.Name x p')) pos.line X.env = pure false := by rfl)
    (hf : X.fn x = true ∨ X.env.scope.names.lookup x = some .local := by first | exact .inl rfl | exact .inr rfl) : JS X pin (.Assign [.Name x p'] e pos) ρ Φ := ⟨fun E σ H D hpn ⟨Hf, A, s⟩ k =>
  .of (ps_set hN hi hx pe_w hs hf) (h.run Hf σ H s.fh s.vis _ fun l hl a W' H' vs st h1 h2 h3 r => k _ (hk l hl) _ H' (s.newL st h1 h2 h3 r (hpn.none hp)))⟩
/-- x.f = e, e a new list -/
theorem js_fldNP (hi : ρ[i]? = some (some (.ow (.ins C fds)))) (h : JNP X e (fzR ρ) P) (cl : Cls X.K C) (hn : NoAttr X.K C f) (hl : fds.length < 1000) (hk : ∀ l, P l → Φ (.nx (ρ.set i (some (.ow (.ins C (putD f (.lst l) fds))))))) (hN : X.N[i]? = some x := by rfl) (hv : L2.Vis X.env.scope x := by first | exact Or.inl rfl | exact Or.inr (Or.inl rfl))
    (hd : (x == ("__debug__" : Str)) = false := by decide) (hcd : (x == ("__classdict__" : Str)) = false := by decide) (hs : swapsWith e (some (.Attribute (.Name x p1) f p')) pos.line X.env = pure false := by rfl) : JS X pin (.Assign [.Attribute (.Name x p1) f p'] e pos) ρ Φ := ⟨fun E σ H D hpn ⟨Hf, A, s⟩ k => by
  refine .of (ps_fld (pe_var hN hv hd hcd) pe_w hs) (h.run Hf σ H s.fh s.vis _ fun l hpl a W' H' vs st h1 h2 h3 r => ?_)
  have e1 : upd (fun b => if b = a then none else H' b) a (.lst vs) = H' := funext fun b => by
    by_cases q : b = a
    · rw [q, upd_same, h3]
    · rw [upd_ne q]; exact if_neg q
  have st' : Step Hf H W' (fun b => if b = a then none else H' b) := ⟨st.ww, fun b u hb => by
      have : b ≠ a := fun q => by rw [q, h2] at hb; cases hb
      show (if b = a then none else H' b) = _
      rw [if_neg this]; exact st.wh b u hb, fun b u hb => by
      have : b ≠ a := fun q => by rw [q, h1] at hb; cases hb
      show (if b = a then none else H' b) = _
      rw [if_neg this]; exact st.hh b u hb, st.fr⟩
  obtain ⟨ad, dx, fs, g1, g2, g3, g4, ok⟩ := (s.step st').newF (f := f) hi (l := a) (o := .lst vs) (d' := .lst l) (if_pos rfl) fun H'' hh => .lst hh (OwnAll.fz r) (by simp)
  rw [e1] at ok
  have g3' : H' ad = some (.ins C dx fs) := by rw [← g3]; exact (if_neg g2).symm
  exact ⟨_, g1, ad, C, dx, fs, rfl, g3', cl, hn, by omega, k _ (hk l hpl) σ _ ok⟩⟩
end
/-! ### defs that hand back a new list -/
def spN (K : PySem.W.Frag) (n : Nat) (G : List D → (List D → Prop) → Prop) : Sp := fun vs H Q _ => vs.length = n ∧ ∃ W ds P, Ex W H ∧ RepAll K W ds vs ∧ G ds P ∧ ∀ l, P l → ∀ (a : Addr) (W' H' : Hp) (us : List V), Step W H W' H' → H a = none → W' a = none → H' a = some (.lst us) → RepAll K W' l us → Q (.ref a) H'
section
variable {P : Program} {w : World} {K : PySem.W.Frag} {mg : Str → Option Value} {base : Heap} {x qual : Str} {st : Stmt} {f : Addr} {fd : FuncData} {N ps : List Str} {k : Nat} {G : List D → (List D → Prop) → Prop} {e : Expr} {pos : Pos}
theorem fn_new (F : Fun K x qual st f fd) (S : FnScope N ps (defScope st)) (hG : ∀ ds Pd, G ds Pd → ds.length = ps.length) (hb : defBody st = [.Return (some e) pos])
    (body : ∀ (cdv : Value) (A : Around) (outer : List Env) (s : Shared) (H : Hp) (E : XK) (ds : List D) (Pd : List D → Prop), Room k (A.deeper (envOfC qual (defScope st) s.heap.objs.size f cdv)) → G ds Pd →
      JNP (cxOf CX0 P w K mg base N qual (defScope st) f cdv A outer s H E).nox e (fzR (startR N ds)) Pd) : FnOk P w K mg base CX0 (k + 1) f fd ps (spN K ps.length G) := by
  refine F.ok S (fun vs H Q E h => h.1) fun cdv A outer s H vs Q E hr h => ?_
  obtain ⟨_, W, ds, Pd, ex, r, hg, q⟩ := h
  rw [hb]
  refine ⟨_, pss_one (ps_ret pe_w), ?_⟩
  exact (body cdv A outer s H E ds Pd hr hg).run W _ H ex (start_ok ex r).vis _ q
end
structure NMeth (P : Program) (w : World) (K : PySem.W.Frag) (mg : Str → Option Value) (base : Heap) (k : Nat) (C : Addr) (m : Str) (n : Nat) (G : List D → (List D → Prop) → Prop) : Prop where
  ex : ∃ f fd ps, FnOk P w K mg base CX0 k f fd ps (spN K n G) ∧ Meth K C m f ∧ Binds K fd ps []
structure NProp (P : Program) (w : World) (K : PySem.W.Frag) (mg : Str → Option Value) (base : Heap) (k : Nat) (C : Addr) (f : Str) (G : List D → (List D → Prop) → Prop) : Prop where
  ex : ∃ p g fd, FnOk P w K mg base CX0 k g fd ["self"] (spN K 1 G) ∧ PropOf K C f p g ∧ Binds K fd ["self"] []
section
variable {X : Cx} {ρ : Rho} {o e : Expr} {es : List Expr} {ds : List D} {C : Addr} {fds : List (Str × D)} {pos apos : Pos} {m f : Str} {k j n : Nat} {G : List D → (List D → Prop) → Prop} {P : List D → Prop}
theorem jnp_meth {pl : Sem Bool} (c : NMeth X.prog X.w X.K X.mg X.base k C m n G) (cl : Cls X.K C) (hr : Room j X.A) (h : J X o ρ (.ins C fds)) (hm : fds.lookup m = none) (ha : JA X (e :: es) ρ ds) (hG : G (.ins C fds :: ds) P) (hk : k ≤ j := by decide) (hn : ds.length + 1 = n := by rfl)
    (hst : starEach (e :: es) X.env = (false, eval e X.env) :: starEach es X.env := by rfl) (hpl : (backTo pos (starEach es X.env)).any (·.1) = false := by rfl)
    (ht : eval (.Call (.Attribute o m apos) (e :: es) [] pos) X.env = (do
      let ov ← eval o X.env
      standAt apos.atName
      let (f, first) ← holding [ov] (getMethod ov m pl)
      callWith pos f first (backTo pos (starEach (e :: es) X.env)) (backToKw pos (keywordEach [] X.env))) := by rfl) : JNP X (.Call (.Attribute o m apos) (e :: es) [] pos) ρ P := ⟨fun W σ H ex hV Q g => by
  obtain ⟨f, fd, ps, F, hme, hb⟩ := c.ex
  refine .of (pe_meth pe_w cl hme (F.mono hk) hr hb .nil pass0 pa_w hst hpl ht) (h W σ H ex hV _ fun v W1 H1 s1 r1 => ?_)
  have r1' := r1
  cases r1 with
  | ins h1 h2 h3 =>
    refine ⟨_, _, _, rfl, s1.wh _ _ h1, lookup_none h2 hm, ?_⟩
    refine ha W1 σ H1 s1.wh (hV.mono s1.ww) _ fun vs W2 H2 s2 r2 => ?_
    rw [List.append_nil]
    have s3 := s1.trans s2
    exact ⟨by rw [List.length_cons, ← r2.length]; exact hn, W2, _, P, s2.wh, .cons (r1'.mono s2.ww) r2, hG, fun l hl a W' H' us st z1 z2 z3 z4 => g l hl a W' H' us (s3.trans st) (Evl.fresh_back s3.hh z1) z2 z3 z4⟩⟩
theorem jnp_prop (c : NProp X.prog X.w X.K X.mg X.base k C f G) (cl : Cls X.K C) (hr : Room j X.A) (h : J X o ρ (.ins C fds)) (hG : G [.ins C fds] P) (hk : k + 1 ≤ j := by decide) (hab : attributeBase o f X.env (eval o X.env) = eval o X.env := by rfl) : JNP X (.Attribute o f pos) ρ P := ⟨fun W σ H ex hV Q g => by
  obtain ⟨p, gt, fd, F, hp, hb⟩ := c.ex
  refine .of (pe_prop pe_w cl hp F (hr.mono hk) hb .nil pass0 hab) (h W σ H ex hV _ fun v W1 H1 s1 r1 => ?_)
  have r1' := r1
  cases r1 with
  | ins h1 h2 h3 =>
    exact ⟨_, _, _, rfl, s1.wh _ _ h1, rfl, W1, _, P, s1.wh, .cons r1' .nil, hG, fun l hl a W' H' us st z1 z2 z3 z4 => g l hl a W' H' us (s1.trans st) (Evl.fresh_back s1.hh z1) z2 z3 z4⟩⟩
end
/-! ### sorted -/
section
variable {X : Cx} {a : Expr} {p pos : Pos} {ρ : Rho}
theorem jnp_sortedT {ls : List (Str × List D)} (T : Bt X.mg) (ha : J X a ρ (.lst (ls.map tupN))) (hn : (ls.map (·.1)).Nodup) (hg : Gl X "sorted" := by rfl) (he : starEach [a] X.env = (false, eval a X.env) :: starEach [] X.env := by rfl) (hpl : (backTo pos (starEach [] X.env)).any (·.1) = false := by rfl) :
    JNP X (.Call (.Name "sorted" p) [a] [] pos) ρ fun l => ∃ ls' : List (Str × List D), l = ls'.map tupN ∧ ls'.Perm ls ∧ (ls'.map (·.1)).Pairwise ltT := ⟨fun W σ H ex hV Q g => .of (pe_callB (cr_sortedT (nm := fun l : Str × List D => l.1)) hg T.sorted (by decide +kernel) (pa_cons pe_w pa_nil he) (by decide) (by decide) he hpl) (ha W σ H ex hV _ fun v W1 H1 s1 r1 => by
  cases r1 with
  | @lst l vs _ h1 k =>
    have hl : vs.length = ls.length := by rw [← k.length, List.length_map]
    have hm1 : (vs.zip ls).map (·.1) = vs := List.map_fst_zip (by omega)
    have hm2 : (vs.zip ls).map (·.2) = ls := List.map_snd_zip (by omega)
    have hrep : ∀ q ∈ vs.zip ls, Rep X.K W1 (tupN q.2) q.1 := fun q hq => by
      obtain ⟨i, hi⟩ := List.mem_iff_getElem?.mp hq
      obtain ⟨e1, e2⟩ := List.getElem?_zip_eq_some.mp hi
      obtain ⟨v, g1, g2⟩ := k.get (i := i) (d := tupN q.2) (by rw [List.getElem?_map, e2]; rfl)
      rw [e1] at g1
      cases g1
      exact g2
    refine ⟨l, vs.zip ls, rfl, by rw [hm1]; exact SqL.of (s1.wh _ _ h1), fun q hq => ?_, ?_, fun ps' l' hp hs hn' => ?_⟩
    · have := hrep q hq
      generalize q.1 = v at this
      cases this with
      | tup h2 k2 =>
        cases k2 with
        | cons r2 k2 => cases r2; exact ⟨_, _, rfl, Evl.ex_t s1.wh h2⟩
    · have e : (vs.zip ls).map (fun q => q.2.1) = ls.map (·.1) := by
        have := congrArg (List.map fun l : Str × List D => l.1) hm2
        rw [List.map_map] at this
        exact this
      rw [e]; exact hn
    · have e1 : ((ps'.map (·.2)).map fun l : Str × List D => l.1) = ps'.map fun q => q.2.1 := by rw [List.map_map]; rfl
      refine g _ ⟨ps'.map (·.2), rfl, by have := hp.map (fun q : V × (Str × List D) => q.2); rw [hm2] at this; exact this, by rw [e1]; exact hs⟩ l' W1 _ _ (s1.trans (.newH s1.wh hn')) (Evl.fresh_back s1.hh hn') (Evl.fresh_back s1.wh hn') upd_same ?_
      have key : ∀ l : List (V × (Str × List D)), (∀ q ∈ l, Rep X.K W1 (tupN q.2) q.1) → RepAll X.K W1 ((l.map (·.2)).map tupN) (l.map (·.1)) := by
        intro l
        induction l with
        | nil => intro _; exact .nil
        | cons q l ih => intro h; exact .cons (h q List.mem_cons_self) (ih fun x hx => h x (List.mem_cons_of_mem _ hx))
      exact key ps' fun q hq => hrep q (hp.mem_iff.mp hq))⟩
/-- sorted(xs), xs texts -/
theorem jnp_sortedS {xs : List Str} (T : Bt X.mg) (ha : J X a ρ (.lst (xs.map D.str))) (h64 : xs.length < 64) (hg : Gl X "sorted" := by rfl) (he : starEach [a] X.env = (false, eval a X.env) :: starEach [] X.env := by rfl) (hpl : (backTo pos (starEach [] X.env)).any (·.1) = false := by rfl) :
    JNP X (.Call (.Name "sorted" p) [a] [] pos) ρ fun l => ∃ ys : List Str, l = ys.map D.str ∧ ys.Perm xs ∧ (xs.Nodup → ys.Pairwise ltT) := ⟨fun W σ H ex hV Q g => .of (pe_callB cr_sortedS hg T.sorted (by decide +kernel) (pa_cons pe_w pa_nil he) (by decide) (by decide) he hpl) (ha W σ H ex hV _ fun v W1 H1 s1 r1 => by
  cases r1 with
  | lst h1 k =>
    cases k.strs
    exact ⟨_, xs, rfl, SqL.of (s1.wh _ _ h1), h64, fun ys q hp hs hn => g _ ⟨ys, rfl, hp, fun hx => asc_sorted hs (hp.nodup_iff.mpr hx)⟩ q W1 _ _ (s1.trans (.newH s1.wh hn)) (Evl.fresh_back s1.hh hn) (Evl.fresh_back s1.wh hn) upd_same (.toStrs ys)⟩)⟩
/-- two ascending rows of the same texts -/
theorem asc_eq {xs ys : List Str} (h : xs.Perm ys) (h1 : xs.Pairwise ltT) (h2 : ys.Pairwise ltT) : xs = ys :=
  h.eq_of_pairwise (le := ltT) (fun a b _ _ p q => absurd (List.lt_trans (α := Nat) p q) (List.lt_irrefl _)) h1 h2
end
/-! ### in, over data of any depth -/
section
variable {X : Cx} {d : D} {ds : List D} {t u : Bool}
theorem any_py (n : Nat) {d : D} {p : PyData} (hd : fitD n d = true) (hp : toPy d = some p) : ∀ (ds : List D) (ps : List PyData), fitAllD n ds = true → toPys ds = some ps → (ps.any fun z => PyData.eqv z p) = ds.any fun z => eqvD z d
  | [], ps, _, h => by cases h; rfl
  | e :: ds, ps, hf, h => by
    have hf' : fitD n e = true ∧ fitAllD n ds = true := by simpa [fitAllD] using hf
    simp only [toPys] at h
    split at h
    · rename_i y ys e1 e2
      cases h
      rw [List.any_cons, List.any_cons, any_py n hd hp ds ys hf'.2 e2, eqv_py n e d y p hf'.1 hd e1 hp]
    · cases h
theorem fit_lst {n : Nat} (h : fitAllD n ds = true) (hn : n ≤ 58) : ∃ ps, toPys ds = some ps ∧ SeqAt.shaped (.list ps) = true := by
  obtain ⟨ps, h1, h2, h3⟩ := fitAll_py n ds h
  exact ⟨ps, h1, shaped_of (n := n + 1) (by simp only [PyData.canLay0]; exact h2) (by simp only [PyData.depth]; omega) (by omega)⟩
theorem Rep.dpL {K : PySem.W.Frag} {H : Hp} {v : V} {ps : List PyData} (r : Rep K H (.lst ds) v) (h : toPys ds = some ps) : Dp K H v (.list ps) := r.dp _ (by simp only [toPy, h]; rfl)
theorem cd_inDeep (n : Nat) (hu : X.A.units + 65 < cLine) (h1 : fitD n d = true) (h2 : fitAllD n ds = true) (hn : n ≤ 58 := by decide) : CmD X .In d (.lst ds) (ds.any fun z => eqvD z d) := ⟨_, op_inD hu, fun W H v w ex r1 r2 Q q => by
  obtain ⟨p, e1, e2, e3⟩ := fit_py n d h1
  obtain ⟨ps, g1, g2⟩ := fit_lst h2 hn
  refine ⟨p, ps, (r1.mono ex).dp _ e1, (r2.mono ex).dpL g1, shaped_of e2 e3 (by omega), g2, ?_⟩
  rw [any_py n h1 e1 ds ps h2 g1]
  exact q.now ex (.bl _)⟩
theorem cd_ninDeep (n : Nat) (hu : X.A.units + 65 < cLine) (h1 : fitD n d = true) (h2 : fitAllD n ds = true) (hn : n ≤ 58 := by decide) : CmD X .NotIn d (.lst ds) (!(ds.any fun z => eqvD z d)) := ⟨_, op_notInD hu, fun W H v w ex r1 r2 Q q => by
  obtain ⟨p, e1, e2, e3⟩ := fit_py n d h1
  obtain ⟨ps, g1, g2⟩ := fit_lst h2 hn
  refine ⟨p, ps, (r1.mono ex).dp _ e1, (r2.mono ex).dpL g1, shaped_of e2 e3 (by omega), g2, ?_⟩
  rw [any_py n h1 e1 ds ps h2 g1]
  exact q.now ex (.bl _)⟩
theorem cd_isB : CmD X .Is (.bl t) (.bl u) (decide (t = u)) := ⟨_, op_is_bl, fun W H v w ex r1 r2 Q q => by
  cases r1; cases r2; exact ⟨_, _, rfl, rfl, q.now ex (.bl _)⟩⟩
theorem cd_notB : CmD X .IsNot (.bl t) (.bl u) (!decide (t = u)) := ⟨_, op_isnot_bl, fun W H v w ex r1 r2 Q q => by
  cases r1; cases r2; exact ⟨_, _, rfl, rfl, q.now ex (.bl _)⟩⟩
theorem units65 {k : Nat} {A : Around} (r : Room k A) : A.units + 65 < cLine := by have := r.un; omega
end
end Pf

/-! comprehensions whose items are known by a promise -/
namespace Pf
open PySem L2 PySem.Spec PyProof.Rows
open Evl (Ex)
inductive All2 {α β : Type} (R : α → β → Prop) : List α → List β → Prop
  | nil : All2 R [] []
  | cons {a : α} {b : β} {as : List α} {bs : List β} : R a b → All2 R as bs → All2 R (a :: as) (b :: bs)
section
variable {α β γ : Type} {R : α → β → Prop}
theorem All2.len : ∀ {as : List α} {bs : List β}, All2 R as bs → as.length = bs.length
  | _, _, .nil => rfl
  | _, _, .cons _ h => congrArg (· + 1) h.len
theorem All2.append {as : List α} {bs : List β} {as' : List α} {bs' : List β} (h : All2 R as bs) (h' : All2 R as' bs') : All2 R (as ++ as') (bs ++ bs') := by
  induction h with
  | nil => exact h'
  | cons a _ ih => exact .cons a ih
theorem All2.imp {S : α → β → Prop} {as : List α} {bs : List β} (h : All2 R as bs) (k : ∀ a ∈ as, ∀ b, R a b → S a b) : All2 S as bs := by
  induction h with
  | nil => exact .nil
  | cons a _ ih => exact .cons (k _ List.mem_cons_self _ a) (ih fun x hx => k x (List.mem_cons_of_mem _ hx))
theorem All2.right {P : β → Prop} {as : List α} {bs : List β} (h : All2 R as bs) (k : ∀ a ∈ as, ∀ b, R a b → P b) : ∀ b ∈ bs, P b := by
  induction h with
  | nil => intro b hb; cases hb
  | cons a _ ih =>
    intro b hb
    rcases List.mem_cons.mp hb with rfl | hb
    · exact k _ List.mem_cons_self _ a
    · exact ih (fun x hx => k x (List.mem_cons_of_mem _ hx)) b hb
/-- what each is the image of -/
theorem All2.pull {f : γ → β} {Q : α → γ → Prop} {as : List α} {bs : List β} (h : All2 R as bs) (k : ∀ a ∈ as, ∀ b, R a b → ∃ c, b = f c ∧ Q a c) : ∃ cs, bs = cs.map f ∧ All2 Q as cs := by
  induction h with
  | nil => exact ⟨[], rfl, .nil⟩
  | cons a _ ih =>
    obtain ⟨c, rfl, q⟩ := k _ List.mem_cons_self _ a
    obtain ⟨cs, rfl, q2⟩ := ih fun x hx => k x (List.mem_cons_of_mem _ hx)
    exact ⟨c :: cs, rfl, .cons q q2⟩
theorem All2.map_eq {f : α → γ} {g : β → γ} {as : List α} {bs : List β} (h : All2 R as bs) (k : ∀ a ∈ as, ∀ b, R a b → f a = g b) : as.map f = bs.map g := by
  induction h with
  | nil => rfl
  | cons a _ ih => rw [List.map_cons, List.map_cons, k _ List.mem_cons_self _ a, ih fun x hx => k x (List.mem_cons_of_mem _ hx)]
end
section
variable {X : Cx} {elt tg iter : Expr} {scope : Scope} {own : List (Str × Nat)} {pos : Pos} {ρ : Rho}
theorem jnp_lcP {α : Type} {pat : Pat} (xs : List α) (g0 : α → D) (Py : α → D → Prop) (hi : JI X tg iter ρ (xs.map g0)) (ok : BlkOk X.N X.env.scope scope own) (hg : ∀ s H C cl fp, PG (blkX X scope s H C cl fp) tg (pat.g X.K)) (hown : ∀ i ∈ pat.slots, i ∈ own.map (·.2)) (hlen : xs.length < sizeLine)
    (turn : ∀ x ∈ xs, ∃ ρ', pat.set (g0 x) (wipeR ρ (own.map (·.2))) = some ρ' ∧ ∀ s H C cl fp, JP (blkX X scope s H C cl fp) elt ρ' (Py x)) (hN : X.N.Nodup)  (hc : X.calm = true := by rfl) (hs : ∀ x, foldedSetIterable iter X.env x = pure x := by intro _; rfl) :
    JNP X (.ListComp elt [⟨tg, iter, [], 0⟩] scope pos) ρ (All2 Py xs) := ⟨fun W σ H ex hV Q g => by
  refine .of (pe_lc (tt := fun σ H Q => ∀ s H0 C cl fp, wTs (blkX X scope s H0 C cl fp) [] σ H Q) (te := fun σ H Q => ∀ s H0 C cl fp, wE (blkX X scope s H0 C cl fp) elt σ H Q) hc hN pi_w ok hg
    (fun s H0 C cl fp => ⟨fun pins s' σ' H' Q' I h => h s H0 C cl fp pins s' I⟩) (fun s H0 C cl fp => ⟨fun pins s' σ' H' Q' I h => h s H0 C cl fp pins s' I⟩) hs) ?_
  refine hi W σ H ex hV _ fun Jt W1 H1 s1 wk => ?_
  intro Dn hD
  have hW1 : W1 Dn = none := Evl.fresh_back s1.wh hD
  refine ⟨fun i m H2 => m = xs.length - i ∧ i ≤ xs.length ∧ ∃ W2 vs ds, Step W1 H1 W2 H2 ∧ W2 Dn = none ∧ H2 Dn = some (.lst vs) ∧ All2 Py (xs.take i) ds ∧ RepAll X.K W2 ds vs, ⟨_, rfl, Nat.zero_le _, W1, [], [], .newH s1.wh hD, hW1, upd_same, .nil, .nil⟩, ?_⟩
  rintro k m H2 ⟨rfl, hil, W2, vs, ds, s2, hW2, hH2, ha, rv⟩
  by_cases hlt : k < xs.length
  · refine .inr ⟨wk.go k H2 (s2.ww.trans s2.wh) (by rw [List.length_map]; exact hlt), _, fun H' z => ⟨_, (by omega : xs.length - (k + 1) < xs.length - k), rfl, hlt, z⟩, fun x H3 hy => ?_⟩
    obtain ⟨d, hd⟩ : ∃ d, xs[k]? = some d := ⟨xs[k], by simp [hlt]⟩
    obtain ⟨W3, s3, rx⟩ := wk.yld k H2 x H3 (g0 d) (s2.ww.trans s2.wh) (by rw [List.getElem?_map, hd]; rfl) hy W2 s2.ww s2.wh
    have ht := turn _ (List.mem_of_getElem? hd)
    have hV3 : Vis X.K ρ W3 σ := hV.mono ((s1.trans s2).trans s3).ww
    have hW3 : W3 Dn = none := by
      cases q : W3 Dn with
      | none => rfl
      | some o =>
        have := s3.fr Dn (by rw [q]; simp) hW2
        rw [hH2] at this; cases this
    have hH3 : H3 Dn = some (.lst vs) := s3.hh _ _ hH2
    have tk : xs.take (k + 1) = xs.take k ++ [d] := by
      rw [List.take_add_one, hd]; rfl
    obtain ⟨ρ2, hset, ht⟩ := ht
    refine Pat.run (hV3.wipe _) s3.wh rx hset fun σ2 hV4 ho => ⟨wipe_eq (by rw [← hV4.len, ← hV3.len, Pat.set_length hset]; have := (hV3.wipe (own.map (·.2))).len; rw [wipe_length, ← hV3.len] at this; exact this.symm) hown ho, ?_⟩
    refine fun s H0 C cl fp => (jts_nil (X := blkX X scope s H0 C cl fp)) W3 σ2 H3 s3.wh hV4 _ fun W4 H4 s4 => ?_
    rw [if_pos rfl]
    refine fun s' H0' C' cl' fp' => (ht s' H0' C' cl' fp').run W4 σ2 H4 s4.wh (hV4.mono s4.ww) _ fun y hy' v W5 H5 s5 r5 => ?_
    have s35 := s4.trans s5
    have hH5 := s35.hh _ _ hH3
    have hW5 : W5 Dn = none := by
      cases q : W5 Dn with
      | none => rfl
      | some o => have := s35.fr Dn (by rw [q]; simp) hW3; rw [hH3] at this; cases this
    have hvl : vs.length ≤ k := by
      rw [← rv.length, ← ha.len, List.length_take]; omega
    refine ⟨vs, hH5, by omega, W5, vs ++ [v], ds ++ [y], ?_, hW5, upd_same, ?_, ?_⟩
    · have s25 := (s2.trans s3).trans s35
      refine ⟨s25.ww, fun a o h => ?_, fun a o h => ?_, s25.fr⟩
      · rw [upd_ne (ne_of_none h hW5)]; exact s25.wh a o h
      · rw [upd_ne (ne_of_none h hD)]; exact s25.hh a o h
    · rw [tk]; exact ha.append (.cons hy' .nil)
    · exact (rv.mono (s3.trans s35).ww).append (.cons r5 .nil)
  · have e : k = xs.length := by omega
    subst e
    rw [List.take_length] at ha
    exact .inl ⟨by have := wk.stop H2 (s2.ww.trans s2.wh); rwa [List.length_map] at this, g ds ha Dn W2 H2 vs (s1.trans s2) (Evl.fresh_back s1.hh hD) hW2 hH2 rv⟩⟩
/-- .. stored to a plain local name, as the slot's own -/
theorem js_setLcP {α : Type} {pat : Pat} {i : Nat} {pin : List Nat} {ρ : RhoS} {Φ : Out → Prop} {x : Str} {p' lpos : Pos} (xs : List α) (g0 : α → D) (Py : α → D → Prop) (hi' : JI X tg iter (fzR ρ) (xs.map g0)) (ok : BlkOk X.N X.env.scope scope own) (hg : ∀ s H C cl fp, PG (blkX X scope s H C cl fp) tg (pat.g X.K)) (hown : ∀ i ∈ pat.slots, i ∈ own.map (·.2)) (hlen : xs.length < sizeLine)
    (turn : ∀ x ∈ xs, ∃ ρ', pat.set (g0 x) (wipeR (fzR ρ) (own.map (·.2))) = some ρ' ∧ ∀ s H C cl fp, JP (blkX X scope s H C cl fp) elt ρ' (Py x)) (hk : ∀ l, All2 Py xs l → Φ (.nx (ρ.set i (some (.ow (.lst l)))))) (hN : X.N.Nodup) (hsw : swapsWith (.ListComp elt [⟨tg, iter, [], 0⟩] scope lpos) (some (.Name x p')) pos.line X.env = pure true)
     (hi : X.N[i]? = some x := by rfl) (hx : X.env.scope.names.lookup x = some .local := by rfl) (hp : i ∉ pin := by decide) (hc : X.calm = true := by rfl) (hs : ∀ x, foldedSetIterable iter X.env x = pure x := by intro _; rfl) :
    JS X pin (.Assign [.Name x p'] (.ListComp elt [⟨tg, iter, [], 0⟩] scope lpos) pos) ρ Φ := ⟨fun E σ H D hpn ⟨Hf, A, s⟩ kk => by
  refine .of (ps_setLc (tt := fun σ H Q => ∀ s H0 C cl fp, wTs (blkX X scope s H0 C cl fp) [] σ H Q) (te := fun σ H Q => ∀ s H0 C cl fp, wE (blkX X scope s H0 C cl fp) elt σ H Q) hc hN hi hx hsw pi_w ok hg
    (fun s H0 C cl fp => ⟨fun pins s' σ' H' Q' I h => h s H0 C cl fp pins s' I⟩) (fun s H0 C cl fp => ⟨fun pins s' σ' H' Q' I h => h s H0 C cl fp pins s' I⟩) hs) ?_
  refine hi' Hf σ H s.fh s.vis _ fun Jt W1 H1 s1 wk => ?_
  intro Dn hD
  have hV := s.vis
  have hW1 : W1 Dn = none := Evl.fresh_back s1.wh hD
  refine ⟨fun i m H2 => m = xs.length - i ∧ i ≤ xs.length ∧ ∃ W2 vs ds, Step W1 H1 W2 H2 ∧ W2 Dn = none ∧ H2 Dn = some (.lst vs) ∧ All2 Py (xs.take i) ds ∧ RepAll X.K W2 ds vs, ⟨_, rfl, Nat.zero_le _, W1, [], [], .newH s1.wh hD, hW1, upd_same, .nil, .nil⟩, ?_⟩
  rintro k m H2 ⟨rfl, hil, W2, vs, ds, s2, hW2, hH2, ha, rv⟩
  by_cases hlt : k < xs.length
  · refine .inr ⟨wk.go k H2 (s2.ww.trans s2.wh) (by rw [List.length_map]; exact hlt), _, fun H' z => ⟨_, (by omega : xs.length - (k + 1) < xs.length - k), rfl, hlt, z⟩, fun x H3 hy => ?_⟩
    obtain ⟨d, hd⟩ : ∃ d, xs[k]? = some d := ⟨xs[k], by simp [hlt]⟩
    obtain ⟨W3, s3, rx⟩ := wk.yld k H2 x H3 (g0 d) (s2.ww.trans s2.wh) (by rw [List.getElem?_map, hd]; rfl) hy W2 s2.ww s2.wh
    have ht := turn _ (List.mem_of_getElem? hd)
    have hV3 : Vis X.K (fzR ρ) W3 σ := hV.mono ((s1.trans s2).trans s3).ww
    have hW3 : W3 Dn = none := by
      cases q : W3 Dn with
      | none => rfl
      | some o =>
        have := s3.fr Dn (by rw [q]; simp) hW2
        rw [hH2] at this; cases this
    have hH3 : H3 Dn = some (.lst vs) := s3.hh _ _ hH2
    have tk : xs.take (k + 1) = xs.take k ++ [d] := by
      rw [List.take_add_one, hd]; rfl
    obtain ⟨ρ2, hset, ht⟩ := ht
    refine Pat.run (hV3.wipe _) s3.wh rx hset fun σ2 hV4 ho => ⟨wipe_eq (by rw [← hV4.len, ← hV3.len, Pat.set_length hset]; have := (hV3.wipe (own.map (·.2))).len; rw [wipe_length, ← hV3.len] at this; exact this.symm) hown ho, ?_⟩
    refine fun s H0 C cl fp => (jts_nil (X := blkX X scope s H0 C cl fp)) W3 σ2 H3 s3.wh hV4 _ fun W4 H4 s4 => ?_
    rw [if_pos rfl]
    refine fun s' H0' C' cl' fp' => (ht s' H0' C' cl' fp').run W4 σ2 H4 s4.wh (hV4.mono s4.ww) _ fun y hy' v W5 H5 s5 r5 => ?_
    have s35 := s4.trans s5
    have hH5 := s35.hh _ _ hH3
    have hW5 : W5 Dn = none := by
      cases q : W5 Dn with
      | none => rfl
      | some o => have := s35.fr Dn (by rw [q]; simp) hW3; rw [hH3] at this; cases this
    have hvl : vs.length ≤ k := by
      rw [← rv.length, ← ha.len, List.length_take]; omega
    refine ⟨vs, hH5, by omega, W5, vs ++ [v], ds ++ [y], ?_, hW5, upd_same, ?_, ?_⟩
    · have s25 := (s2.trans s3).trans s35
      refine ⟨s25.ww, fun a o h => ?_, fun a o h => ?_, s25.fr⟩
      · rw [upd_ne (ne_of_none h hW5)]; exact s25.wh a o h
      · rw [upd_ne (ne_of_none h hD)]; exact s25.hh a o h
    · rw [tk]; exact ha.append (.cons hy' .nil)
    · exact (rv.mono (s3.trans s35).ww).append (.cons r5 .nil)
  · have e : k = xs.length := by omega
    subst e
    rw [List.take_length] at ha
    exact .inl ⟨by have := wk.stop H2 (s2.ww.trans s2.wh); rwa [List.length_map] at this, kk _ (hk ds ha) _ H2 (s.newL (s1.trans s2) (Evl.fresh_back s1.hh hD) hW2 hH2 rv (hpn.none hp))⟩⟩
end
end Pf

/-! enumerate(list, start=k); xs.extend(list or tuple); a, b = a list; a try whose body raises nothing -/
namespace Pf
open PySem L2 PySem.Spec PyProof.Rows
open Evl (Ex)
/-! ### enumerate(list, start=k) -/
def ItE (K : PySem.W.Frag) (a : Addr) (k0 : Int) : It :=
  ⟨fun i H => ∃ (xs : List V) (x : V), SqL K H a xs ∧ xs[i]? = some x, fun i H v H' => ∃ T x, v = .ref T ∧ H T = none ∧ H' = upd H T (.tup [.int (k0 + (i : Nat)), x]) ∧ ∀ xs, SqL K H a xs → xs[i]? = some x, fun i H => ∃ xs : List V, SqL K H a xs ∧ xs.length = i⟩
theorem turn_enumLs {P : Program} {w : World} {K : PySem.W.Frag} {elts : List Expr} {kk : Nat} {tpos : Pos} (a : Addr) (k0 : Int) (e it : Addr) :
    Turn P w K (.Tuple elts kk tpos) (ItE K a k0) [e, it] e (fun i h => (∃ old, IsEnum h e it (k0 + ((i : Nat) : Int)) old) ∧ h.IsListIter it a i ∧ e ≠ it) where
  mem := List.mem_cons_self
  obj := by
    rintro i h ⟨⟨old, he⟩, ⟨o, ho, _, hd⟩, _⟩ b hb
    rcases List.mem_cons.mp hb with q | q
    · rw [q]; exact ⟨_, he, fun v r => nomatch r⟩
    · exact ⟨o, List.mem_singleton.mp q ▸ ho, fun v q => by rw [hd] at q; cases q⟩
  keep := fun i h h' st k => let ⟨⟨old, he⟩, hi, hne⟩ := st; ⟨⟨old, k e (by simp) _ he⟩, hi.at fun o q => k it (by simp) o q, hne⟩
  item := by
    rintro X rfl rfl rfl hc i pins s σ H E I hf ⟨⟨old, he⟩, hit, hne⟩ hg
    obtain ⟨xs, x, hq, hx⟩ := hg
    obtain ⟨its, rv, p, hz⟩ := I.list hq
    obtain ⟨u, hu, ru⟩ := rv.get hx
    have le : e < s.heap.objs.size := Heap.lt_size he
    have li : it < s.heap.objs.size := by obtain ⟨_, q, _⟩ := hit; exact Heap.lt_size q
    have hli : a ≠ it := fun z => by
      obtain ⟨o1, q1, c1, _⟩ := hit
      obtain ⟨o2, q2, c2, _⟩ := p.isList
      rw [z, q1] at q2
      cases q2
      rw [c1] at c2; exact absurd c2 (by decide)
    have hle : a ≠ e := fun z => by
      obtain ⟨o2, q2, c2, _⟩ := p.isList
      rw [z, show s.heap.get? e = _ from he] at q2
      cases q2
      exact absurd c2 (by show ¬ (Value.type "enumerate" = Value.type "list"); decide)
    have hD := Draws.list (prog := X.prog) (w := X.w) (A := X.A.in1) (show X.A.in1.handled = none from I.ok.hd hc) it a hli its.toArray
    have hlt : i < its.toArray.size := by
      have := (List.getElem?_eq_some_iff.mp hu).1
      rw [List.size_toArray]; exact this
    refine wpAny_pyNext_enum_itemC hD he ⟨hit, p.isList⟩ hlt hne (fun q => by
      rcases List.mem_cons.mp q with z | z
      · exact hne z
      · exact hle (List.mem_singleton.mp z).symm) fun y h1 tk hy out hit1 hT hsz hk => ?_
    have hyu : y = u := by
      have : its.toArray[i]? = some u := by simpa using hu
      rw [this] at hy; cases hy; rfl
    subst hyu
    refine ⟨_, rfl, wpAny_letOwnedTupleGo_enum out fun h2 he2 sb => ?_⟩
    have hT2 := (sb.2 _ (Nat.ne_of_gt le)).trans hT
    have hnew : ObjOk X.prog X.w (upd H s.heap.objs.size (.tup [.int (k0 + (i : Nat)), x])) h2 s.heap.objs.size (.tup [.int (k0 + (i : Nat)), x]) :=
      ⟨by show 2 ≤ _; decide, [.int (k0 + (i : Nat)) tk, y], .cons ⟨_, rfl⟩ (.cons ru .nil), ⟨_, hT2, rfl, _, rfl⟩⟩
    have I2 := I.turnedNew (h' := h2) (t' := tk + 1) (ch := [e, it]) (fun b ob hb q => (sb.2 b fun y => hb (y ▸ List.mem_cons_self)).trans (hk b ob (fun y => hb (y ▸ List.mem_cons_self)) (fun y => hb (y ▸ List.mem_cons_of_mem _ List.mem_cons_self)) q)) hf (Nat.le_refl _) hnew
    refine ⟨.ref s.heap.objs.size, _, I2, rfl, ⟨_, x, rfl, I.hok.fresh (Nat.le_refl _), rfl, fun ys hy => by rw [I.list_inj hy hq]; exact hx⟩, ⟨⟨y, ?_⟩, hit1.1.at fun o q => (sb.2 it (Ne.symm hne)).trans q, hne⟩, fun b hb => ?_⟩
    · rw [show k0 + (((i + 1 : Nat)) : Int) = k0 + (i : Int) + 1 by omega]
      exact he2
    · have lb : b < s.heap.objs.size := by
        rcases List.mem_cons.mp hb with q | q
        · exact q ▸ le
        · exact List.mem_singleton.mp q ▸ li
      rw [upd_ne (Nat.ne_of_lt lb)]
      exact (hf b hb).1
  done := by
    rintro X rfl rfl rfl hc i pins s σ H E I hf ⟨⟨old, he⟩, hit, hne⟩ hg
    obtain ⟨xs, hq, hx⟩ := hg
    obtain ⟨its, rv, p, hz⟩ := I.list hq
    have hli : a ≠ it := fun z => by
      obtain ⟨o1, q1, c1, _⟩ := hit
      obtain ⟨o2, q2, c2, _⟩ := p.isList
      rw [z, q1] at q2
      cases q2
      rw [c1] at c2; exact absurd c2 (by decide)
    have hD := Draws.list (prog := X.prog) (w := X.w) (A := X.A.in1) (show X.A.in1.handled = none from I.ok.hd hc) it a hli its.toArray
    obtain ⟨f0, f1, f2, f3, f4, f5⟩ := hf it (List.mem_cons_of_mem _ List.mem_cons_self)
    have hl := rv.length
    have e1 : i = its.toArray.size := by rw [List.size_toArray]; omega
    subst e1
    exact wpAny_pyNext_enum_endD hD he ⟨hit, p.isList⟩ fun h' eb => ⟨rfl, I.turned (t' := s.toks) (fun b o hb q => eb b o hb q) f0 f1 f3 f4 f5⟩
  self := by
    rintro A i s Q E ⟨⟨_, he⟩, _⟩ h
    exact wpAny_pyIter_enum he h
def enumLD (ds : List D) (k0 : Int) : List D := ds.zipIdx.map fun p => D.tup [.int (k0 + (p.2 : Nat)), p.1]
theorem enumLD_get {xs : List D} {k0 : Int} {i : Nat} {d : D} (h : (enumLD xs k0)[i]? = some d) : ∃ x, xs[i]? = some x ∧ d = .tup [.int (k0 + (i : Nat)), x] := by
  unfold enumLD at h
  rw [List.getElem?_map, List.getElem?_zipIdx] at h
  cases q : xs[i]? with
  | none => rw [q] at h; cases h
  | some x => rw [q] at h; cases h; exact ⟨x, rfl, by simp⟩
theorem enumLD_length {xs : List D} {k0 : Int} : (enumLD xs k0).length = xs.length := by unfold enumLD; rw [List.length_map, List.length_zipIdx]
theorem walks_enumLs {K : PySem.W.Frag} {W : Hp} {l : Addr} {vs : List V} {ds : List D} {k0 : Int} (h : W l = some (.lst vs)) (k : RepAll K W ds vs) : Walks K (ItE K l k0) W (enumLD ds k0) where
  go := fun i H ex hi => by
    rw [enumLD_length] at hi
    have hv : i < vs.length := by rw [← k.length]; exact hi
    exact ⟨vs, vs[i], SqL.of (ex _ _ h), by simp [hv]⟩
  yld := fun i H x H' d ex hd hy W2 e1 e2 => by
    obtain ⟨T, y, rfl, hT, rfl, hy⟩ := hy
    obtain ⟨dx, h1, rfl⟩ := enumLD_get hd
    obtain ⟨v, h2, h3⟩ := k.get h1
    have q := hy vs (SqL.of (ex _ _ h))
    rw [h2] at q; cases q
    exact ⟨_, .new e2 hT, .tup (SqT.of upd_same) (.cons (.int _) (.cons ((h3.mono e1).mono (Evl.Ex.new (Evl.fresh_back e2 hT))) .nil))⟩
  stop := fun H ex => ⟨vs, SqL.of (ex _ _ h), by rw [enumLD_length]; exact k.length.symm⟩
section
variable {X : Cx} {ρ : Rho} {a : Expr} {ds : List D} {pos p p2 kp tpos : Pos} {elts : List Expr} {kk kt : Nat}
theorem ji_enumLs {k0 : Int} (T : Bt X.mg) (ha : J X a ρ (.lst ds)) (h0 : -(2 ^ 63) ≤ k0) (h1 : k0 < 2 ^ 63) (hg : Gl X "enumerate" := by rfl) (hs : starEach [a] X.env = (false, eval a X.env) :: starEach [] X.env := by rfl)
    (he : backTo pos (starEach [a] X.env) = (false, eval a X.env) :: backTo pos (starEach [] X.env) := by rfl) (hp : (backTo pos (starEach [a] X.env)).any (·.1) = false := by rfl)
    (hall : (backToKw pos (keywordEach [⟨some "start", .Constant (.int k0) kk p2, kp⟩] X.env)).all (·.1.isSome) = true := by rfl) (hkw : (backToKw pos (keywordEach [⟨some "start", .Constant (.int k0) kk p2, kp⟩] X.env)).any (·.1.isNone) = false := by rfl) :
    JI X (.Tuple elts kt tpos) (.Call (.Name "enumerate" p) [a] [⟨some "start", .Constant (.int k0) kk p2, kp⟩] pos) ρ (enumLD ds k0) := ⟨fun W σ H ex hV R g => by
  refine fun pins s I => ?_
  refine wpAny_Call_Name_kw (ld_blt I hg T.enumerate boot_enumerate (callWith_typeK (args_cons (thn (pe_w.run pins s σ H _ I (ha W σ H ex hV (fun v H' => ∃ W', Step W H W' H' ∧ Rep X.K W' (.lst ds) v) fun v W' H' st r => ⟨W', st, r⟩)) fun u s1 ⟨vv, H1, I1, r1, W', st, ev⟩ => args_nil ?_) hs) he hp hall hkw))
  cases ev with
  | @lst l vs _ hl kv =>
    obtain rfl : u = Value.ref l := r1
    refine kws_cons (thn ((pe_int (X := X) (i := k0)).run pins s1 σ H1 (fun v H' => v = .int k0 ∧ H' = H1) I1 ⟨rfl, rfl⟩) fun u s2 ⟨vv, H2, I2, r2, e1, e2⟩ => kws_nil ?_)
    subst e1 e2
    obtain ⟨tk2, rfl⟩ := r2
    obtain ⟨its, rv, pl, hz⟩ := I2.list (SqL.of (st.wh _ _ hl))
    refine enum_begins_start (begins_list l its.toArray) pl.isList h0 h1 fun h' hen hit hsz hk => wpAny_pyIter_enum hen ?_
    have I3 := I2.kept (t' := s2.toks) hk
    refine ⟨s2.heap.objs.size + 1, [s2.heap.objs.size + 1, s2.heap.objs.size], _, _, _, rfl, I3, turn_enumLs l k0 (s2.heap.objs.size + 1) s2.heap.objs.size, ⟨⟨.none, ?_⟩, ⟨_, hit, rfl, rfl⟩, Nat.succ_ne_self _⟩, fun b hb => ?_, g _ _ _ st (walks_enumLs hl kv)⟩
    · show IsEnum h' _ _ (k0 + ((0 : Nat) : Int)) _
      rw [show k0 + ((0 : Nat) : Int) = k0 by omega]
      exact hen
    · have lb : s2.heap.objs.size ≤ b := by
        rcases List.mem_cons.mp hb with q | q
        · rw [q]; exact Nat.le_add_right _ _
        · rw [List.mem_singleton.mp q]; exact Nat.le_refl _
      exact I2.fpOk lb (I2.hok.fresh lb)⟩
end
/-! ### xs.extend(ys) -/
theorem ext_tup (l : Addr) (items : Array Value) (n : Nat) (b : Addr) (od : Option Addr) (sl : Array (Option Value)) (items2 : Array Value) (n2 : Nat) (hs0 : ¬(!items.isEmpty && Builtin.List.listTooLong (items.size + items2.size)) = true) (hs1 : items.size ≤ sizeLine) (hs2 : items.size + items2.size ≤ sizeLine + 1) :
    Meets (Builtin.«list.extend» ⟨[.ref l, .ref b], []⟩) (fun _ R s => s.heap.get? l = some { cls := .type "list", dict := none, data := .seq items n, slots := #[] } ∧ s.heap.get? b = some { cls := .type "tuple", dict := od, data := .seq items2 n2, slots := sl } ∧ R (.ok (.ret Value.none)) { s with heap := s.heap.update l (Obj.mapSeq fun x => x ++ items2), toks := s.toks }) :=
  .of_wp fun prog w A R s h => by
    obtain ⟨hp, g, d, tk, os⟩ := s; obtain ⟨hl, hb, h⟩ := h; have f1 := AutoSeq1.idx_int; have f2 := AutoSeq1.sub_tuple_tuple; have f3 := AutoSeq1.sub_list_list; have f4 := AutoSeq1.sub_tuple_list; have f5 := AutoSeq1.sub_list_tuple;
    have hz' : (items ++ items2).size ≤ sizeLine + 1 := by rw [Array.size_append]; exact hs2
    wp_walk using (wpAny_updateSeq hl rfl (hz := hs1) (_hz' := hz')), AutoSeq1.wpAny_loadPart' hl, AutoSeq1.wpAny_loadPart' hb; exact ⟨_, rfl, h⟩
def rExtendT (K : PySem.W.Frag) : V → List V → Hp → VK → Prop := fun x vs H Q => ∃ l b xs zs, x = .ref l ∧ vs = [.ref b] ∧ H l = some (.lst xs) ∧ SqT K H b zs ∧ xs.length + zs.length ≤ sizeLine ∧ Q .non (upd H l (.lst (xs ++ zs)))
theorem mt_extendT {X : Cx} : MtM X "list.extend" (rExtendT X.K) := by
  intro pins s σ H x vs v us Q I rx rv h
  obtain ⟨l, b, xs, zs, rfl, rfl, hH, hB, hz, q⟩ := h
  cases rx
  obtain ⟨u, rfl, ru⟩ := rv.one
  cases ru
  obtain ⟨z, its, n, r, hl, e⟩ := I.lstM hH
  obtain ⟨its2, r2, ⟨⟨cls, od, data, sl⟩, e2, c2, n2, d2⟩, hz2⟩ := I.tuple hB
  obtain rfl : cls = _ := c2
  obtain rfl : data = _ := d2
  have hl2 := r2.length
  have hsz : its.toArray.size + its2.toArray.size ≤ sizeLine := by rw [List.size_toArray, List.size_toArray]; omega
  have hlong : ¬ (!its.toArray.isEmpty && Builtin.List.listTooLong (its.toArray.size + its2.toArray.size)) = true := by
    rw [notLongL hsz, Bool.and_false]
    exact Bool.false_ne_true
  refine call_meets F.slot_list_extend ⟨_, e, rfl⟩ F.entry_list_extend (F.args_list_extend_2 _ _)
    (ext_tup l its.toArray n b od sl its2.toArray n2 hlong (by rw [List.size_toArray]; omega) (by omega)) ⟨e, e2, ?_⟩
  refine ⟨.non, _, I.lset (its' := its ++ its2) hH e (by simp) (r.append r2) ?_, rfl, q⟩
  rw [List.length_append]
  omega
section
variable {X : Cx} {pin : List Nat} {ρ : RhoS} {Φ : Out → Prop} {e : Expr} {ds es : List D} {pos p1 p2 p3 : Pos} {i : Nat} {x : Str}
theorem js_extendT (hi : ρ[i]? = some (some (.ow (.lst ds)))) (h : J X e (fzR ρ) (.tup es)) (hl : ds.length + es.length ≤ sizeLine) (hk : Φ (.nx (ρ.set i (some (.ow (.lst (ds ++ es))))))) (hN : X.N[i]? = some x := by rfl) (hv : L2.Vis X.env.scope x := by first | exact Or.inl rfl | exact Or.inr (Or.inl rfl))
    (hd : (x == ("__debug__" : Str)) = false := by decide) (hcd : (x == ("__classdict__" : Str)) = false := by decide) (hst : starEach [e] X.env = (false, eval e X.env) :: starEach [] X.env := by rfl)
    (hfew : ((backTo p3 (starEach [e] X.env)).all (fun x => !x.1) && (backToKw p3 (keywordEach [] X.env)).all (fun x => x.1.isSome) && decide ([e].length + ([] : List Keyword).length + (if ([] : List Keyword).isEmpty then 0 else 1) < 30)) = true := by rfl)
    (hline : (p2.endLine == p3.line) = true := by rfl)
    (hs : swapsWith (.Call (.Attribute (.Name x p1) "extend" p2) [e] [] p3) none pos.line X.env = pure false := by rfl) : JS X pin (.Expr (.Call (.Attribute (.Name x p1) "extend" p2) [e] [] p3) pos) ρ Φ := ⟨fun E σ H D hpn ⟨Hf, A, s⟩ k => by
  refine .of (ps_expr (pe_bm PySem.F.plainAttrs_list PySem.F.slot_list_extend PySem.F.type_list_extend mt_extendT (pe_var hN hv hd hcd) (pa_cons pe_w pa_nil hst) rfl hfew hline hst) hs) ?_
  obtain ⟨v, hσ, ow, ne⟩ := s.sl i _ hi
  generalize hA : A i = Ai at ow ne
  cases ow with
  | fz _ => exact absurd rfl ne
  | @lst l vs _ B hl1 ha nB =>
    refine ⟨_, hσ, .inl ⟨rfl, _, SqL.of hl1⟩, ?_⟩
    refine h Hf σ H s.fh s.vis _ fun y W' H' st r => ?_
    have s' := s.step st
    have hl2 := st.hh _ _ hl1
    cases r with
    | @tup b zs _ hb rz =>
      refine ⟨l, b, vs, zs, rfl, rfl, hl2, Evl.ex_t st.wh hb, by rw [← ha.length, ← rz.length]; exact hl, ?_⟩
      have hm : l ∈ A i := by rw [hA]; exact List.mem_cons_self
      have k1 : ∀ a ∈ B, upd H' l (.lst (vs ++ zs)) a = H a := fun a haB => by
        rw [upd_ne (fun z => by subst z; exact nB haB)]
        have := (s.ap i a (by rw [hA]; exact List.mem_cons_of_mem _ haB)).2.1
        cases q : H a with
        | none => exact absurd q this
        | some o => exact st.hh _ _ q
      have ap := (ha.move st.ww k1).append (OwnAll.fz rz) (fun a _ h => absurd h (by simp))
      rw [List.append_nil] at ap
      exact k _ hk _ _ ⟨W', _, s'.change (B := l :: B) hi hσ hm (by simp) (fun b hb => by rw [hA]; exact hb) (.lst upd_same ap nB)⟩⟩
theorem js_extendL (hi : ρ[i]? = some (some (.ow (.lst ds)))) (h : J X e (fzR ρ) (.lst es)) (hl : ds.length + es.length ≤ sizeLine) (hk : Φ (.nx (ρ.set i (some (.ow (.lst (ds ++ es))))))) (hN : X.N[i]? = some x := by rfl) (hv : L2.Vis X.env.scope x := by first | exact Or.inl rfl | exact Or.inr (Or.inl rfl))
    (hd : (x == ("__debug__" : Str)) = false := by decide) (hcd : (x == ("__classdict__" : Str)) = false := by decide) (hst : starEach [e] X.env = (false, eval e X.env) :: starEach [] X.env := by rfl)
    (hfew : ((backTo p3 (starEach [e] X.env)).all (fun x => !x.1) && (backToKw p3 (keywordEach [] X.env)).all (fun x => x.1.isSome) && decide ([e].length + ([] : List Keyword).length + (if ([] : List Keyword).isEmpty then 0 else 1) < 30)) = true := by rfl)
    (hline : (p2.endLine == p3.line) = true := by rfl)
    (hs : swapsWith (.Call (.Attribute (.Name x p1) "extend" p2) [e] [] p3) none pos.line X.env = pure false := by rfl) : JS X pin (.Expr (.Call (.Attribute (.Name x p1) "extend" p2) [e] [] p3) pos) ρ Φ := ⟨fun E σ H D hpn ⟨Hf, A, s⟩ k => by
  refine .of (ps_expr (pe_bm PySem.F.plainAttrs_list PySem.F.slot_list_extend PySem.F.type_list_extend mt_extend (pe_var hN hv hd hcd) (pa_cons pe_w pa_nil hst) rfl hfew hline hst) hs) ?_
  obtain ⟨v, hσ, ow, ne⟩ := s.sl i _ hi
  generalize hA : A i = Ai at ow ne
  cases ow with
  | fz _ => exact absurd rfl ne
  | @lst l vs _ B hl1 ha nB =>
    refine ⟨_, hσ, .inl ⟨rfl, _, SqL.of hl1⟩, ?_⟩
    refine h Hf σ H s.fh s.vis _ fun y W' H' st r => ?_
    have s' := s.step st
    have hl2 := st.hh _ _ hl1
    cases r with
    | @lst b zs _ hb rz =>
      refine ⟨l, b, vs, zs, rfl, rfl, hl2, st.wh _ _ hb, by rw [← ha.length, ← rz.length]; exact hl, ?_⟩
      have hm : l ∈ A i := by rw [hA]; exact List.mem_cons_self
      have k1 : ∀ a ∈ B, upd H' l (.lst (vs ++ zs)) a = H a := fun a haB => by
        rw [upd_ne (fun z => by subst z; exact nB haB)]
        have := (s.ap i a (by rw [hA]; exact List.mem_cons_of_mem _ haB)).2.1
        cases q : H a with
        | none => exact absurd q this
        | some o => exact st.hh _ _ q
      have ap := (ha.move st.ww k1).append (OwnAll.fz rz) (fun a _ h => absurd h (by simp))
      rw [List.append_nil] at ap
      exact k _ hk _ _ ⟨W', _, s'.change (B := l :: B) hi hσ hm (by simp) (fun b hb => by rw [hA]; exact hb) (.lst upd_same ap nB)⟩⟩
/-! ### a, b = e, e a list -/
theorem js_patL {tg : Expr} {is : List Nat} (h : J X e (fzR ρ) (.lst ds)) (hl : ds.length = is.length) (hk : Φ (.nx (setAll ρ is (ds.map SV.fz)))) (hg : PG X tg (gLst X.K is.length (gNames is))) (hp : ∀ i ∈ is, i ∉ pin := by decide) (hs : swapsWithSole [tg] e pos.line X.env = pure false := by rfl) (hw : swappedStores [tg] e X.env = pure none := by rfl)
    (h1 : (assignEach [tg] X.env).map (·.2) = [assign tg X.env] := by rfl) : JS X pin (.Assign [tg] e pos) ρ Φ := ⟨fun E σ H D hpn ⟨Hf, A, s⟩ k =>
  .of (ps_asg pe_w hg hs hw h1) (h Hf σ H s.fh s.vis _ fun v W' H' st r => by
    cases r with
    | @lst l vs _ hb rz =>
      obtain ⟨A', s'⟩ := setAllFz (i := 0) is (s.step st) rz hl fun i hi => hpn.none (hp i hi)
      exact ⟨l, vs, rfl, SqL.of (st.wh _ _ hb), by rw [← rz.length]; exact hl, gNames_run is (by rw [← rz.length]; exact hl) (k _ hk _ _ ⟨_, _, s'⟩)⟩)⟩
end
/-! ### a try whose body raises nothing here -/
theorem js_thru {X : Cx} {pin : List Nat} {ρ : RhoS} {Φ : Out → Prop} {body : List Stmt} {h₀ : ExceptHandler} {hs : List ExceptHandler} {pos : Pos} (h : JSs X.nox pin body ρ (noEx Φ)) : JS X pin (.Try body (h₀ :: hs) [] [] pos) ρ Φ := ⟨fun E σ H D hpn s k =>
  .of (ps_try_thru0 pss_w) (h.run E σ H D hpn s fun o ho => by
    cases o with
    | ex er ρ => exact absurd ho (by simp [noEx])
    | nx ρ => exact k _ ho
    | rt d ρ => exact k _ ho
    | bk ρ => exact k _ ho
    | ct ρ => exact k _ ho)⟩
end Pf

/-! constructors and methods that may raise; == of plain data -/
namespace Pf
open PySem L2 PySem.Spec PyProof.Rows
open Evl (Ex)
section
variable {X : Cx} {CX : CXT} {k : Nat} {f C : Addr} {fd : FuncData} {ps : List Str} {sp : Sp} {E : L2.St → XK} {x m : Str} {p pos apos : Pos} {e o : Expr} {es : List Expr} {ta : TE} {t : TA}
def tMethS (C : Addr) (m : Str) (sp : Sp) (E : L2.St → XK) (ta : TE) (t : TA) : TE := fun σ H Q => ta σ H fun x H1 => ∃ a dx fs, x = .ref a ∧ H1 a = some (.ins C dx fs) ∧ fs.lookup m = none ∧ t σ H1 fun vs H2 => sp (x :: vs) H2 Q (E σ)
theorem pe_methE {pl : Sem Bool} (he : PE X o ta) (c : Cls X.K C) (hm : Meth X.K C m f) (F : FnOk X.prog X.w X.K X.mg X.base CX k f fd ps sp) (hr : Room k X.A) (hb : Binds X.K fd ps []) (hx : ∀ σ, PassesAt CX X σ (E σ)) (ha : PA X (e :: es) t)
    (hst : starEach (e :: es) X.env = (false, eval e X.env) :: starEach es X.env := by rfl) (hpl : (backTo pos (starEach es X.env)).any (·.1) = false := by rfl)
    (ht : eval (.Call (.Attribute o m apos) (e :: es) [] pos) X.env = (do
      let ov ← eval o X.env
      standAt apos.atName
      let (f, first) ← holding [ov] (getMethod ov m pl)
      callWith pos f first (backTo pos (starEach (e :: es) X.env)) (backToKw pos (keywordEach [] X.env))) := by rfl) :
    PE X (.Call (.Attribute o m apos) (e :: es) [] pos) (tMethS C m sp E ta t) := by
  refine ⟨fun pins s σ H Q I h => ?_⟩
  refine PySem.W.methodCall_KW (pl := pl) (thn (he.run pins s σ H _ I h) fun u s1 ⟨x, H1, I1, rx, a, dx, fs, ex, ea, l, q⟩ => ?_) ht
  subst ex
  obtain rfl : u = Value.ref a := rx
  refine getmeth_ok I1 ea c hm l ?_
  refine PySem.W.callWith_K (first := [.ref a]) (h₀ := X.base) I.ok.mod.kin hm.kp (thn (ha.run pos pins s1 σ H1 _ I1 q) fun us s2 ⟨vs, H2, I2, r, q2⟩ => ⟨I2.kIn, ?_⟩) hst hpl
  exact run_fnS (us := .ref a :: us) (vs := .ref a :: vs) F hr hb (hx σ) I2 (.cons rfl r) q2
def tMakeS (C : Addr) (sp : Sp) (E : L2.St → XK) (t : TA) : TE := fun σ H Q => t σ H fun vs H1 => ∀ x dx, H1 x = none → H1 dx = none → dx ≠ x →
  sp (.ref x :: vs) (upd (upd H1 dx (.own x)) x (.ins C dx [])) (fun v H2 => v = .non ∧ Q (.ref x) H2) (E σ)
theorem run_makeS {pins : List (Addr × Obj)} {σ : L2.St} {H : Hp} {s : Shared} {Q : VK} {us : List Value} {vs : List V} (M : Mk X.K C f) (F : FnOk X.prog X.w X.K X.mg X.base CX k f fd ps sp) (hr : Room (k + 1) X.A) (hb : Binds X.K fd ps [])
    (hx : PassesAt CX X σ (E σ)) (I : Inv X pins σ H s) (r : Vals vs us)
    (h : ∀ x dx, H x = none → H dx = none → dx ≠ x → sp (.ref x :: vs) (upd (upd H dx (.own x)) x (.ins C dx [])) (fun v H2 => v = .non ∧ Q (.ref x) H2) (E σ)) :
    wpAny (model X.prog X.w) X.A (call (.ref C) us) (EP X pins σ Q) X.xe s := by
  have hq := h (s.heap.objs.size + 1) s.heap.objs.size (I.hok.fresh (Nat.le_succ _)) (I.hok.fresh (Nat.le_refl _)) (Nat.ne_of_lt (Nat.lt_succ_self _))
  have I2 := Inv.made (C := C) I
  have r2 : Vals (V.ref (s.heap.objs.size + 1) :: vs) (Value.ref (s.heap.objs.size + 1) :: us) := .cons rfl r
  have hl : (Value.ref (s.heap.objs.size + 1) :: us).length = ps.length := by
    have e := r2.length
    rw [F.len _ _ _ _ hq] at e
    exact e.symm
  have b := hb _ (Value.ref (s.heap.objs.size + 1) :: us) I2.kIn (by rw [List.append_nil]; exact hl)
  rw [List.append_nil] at b
  refine wpAny_call (make_map (f := f) I.kIn M.makes M.init (beq_iff_eq.mp M.fn) (codeAny_mono (F.run _ X.stack _ _ ⟨Value.ref (s.heap.objs.size + 1) :: us, []⟩ (Value.ref (s.heap.objs.size + 1) :: us) _ _ (E σ) (hr.make C us [])
    (I2.env0.make C us []) b r2 hq) fun r s' hq' => ?_))
  cases r with
  | error e => exact hx pins _ _ e s' I2 hq'
  | ok fl =>
    cases fl with
    | ret u =>
      obtain ⟨v, H', I3, rv, ev, q3⟩ := I2.after hq'
      subst ev
      exact ⟨rv, ⟨V.ref (s.heap.objs.size + 1), H', I3, rfl, q3⟩⟩
    | next => exact False.elim hq'
    | brk => exact False.elim hq'
    | cont => exact False.elim hq'
theorem pe_makeS (M : Mk X.K C f) (F : FnOk X.prog X.w X.K X.mg X.base CX k f fd ps sp) (hr : Room (k + 1) X.A) (hg : Gl X x) (hm : X.mg x = some (.ref C)) (hb : Binds X.K fd ps []) (hx : ∀ σ, PassesAt CX X σ (E σ))
    (ha : PA X (e :: es) t) (hdb : (x == ("__debug__" : Str)) = false := by decide) (he : starEach (e :: es) X.env = (false, eval e X.env) :: starEach es X.env := by rfl) (hpl : (backTo pos (starEach es X.env)).any (·.1) = false := by rfl) :
    PE X (.Call (.Name x p) (e :: es) [] pos) (tMakeS C sp E t) := by
  refine ⟨fun pins s σ H Q I h => ?_⟩
  refine wpAny_Call_Name_kw (ld_glob I hg hm ?_ hdb)
  refine PySem.W.callWith_K (h₀ := X.base) I.ok.mod.kin M.kp (thn (ha.run pos pins s σ H _ I h) fun us s1 ⟨vs, H1, I1, r, q⟩ => ⟨I1.kIn, ?_⟩) he hpl
  exact run_makeS M F hr hb (hx σ) I1 r q
end
/-! ### a def that changes its first argument, or raises -/
def GoodXA (K : PySem.W.Frag) (H : Hp) (A : List Addr) (er : Er) (E : XK) : Prop := ∀ d H', (∀ b o, H b = some o → b ∉ A → H' b = some o) → ErAt K H' er d → (∀ dd, d = some dd → H dd = none) → E er.cls d H'
def spME (K : PySem.W.Frag) (n : Nat) (G : D → List D → (D → D → Prop) → (Er → Prop) → Prop) : Sp := fun vs H Q E => vs.length = n ∧ ∃ (a : Addr) (W : Hp) (d : D) (A : List Addr) (us : List V) (ds : List D) (P : D → D → Prop) (R : Er → Prop),
  vs = .ref a :: us ∧ Ex W H ∧ Own K W H d (.ref a) A ∧ A ≠ [] ∧ (∀ b ∈ A, W b = none ∧ H b ≠ none) ∧ RepAll K W ds us ∧ G d ds P R ∧ (∀ r d', P r d' → ∀ v W' H' A', Aft K W H A a d' W' H' A' → Rep K W' r v → Q v H') ∧ ∀ er, R er → GoodXA K H A er E
def finME (Pd : D → D → Prop) (R : Er → Prop) : Out → Prop
  | .rt r ρ => ∃ d', ρ[0]? = some (some (.ow d')) ∧ Pd r d'
  | .nx ρ => ∃ d', ρ[0]? = some (some (.ow d')) ∧ Pd .non d'
  | .ex er _ => R er
  | _ => False
section
variable {P : Program} {w : World} {K : PySem.W.Frag} {mg : Str → Option Value} {base : Heap} {x qual : Str} {st : Stmt} {f : Addr} {fd : FuncData} {N ps : List Str} {k : Nat} {G : D → List D → (D → D → Prop) → (Er → Prop) → Prop}
theorem fn_methE (F : Fun K x qual st f fd) (S : FnScope N ps (defScope st)) (hG : ∀ d ds Pd R, G d ds Pd R → ds.length + 1 = ps.length)
    (body : ∀ (cdv : Value) (A : Around) (outer : List Env) (s : Shared) (H : Hp) (E : XK) (d : D) (ds : List D) (Pd : D → D → Prop) (R : Er → Prop), Room k (A.deeper (envOfC qual (defScope st) s.heap.objs.size f cdv)) → G d ds Pd R →
      PassesOwn (model P w) (cxOf (L2.CX P w) P w K mg base N qual (defScope st) f cdv A outer s H E).A (cxOf (L2.CX P w) P w K mg base N qual (defScope st) f cdv A outer s H E).env (cxOf (L2.CX P w) P w K mg base N qual (defScope st) f cdv A outer s H E).xe →
      JSs (cxOf (L2.CX P w) P w K mg base N qual (defScope st) f cdv A outer s H E) [0] (defBody st) (startM N d ds) (finME Pd R)) : FnOk P w K mg base (L2.CX P w) (k + 1) f fd ps (spME K ps.length G) := by
  refine F.okX S (fun vs H Q E h => h.1) fun cdv A outer s H vs Q E hr h => ?_
  obtain ⟨_, a, W, d, Ad, us, ds, Pd, R, rfl, ex, ow, ne, hA, r, hg, q, qe⟩ := h
  refine ⟨_, pss_w, ?_⟩
  have fin : ∀ {ρ : RhoS} {σ : L2.St} {H' Hf W' : Hp} {A' : Nat → List Addr} {d' : D} {r : D} {v : V}, StAt K ⟨W, H, fun b => b ∈ Ad, fun i => if i = 0 then some a else none⟩ ρ σ H' Hf A' → Ex Hf W' → Ex W' H' → Fr W W' H → (∀ i b, b ∈ A' i → (if i = 0 then some a else none) ≠ (none : Option Addr) → W' b = none) → ρ[0]? = some (some (.ow d')) → Pd r d' → Rep K W' r v → Q v H' := by
    intro ρ σ H' Hf W' A' d' r v s' e1 e2 e3 e4 h0 hp hr
    obtain ⟨u, q1, q2, q3⟩ := s'.sl 0 _ h0
    have := s'.pn 0 a (by simp)
    rw [q1] at this
    cases this
    refine q r d' hp v W' H' (A' 0) ⟨s'.w0.trans e1, e2, fun b o h1 h2 => s'.hh b o h1 h2, s'.kp, e3, q2.move e1 (fun _ _ => rfl), q3, fun b hb => ?_⟩ hr
    obtain ⟨k1, k2, k3⟩ := s'.ap 0 b hb
    exact ⟨e4 0 b hb (by simp), k2, k3.elim .inr fun z => .inl z.1⟩
  refine body cdv A outer s H E d ds Pd R hr hg (passes_of rfl) ⟨W, H, fun b => b ∈ Ad, fun i => if i = 0 then some a else none⟩ (L2.start N (.ref a :: us)) H _ (fun i => by
    dsimp only
    by_cases hi : i = 0 <;> simp [hi]) ⟨W, _, startM_ok ex ow ne hA r⟩ fun o ho => ?_
  cases o with
  | nx ρ =>
    obtain ⟨d', h0, hp⟩ := ho
    exact fun σ' H' ⟨Hf, A', s'⟩ => fin s' (.refl _) s'.fh s'.fr (fun i b hb _ => (s'.ap i b hb).1) h0 hp .non
  | rt r ρ =>
    obtain ⟨d', h0, hp⟩ := ho
    exact fun v H' ⟨σ', Hf, A', W', s', h1, h2, h3, h4, h5⟩ => fin s' h1 h2 h3 h4 h0 hp h5
  | bk ρ => exact ho.elim
  | ct ρ => exact ho.elim
  | ex er ρ => exact ⟨fun cls d _ H => E cls d H, takes_of rfl rfl rfl rfl, fun d σ H1 H' ⟨Hf, A', s'⟩ e1 at' fr => qe er ho d H' (fun b o h hb => e1 _ _ (s'.hh b o h hb)) at' fun dd z => s'.kp dd (fr dd z)⟩
end
structure EMake (P : Program) (w : World) (K : PySem.W.Frag) (mg : Str → Option Value) (base : Heap) (k : Nat) (x : Str) (C : Addr) (n : Nat) (G : D → List D → (D → D → Prop) → (Er → Prop) → Prop) : Prop where
  ex : ∃ f fd ps, FnOk P w K mg base (L2.CX P w) k f fd ps (spME K n G) ∧ Mk K C f ∧ mg x = some (.ref C) ∧ Binds K fd ps []
structure EMeth (P : Program) (w : World) (K : PySem.W.Frag) (mg : Str → Option Value) (base : Heap) (k : Nat) (C : Addr) (m : Str) (n : Nat) (G : List D → (D → Prop) → (Er → Prop) → Prop) : Prop where
  ex : ∃ f fd ps, FnOk P w K mg base (L2.CX P w) k f fd ps (spE K n G) ∧ Meth K C m f ∧ Binds K fd ps []
section
variable {X : Cx} {e o : Expr} {es : List Expr} {ρ : Rho} {ds : List D} {C : Addr} {fds : List (Str × D)} {pos p apos : Pos} {x m : Str} {k j n : Nat} {R : Er → Prop}
/-- C(..), which may raise: the new object as a value -/
theorem jx_make {G : D → List D → (D → D → Prop) → (Er → Prop) → Prop} {P : D → D → Prop} (M : EMake X.prog X.w X.K X.mg X.base k x C n G) (hr : Room j X.A) (ha : JA X (e :: es) ρ ds) (hG : G (.ins C []) ds P R) (hP : ∀ r d', P r d' → r = .non) (hk : k + 1 ≤ j := by decide) (hn : ds.length + 1 = n := by rfl) (hg : Gl X x := by rfl) (hdb : (x == ("__debug__" : Str)) = false := by decide)
    (he : starEach (e :: es) X.env = (false, eval e X.env) :: starEach es X.env := by rfl) (hpl : (backTo pos (starEach es X.env)).any (·.1) = false := by rfl) : JX X (.Call (.Name x p) (e :: es) [] pos) ρ (fun d => ∃ r, P r d) R := ⟨fun W σ H ex hV Q g gx => by
  obtain ⟨ff, fd, ps, F, hme, hm, hb⟩ := M.ex
  refine .of (pe_makeS (E := fun σ => WE (Wall X) σ) hme F (hr.mono hk) hg hm hb (fun σ => passAt takes_all σ) pa_w hdb he hpl) (ha W σ H ex hV _ fun vs W1 H1 s1 r1 => ?_)
  intro y dx hy hdx hne
  have w1 : W1 y = none := Evl.fresh_back s1.wh hy
  have hup : ∀ b o, H1 b = some o → upd (upd H1 dx (.own y)) y (.ins C dx []) b = some o := fun b o h => by
    rw [upd_ne (ne_of_none h hy), upd_ne (ne_of_none h hdx)]; exact h
  have hyn : ∀ b o, H1 b = some o → b ∉ [y] := fun b o h hb => by
    have e : b = y := by simpa using hb
    subst e; rw [hy] at h; cases h
  refine ⟨by rw [List.length_cons, ← r1.length]; exact hn, y, W1, _, [y], vs, ds, P, R, rfl, fun b o h => hup b o (s1.wh b o h), .ins upd_same rfl .nil (by simp), by simp, fun b hb' => ?_, r1, hG, fun r d' hp v W2 H2 A2 aft rr => ?_, fun er hR d H2 h1 h2 h3 => ?_⟩
  · have e : b = y := by simpa using hb'
    subst e
    exact ⟨w1, by rw [upd_same]; simp⟩
  · have hr0 := hP r d' hp
    subst hr0
    cases rr
    have st : Step W H W2 H2 := s1.trans ⟨aft.ww, aft.wh, fun b o h => aft.hh b o (hup b o h) (hyn b o h), fun b h1 h2 => Evl.fresh_back (fun b o h => hup b o h) (aft.fr b h1 h2)⟩
    have hA : ∀ b ∈ A2, W2 b = none ∧ H2 b ≠ none ∧ H b = none := fun b hb' => by
      obtain ⟨k1, k2, k3⟩ := aft.ap b hb'
      refine ⟨k1, k2, ?_⟩
      rcases k3 with z | z
      · have e : b = y := by simpa using z
        subst e
        exact Evl.fresh_back s1.hh hy
      · exact Evl.fresh_back s1.hh (Evl.fresh_back (fun b o h => hup b o h) z)
    have ex2 : Ex W2 (fun b => if b ∈ A2 then H2 b else W2 b) := fun b u hb => by
      show (if b ∈ A2 then H2 b else W2 b) = some u
      rw [if_neg (fun z => by rw [(hA b z).1] at hb; cases hb)]; exact hb
    refine ⟨rfl, g d' ⟨_, hp⟩ (.ref y) (fun b => if b ∈ A2 then H2 b else W2 b) H2 ⟨st.ww.trans ex2, fun b u hb => ?_, st.hh, fun b h1 h2 => ?_⟩ (aft.ow.rep ex2 fun b hb => if_pos hb)⟩
    · by_cases z : b ∈ A2
      · have hb' : (if b ∈ A2 then H2 b else W2 b) = some u := hb
        rw [if_pos z] at hb'; exact hb'
      · have hb' : (if b ∈ A2 then H2 b else W2 b) = some u := hb
        rw [if_neg z] at hb'; exact st.wh b u hb'
    · by_cases z : b ∈ A2
      · exact (hA b z).2.2
      · have h1' : (if b ∈ A2 then H2 b else W2 b) ≠ none := h1
        rw [if_neg z] at h1'; exact st.fr b h1' h2
  · refine gx er hR d H2 (fun b o h => h1 b o (hup b o (s1.hh b o h)) (hyn b o (s1.hh b o h))) h2 fun dd z => ?_
    exact Evl.fresh_back s1.hh (Evl.fresh_back (fun b o h => hup b o h) (h3 dd z))⟩
theorem jx_meth {pl : Sem Bool} {G : List D → (D → Prop) → (Er → Prop) → Prop} {P : D → Prop} (c : EMeth X.prog X.w X.K X.mg X.base k C m n G) (cl : Cls X.K C) (hr : Room j X.A) (h : J X o ρ (.ins C fds)) (hm : fds.lookup m = none) (ha : JA X (e :: es) ρ ds) (hG : G (.ins C fds :: ds) P R) (hk : k ≤ j := by decide) (hn : ds.length + 1 = n := by rfl)
    (hst : starEach (e :: es) X.env = (false, eval e X.env) :: starEach es X.env := by rfl) (hpl : (backTo pos (starEach es X.env)).any (·.1) = false := by rfl)
    (ht : eval (.Call (.Attribute o m apos) (e :: es) [] pos) X.env = (do
      let ov ← eval o X.env
      standAt apos.atName
      let (f, first) ← holding [ov] (getMethod ov m pl)
      callWith pos f first (backTo pos (starEach (e :: es) X.env)) (backToKw pos (keywordEach [] X.env))) := by rfl) : JX X (.Call (.Attribute o m apos) (e :: es) [] pos) ρ P R := ⟨fun W σ H ex hV Q g gx => by
  obtain ⟨f, fd, ps, F, hme, hb⟩ := c.ex
  refine .of (pe_methE (E := fun σ => WE (Wall X) σ) pe_w cl hme (F.mono hk) hr hb (fun σ => passAt takes_all σ) pa_w hst hpl ht) (h W σ H ex hV _ fun v W1 H1 s1 r1 => ?_)
  have r1' := r1
  cases r1 with
  | ins h1 h2 h3 =>
    refine ⟨_, _, _, rfl, s1.wh _ _ h1, lookup_none h2 hm, ?_⟩
    refine ha W1 σ H1 s1.wh (hV.mono s1.ww) _ fun vs W2 H2 s2 r2 => ?_
    have s3 := s1.trans s2
    exact ⟨by rw [List.length_cons, ← r2.length]; exact hn, W2, _, P, R, s2.wh, .cons (r1'.mono s2.ww) r2, hG, fun d' hd => (g d' hd).step s3, fun er hR => (gx er hR).step s3.hh⟩⟩
/-- (.., e), e a call that may raise -/
theorem jx_tup2 {kk : Nat} {d : D} {P1 : D → Prop} {a b : Expr} (ha : J X a ρ d) (hb : JX X b ρ P1 R) (hs : starEach [a, b] X.env = (false, eval a X.env) :: starEach [b] X.env := by rfl) (hs2 : starEach [b] X.env = (false, eval b X.env) :: starEach [] X.env := by rfl) : JX X (.Tuple [a, b] kk pos) ρ (fun r => ∃ y, P1 y ∧ r = .tup [d, y]) R := ⟨fun W σ H ex hV Q g gx => by
  refine .of (pe_tup (pa_cons pe_w (pa_cons pe_w pa_nil hs2) hs)) (ha W σ H ex hV _ fun v W1 H1 s1 r1 => hb.run W1 σ H1 s1.wh (hV.mono s1.ww) _ (fun y hy u W2 H2 s2 r2 => ?_) fun er hR => (gx er hR).step s1.hh)
  refine ⟨show 2 ≤ sizeLine by decide, fun q hq => ?_⟩
  have s3 := s1.trans s2
  exact g _ ⟨y, hy, rfl⟩ _ _ _ (s3.trans (.new s3.wh hq)) (.tup (SqT.of upd_same) (.cons ((r1.mono s2.ww).mono (Evl.Ex.new (Evl.fresh_back s3.wh hq))) (.cons (r2.mono (Evl.Ex.new (Evl.fresh_back s3.wh hq))) .nil)))⟩
end
/-! ### == of plain data -/
mutual
def plainD : D → Bool
  | .non => true
  | .int _ => true
  | .str _ => true
  | .lst xs => plainAll xs
  | .tup xs => plainAll xs
  | _ => false
def plainAll : List D → Bool
  | [] => true
  | x :: xs => plainD x && plainAll xs
end
mutual
theorem eqvD_eq : ∀ (d e : D), plainD d = true → plainD e = true → eqvD d e = true → d = e
  | .non, e, _, he, h => by cases e <;> simp_all [eqvD, plainD]
  | .int i, e, _, he, h => by cases e <;> simp_all [eqvD, plainD]
  | .str i, e, _, he, h => by cases e <;> simp_all [eqvD, plainD]
  | .lst xs, e, hd, he, h => by
    cases e with
    | lst ys => exact congrArg D.lst (eqvAllD_eq xs ys (by simpa [plainD] using hd) (by simpa [plainD] using he) (by simpa [eqvD] using h))
    | _ => simp_all [eqvD, plainD]
  | .tup xs, e, hd, he, h => by
    cases e with
    | tup ys => exact congrArg D.tup (eqvAllD_eq xs ys (by simpa [plainD] using hd) (by simpa [plainD] using he) (by simpa [eqvD] using h))
    | _ => simp_all [eqvD, plainD]
  | .bl _, _, hd, _, _ => by simp [plainD] at hd
  | .dct _, _, hd, _, _ => by simp [plainD] at hd
  | .ins _ _, _, hd, _, _ => by simp [plainD] at hd
  | .scr _, _, hd, _, _ => by simp [plainD] at hd
  | .ty _, _, hd, _, _ => by simp [plainD] at hd
  | .exc _ _ _, _, hd, _, _ => by simp [plainD] at hd
  | .ftup _, _, hd, _, _ => by simp [plainD] at hd
theorem eqvAllD_eq : ∀ (xs ys : List D), plainAll xs = true → plainAll ys = true → eqvAllD xs ys = true → xs = ys
  | [], [], _, _, _ => rfl
  | [], _ :: _, _, _, h => by simp [eqvAllD] at h
  | _ :: _, [], _, _, h => by simp [eqvAllD] at h
  | x :: xs, y :: ys, h1, h2, h => by
    have h1' : plainD x = true ∧ plainAll xs = true := by simpa [plainAll] using h1
    have h2' : plainD y = true ∧ plainAll ys = true := by simpa [plainAll] using h2
    have h' : eqvD x y = true ∧ eqvAllD xs ys = true := by simpa [eqvAllD] using h
    rw [eqvD_eq x y h1'.1 h2'.1 h'.1, eqvAllD_eq xs ys h1'.2 h2'.2 h'.2]
end
end Pf

/-! x = C(y), y an own list of tuples, in a slot that stays own -/
namespace Pf
open PySem L2 PySem.Spec PyProof.Rows
open Evl (Ex)
mutual
/-- no list, dict or object within -/
def tupD : D → Bool
  | .non => true
  | .bl _ => true
  | .int _ => true
  | .str _ => true
  | .tup xs => tupAll xs
  | _ => false
def tupAll : List D → Bool
  | [] => true
  | x :: xs => tupD x && tupAll xs
end
section
variable {K : PySem.W.Frag} {W : Hp} {l : Addr} {vs0 : List V}
/-- without a list's address -/
def dropA (W : Hp) (l : Addr) : Hp := fun b => if b = l then none else W b
theorem sqT_drop (hl : W l = some (.lst vs0)) {a : Addr} {vs : List V} (h : SqT K W a vs) : SqT K (dropA W l) a vs := by
  rcases h with h | h
  · refine .inl ?_
    rcases h with h | ⟨q, h⟩
    · exact .inl (by unfold dropA; rw [if_neg fun z => by rw [z, hl] at h; cases h]; exact h)
    · exact .inr ⟨q, by unfold dropA; rw [if_neg fun z => by rw [z, hl] at h; cases h]; exact h⟩
  · exact .inr h
mutual
theorem rep_drop (hl : W l = some (.lst vs0)) : ∀ (d : D) (v : V), tupD d = true → Rep K W d v → Rep K (dropA W l) d v
  | .non, _, _, .non => .non
  | .bl _, _, _, .bl b => .bl b
  | .int _, _, _, .int b => .int b
  | .str _, _, _, .str b => .str b
  | .tup ds, _, h, .tup h1 h2 => .tup (sqT_drop hl h1) (repAll_drop hl ds _ (by simpa [tupD] using h) h2)
theorem repAll_drop (hl : W l = some (.lst vs0)) : ∀ (ds : List D) (vs : List V), tupAll ds = true → RepAll K W ds vs → RepAll K (dropA W l) ds vs
  | [], _, _, .nil => .nil
  | d :: ds, _, h, .cons r t => by
    have h' : tupD d = true ∧ tupAll ds = true := by simpa [tupAll] using h
    exact .cons (rep_drop hl d _ h'.1 r) (repAll_drop hl ds _ h'.2 t)
end
theorem own_drop {H : Hp} (hl : W l = some (.lst vs0)) : ∀ {es : List D} {vs : List V} {A : List Addr}, (∀ y ∈ es, tupD y = true) → OwnAll K W H es vs A → OwnAll K (dropA W l) H es vs A
  | _, _, _, _, .nil => .nil
  | _, _, _, h, .cons q t n => .cons (by
      have hy := h _ List.mem_cons_self
      cases q with
      | fz r => exact .fz (rep_drop hl _ _ hy r)
      | lst _ _ _ => cases hy
      | dct _ _ _ _ => cases hy
      | ins _ _ _ _ => cases hy) (own_drop hl (fun y hy => h y (List.mem_cons_of_mem _ hy)) t) n
end
section
variable {X : Cx} {pin : List Nat} {ρ : RhoS} {Φ : Out → Prop} {e : Expr} {ds : List D} {pos p' : Pos} {i j : Nat} {x fld : Str} {C : Addr} {Pd : D → Prop}
theorem js_setOJ (hj : ρ[j]? = some (some (.ow (.lst ds)))) (hst : ∀ d ∈ ds, stillD d = true) (h : JO1 X e ((fzR ρ).set j (some (.lst ds))) Pd) (hP : ∀ d, Pd d → ∃ es, d = .ins C [(fld, .lst es)] ∧ ∀ y ∈ es, tupD y = true) (hk : ∀ d, Pd d → Φ (.nx (ρ.set i (some (.ow d))))) (hN : X.N.Nodup) (hi : X.N[i]? = some x := by rfl) (hx : Loc X.env.scope x := by first | exact Or.inl rfl | exact Or.inr rfl) (hp : i ∉ pin := by decide) (hs : swapsWith e (some (.Name x p')) pos.line X.env = pure false := by rfl)
    (hf : X.fn x = true ∨ X.env.scope.names.lookup x = some .local := by first | exact .inl rfl | exact .inr rfl) : JS X pin (.Assign [.Name x p'] e pos) ρ Φ := ⟨fun E σ H D hpn ⟨Hf, A, s⟩ k => by
  refine .of (ps_set hN hi hx pe_w hs hf) ?_
  obtain ⟨v, hσ, ow, ne⟩ := s.sl j _ hj
  generalize hA : A j = Aj at ow ne
  cases ow with
  | fz _ => exact absurd rfl ne
  | @lst l vs _ B hl1 ha nB =>
    have lf : Hf l = none := (s.ap j l (by rw [hA]; exact List.mem_cons_self)).1
    have ex1 : Ex Hf (upd Hf l (.lst vs)) := .new lf
    have exH : Ex (upd Hf l (.lst vs)) H := fun b o h => by
      by_cases e : b = l
      · rw [e, upd_same] at h; cases h; rw [e]; exact hl1
      · rw [upd_ne e] at h; exact s.fh b o h
    have vis : Vis X.K ((fzR ρ).set j (some (.lst ds))) (upd Hf l (.lst vs)) σ := by
      have e := (s.vis.mono ex1).set (d := .lst ds) (v := .ref l) (.lst upd_same ((ha.still hst).mono ex1)) j
      have e2 : σ.set j (some (.ref l)) = σ := by
        apply List.ext_getElem?
        intro n
        by_cases hn : j = n
        · subst hn
          rw [List.getElem?_set_self (List.getElem?_eq_some_iff.mp hσ).1, hσ]
        · rw [List.getElem?_set_ne hn]
      rw [e2] at e; exact e
    refine h.run _ σ H exH vis _ fun d a W' H' A' hd st ow' ne' hA' => ?_
    have hWl : W' l = some (.lst vs) := st.ww _ _ upd_same
    have st' : Step Hf H (dropA W' l) H' := ⟨fun b o h => by
      have hb : b ≠ l := fun e => by rw [e, lf] at h; cases h
      unfold dropA
      rw [if_neg hb]
      exact st.ww b o (by rw [upd_ne hb]; exact h), fun b o h => by
      unfold dropA at h
      by_cases hb : b = l
      · rw [if_pos hb] at h; cases h
      · rw [if_neg hb] at h; exact st.wh b o h, st.hh, fun b h1 h2 => by
      unfold dropA at h1
      by_cases hb : b = l
      · rw [if_pos hb] at h1; exact absurd rfl h1
      · rw [if_neg hb] at h1; exact st.fr b h1 (by rw [upd_ne hb]; exact h2)⟩
    have ow2 : Own X.K (dropA W' l) H' d (.ref a) A' := by
      obtain ⟨es, rfl, hes⟩ := hP d hd
      cases ow' with
      | fz _ => exact absurd rfl ne'
      | ins g1 g2 g3 g4 =>
        refine .ins g1 g2 ?_ g4
        generalize hfv : List.map (fun x : Str × V => x.2) _ = fv at g3
        cases g3 with
        | cons q t n w =>
          cases t with
          | nil =>
            refine .cons ?_ .nil n w
            cases q with
            | fz _ => exact absurd rfl (w rfl)
            | lst k1 k2 k3 => exact .lst k1 (own_drop hWl hes k2) k3
    exact k _ (hk d hd) _ H' ⟨dropA W' l, _, (s.step st').setOw ow2 ne' (hpn.none hp) fun b hb => by
      obtain ⟨q1, q2, q3⟩ := hA' b hb
      refine ⟨by unfold dropA; split <;> first | rfl | exact q1, q2, s.kp b q3, fun n hn => (s.ap n b hn).2.1 q3⟩⟩⟩
end
end Pf

/-! an except clause with a name whose suite raises -/
namespace Pf
open PySem L2 PySem.Spec PyProof.Rows
open Evl (Ex)

/-! ### the name of a clause goes while an error is in the air -/
theorem frames_gone {B h h' : Heap} {L : Addr} (hs : Heap.SameBut L h h') (hL : ∃ o, h'.get? L = some o ∧ ∀ vs, o.data ≠ .fields vs) : ∀ {l : List Env}, h.FunFrames B l → h'.FunFrames B l
  | [], _ => trivial
  | env :: r, ⟨h1, ⟨F, o, e1, e2, e3, e4⟩, h3⟩ => by
    refine ⟨h1, ?_, frames_gone hs hL h3⟩
    by_cases q : F = L
    · obtain ⟨o', k1, k2⟩ := hL
      exact ⟨F, o', e1, e2, q ▸ k1, k2⟩
    · exact ⟨F, o, e1, e2, (hs.2 F q).trans e3, e4⟩
section
variable {X : Cx} {A' : Around} {W' : L2.WX} {E E2 : Value → Shared → Prop} {i : Nat} {n : Str} {pos : Pos} {u : Value} {s : Shared}
theorem air_gone (hst : X.stack = X.env :: X.outer) (hfr0 : X.env.frame = some X.env.locals) (hfr : A'.frames = some (X.env :: X.outer)) (hN : X.N.Nodup) (hi : X.N[i]? = some n) (hl : X.env.kindOf n = some .local) (hex : X.ex = [])
    (x : L2.XE X (fun cls d σ H => W' cls d (σ.set i none) H) u s) (hE : ∀ s', L2.XE X W' u s' → E u s') :
    wpAny (model X.prog X.w) A' (noteFrame u X.env) (fun _ s3 => wpAny (model X.prog X.w) A' (do bindName X.env n .none; unbindBehindTheSuite X.env n pos)
      (fun _ s4 => wpAny (model X.prog X.w) A' (passOn "try.except-as" u X.env : Sem Flow) (fun _ _ => False) E s4) (fun y s4 => E2 y s4) s3) E s := by
  obtain ⟨a, B, sI, pins, σ, H, cls, d, rfl, I, nb, up, sky, na, os, ag, w⟩ := x
  rw [hst] at sky
  have step : ∀ {Q : Unit → Shared → Prop}, (∀ h1, HandSPX.HeldZ B (X.env :: X.outer) a (Zc cls d) X.env.locals h1 → s.heap.UpToSlots h1 → Q () { s with heap := h1 }) → wpAny (model X.prog X.w) A' (noteFrame (.ref a) X.env) Q E s := fun {Q} k => by
    rcases sky with ⟨hB, hn, hl', oe, vs, he, hz, hd, h1⟩ | fl | hh
    · exact HandSPX.look_newZ Zc.steady hfr hl' hfr0 he hB hn hd h1 hz k
    · exact HandSPX.looks_onZ Zc.steady hfr hfr0 fl k
    · exact HandSPX.againZ hfr0 hh.2.2.2 (k s.heap hh (Heap.UpToSlots.refl _))
  refine step fun h1 held up1 => ?_
  have up2 := up.trans up1
  obtain ⟨m, ⟨oL, es, ep, hoL, hdL, rest⟩, hlk⟩ := id I.loc
  obtain ⟨slL, hL1⟩ := up2 _ _ hoL (by rw [hdL]; intro vs q; cases q)
  have hcls : (X.env.scope.kind == .class || (X.env.scope.kind == .module && X.env.locals != X.env.globals)) = false := by rw [I.ok.kind]; rfl
  refine wpAny_nameGoes_keeps hl (m := m) ⟨_, es, ep, hL1, hdL, rest⟩ hcls fun h' v hn' hs => ?_
  obtain ⟨oN, es', ep', hoN, hdN, rest'⟩ := id hn'
  obtain ⟨f1, f2, f3, oe, vs, T, oT, ts, g1, g2, g3, g4, g5, g6, g7, g8, g9⟩ := id held
  have h1L : ∀ {b : Addr} {o : Obj} {ws : Array Value}, h1.get? b = some o → o.data = .fields ws → b ≠ X.env.locals := fun {b o ws} e q z => by
    rw [z, hL1] at e; cases e
    rw [show _ = Data.dict es ep from hdL] at q; cases q
  have BL : B.get? X.env.locals = none := by
    obtain ⟨_, ⟨F, o, e1, e2, _⟩, _⟩ := f3
    rw [hfr0] at e1; cases e1; exact e2
  have bL : ∀ {b : Addr} {o : Obj}, B.get? b = some o → b ≠ X.env.locals := fun {b o} e z => by rw [z, BL] at e; cases e
  have stay : B.StaysIn h' := fun b o e => (hs.2 b (bL e)).trans (f1 b o e)
  have trac : HandSPX.TracedZ h' B a (Zc cls d) (rawInt X.env.locals) := ⟨oe, vs, T, oT, ts, (hs.2 a (h1L g1 g3)).trans g1, g2, g3, g4, g5, g6, (hs.2 T (h1L g7 g8)).trans g7, g8, g9⟩
  have held' : HandSPX.HeldZ B (X.env :: X.outer) a (Zc cls d) X.env.locals h' := ⟨stay, f2, frames_gone hs ⟨oN, hoN, by rw [hdN]; intro ws q; cases q⟩ f3, trac⟩
  -- the state without the error
  obtain ⟨G, p1, p2⟩ := restrict h' fun b => (B.get? b).isSome || decide (b ∈ frs X.stack)
  have gB : ∀ b o, B.get? b = some o → G.get? b = some o := fun b o e => by
    rw [p1 b (by simp [e])]
    exact stay b o e
  have gF : ∀ b, b ∈ frs X.stack → G.get? b = h'.get? b := fun b hb => p1 b (by simp [hb])
  have og : ∀ b o, G.get? b = some o → h'.get? b = some o ∧ ((B.get? b).isSome = true ∨ b ∈ frs X.stack) := fun b o e => by
    cases q : ((B.get? b).isSome || decide (b ∈ frs X.stack)) with
    | false => rw [p2 b q] at e; cases e
    | true =>
      rw [p1 b q] at e
      exact ⟨e, by simpa [Bool.or_eq_true] using q⟩
  have LF : X.env.locals ∈ frs X.stack := by rw [hst]; exact List.mem_filterMap.mpr ⟨X.env, List.mem_cons_self, hfr0⟩
  have nst : ∀ b o, X.s_0.heap.get? b = some o → b ∉ X.fs → b ∉ frs X.stack := fun b o e hb hm => by
    rcases List.mem_cons.mp (I.stkSub b hm) with z | z
    · have q1 := Heap.lt_size e
      have q2 := I.ok.above
      rw [z] at q1
      exact absurd (Nat.lt_of_lt_of_le q1 q2) (Nat.lt_irrefl _)
    · exact hb z
  have neL : ∀ b o, X.s_0.heap.get? b = some o → b ≠ X.env.locals := fun b o e => Nat.ne_of_lt (Nat.lt_of_lt_of_le (Heap.lt_size e) I.ok.above)
  have some' : ∀ b o, sI.heap.get? b = some o → b ≠ X.env.locals → (∀ ws, o.data ≠ .fields ws) → ∃ sl, G.get? b = some { o with slots := sl } := fun b o e hb hnf => by
    by_cases hm : b ∈ frs X.stack
    · obtain ⟨sl, q⟩ := up2 b o e hnf
      exact ⟨sl, by rw [gF b hm, hs.2 b hb]; exact q⟩
    · exact ⟨o.slots, gB b o (nb b o e hm)⟩
  have cellG : ∀ {c : Addr} {z : Option Value}, c ≠ X.env.locals → sI.heap.IsCell c z → G.IsCell c z := fun {c z} hc ⟨o, e, q⟩ => by
    obtain ⟨sl, r⟩ := some' c o e hc (by rw [q]; intro ws t; cases t)
    exact ⟨_, r, q⟩
  have hexn : ∀ b, b ∉ X.ex := fun b hb => by rw [hex] at hb; cases hb
  have J : Inv X pins (σ.set i none) H { s with heap := G, toks := s.toks + 1 } := by
    refine ⟨I.ok, os.trans I.os, ag, ⟨fun b o e n' hb hx => gB b o (nb b o (I.base.keep b o e n' hb hx) (nst b o e hb)), fun b o e n' hb hx => ?_, I.base.free, fun b o e hx => ?_, I.base.tups, I.base.frzs, I.base.tbls⟩,
      ⟨_, ⟨oN, es', ep', by rw [gF _ LF]; exact hoN, hdN, rest'⟩, fun j y v' e1 e2 e3 => ?_⟩, fun y c e => ?_, I.free, I.freeC, fun p hp => ?_, (I.inGround nb).kept gB, by simpa using I.len⟩
    · obtain ⟨_, o₀, e₀, hnf⟩ := I.ok.funs.mem hb
      rw [e] at e₀; cases e₀
      obtain ⟨sl, e1⟩ := I.base.slot b o e n' hb hx
      obtain ⟨sl2, e2⟩ := some' b _ e1 (neL b o e) hnf
      exact ⟨sl2, e2⟩
    · by_cases hb : b ∈ X.fs
      · obtain ⟨_, o₀, e₀, hnf⟩ := I.ok.funs.mem hb
        rw [e] at e₀; cases e₀
        obtain ⟨sl, e1⟩ := I.base.slot b o e (I.ok.frf b hb) hb hx
        obtain ⟨sl2, e2⟩ := some' b _ e1 (neL b o e) hnf
        exact ⟨_, e2⟩
      · obtain ⟨o', e1⟩ := I.base.there b o e hx
        exact ⟨o', gB b o' (nb b o' e1 (nst b o e hb))⟩
    · by_cases hj : j = i
      · subst hj
        by_cases hlt : j < σ.length
        · rw [List.getElem?_set_self hlt] at e2; cases e2
        · rw [List.getElem?_eq_none (by simpa using hlt)] at e2; cases e2
      · rw [List.getElem?_set_ne (Ne.symm hj)] at e2
        obtain ⟨u', r', q⟩ := hlk j y v' e1 e2 e3
        refine ⟨u', r', ?_⟩
        rcases q with ⟨k, e⟩ | ⟨k, c, e, z⟩
        · have ny : y ≠ n := fun e => hj (nodup_ix hN e1 (e ▸ hi))
          exact .inl ⟨k, (if_neg ny).trans e⟩
        · exact .inr ⟨k, c, e, cellG (I.cne y c e) z⟩
    · obtain ⟨z', z⟩ := I.cell y c e
      exact ⟨z', cellG (I.cne y c e) z⟩
    · obtain ⟨e, n', ne, nf, dd⟩ := I.pin p hp
      have hm : p.1 ∉ frs X.stack := fun hm => (List.mem_cons.mp (I.stkSub p.1 hm)).elim ne nf
      exact ⟨gB _ _ (nb _ _ e hm), n', ne, nf, dd⟩
  have nbG : ∀ b o, G.get? b = some o → b ∉ frs X.stack → B.get? b = some o := fun b o e hb => by
    obtain ⟨e', q⟩ := og b o e
    rcases q with q | q
    · obtain ⟨o', q⟩ := Option.isSome_iff_exists.mp q
      have z := stay b o' q
      rw [e'] at z; cases z
      exact q
    · exact absurd q hb
  have upG : G.UpToSlots h' := Heap.UpToSlots.of_keeps fun b o e => (og b o e).1
  unfold PySem.passOn
  refine wpAny_bind (wpAny_field ((hs.2 a (h1L g1 g3)).trans g1) g3 g4 ?_)
  rw [if_neg (show ¬ ((Value.ref T == Value.none) = true) from fun z => by simp at z)]
  have again : wpAny (model X.prog X.w) A' (setFlight (.ref a) X.env.frame) (fun _ t4 => wpAny (model X.prog X.w) A' (throw (.ref a) : Sem Flow) (fun _ _ => False) E t4) E { s with heap := h', toks := s.toks + 1 } := by
    rw [hfr0]
    refine HandSPX.setFlight_onZ held' fun hp4 held4 up4 => wpAny_throw (hE _ ⟨a, B, { s with heap := G, toks := s.toks + 1 }, pins, σ.set i none, H, cls, d, rfl, J, nbG, upG.trans up4, .inr (.inr (by rw [hst]; exact held4)), na, rfl, ag, w⟩)
  first | exact wpAny_bind (wpAny_pure (wpAny_bind again)) | exact wpAny_bind again
end
end Pf

/-! try with one named clause whose suite may raise; errors whose context is none -/
namespace Pf
open PySem L2 PySem.Spec PyProof.Rows
open Evl (Ex)

abbrev suW (i : Nat) (Wo : L2.WX) : L2.WX := fun cls d σ H => Wo cls d (σ.set i none) H
/-- the context of such a suite: what leaves it goes on behind the name's end -/
abbrev suY (X : Cx) (i : Nat) (Wo : L2.WX) (a : Addr) (pn : List (Addr × Obj)) : Cx := (X.suite a pn).wish (L2.XE (X.suite a pn) (suW i Wo))
theorem suY_takes {X : Cx} {i : Nat} {Wo : L2.WX} {a : Addr} {pn : List (Addr × Obj)} : L2.Takes (suY X i Wo a pn) (suW i Wo) := fun u s' ⟨a, B, sI, pins, σ, H, cls, d, e, I, r⟩ => ⟨a, B, sI, pins, σ, H, cls, d, e, I.unwish, r⟩
def wNx (K : PySem.W.Frag) (c : Value) (i : Nat) (ts : Addr → Value → Option Addr → TS) (D : Ends) : L2.WX := fun cls d σ H => PySem.W.exmOne K cls c = some true ∧ ∀ a, H a = none → ts a cls d (unI D i) (σ.set i (some (.ref a))) H
section
variable {X : Cx} {body suite : List Stmt} {b₀ : Stmt} {x n : Str} {c : Value} {i : Nat} {np pos pos' : Pos} {tb : L2.WX → TS} {ts : Addr → Value → Option Addr → TS} {Wo : L2.WX}
theorem ps_try_nx (hst : X.stack = X.env :: X.outer) (hfr0 : X.env.frame = some X.env.locals) (hN : X.N.Nodup) (hex : X.ex = []) (hi : X.N[i]? = some n) (hln : X.env.kindOf n = some .local) (hc : Names X x c)
    (hpa : ∀ hd : Option Value, PassesOwnAt (model X.prog X.w) (X.A.mark hd) X.A X.env X.xe) (tk : L2.Takes X Wo)
    (hb : ∀ (W : L2.WX) (pn : List (Addr × Obj)) (xe : Value → Shared → Prop), L2N.Takes (X.tr pn xe) W → PassesOwn (model X.prog X.w) X.A X.env xe → PSs (X.tr pn xe) body (tb W))
    (hsu : ∀ (a : Addr) (oe : Obj) (cls : Value) (d : Option Addr) (pn : List (Addr × Obj)), Zc cls d oe → (∃ vs, oe.data = .fields vs) → L2H.HotC (suY X i Wo a ((a, oe) :: pn)) → PSs (suY X i Wo a ((a, oe) :: pn)) (b₀ :: suite) (ts a cls d)) :
    PS X (.Try body [.ExceptHandler (some (.Name x np)) (some n) (b₀ :: suite) pos'] [] [] pos) (fun D σ H => tb (wNx X.K c i ts D) D σ H) := by
  refine ⟨fun pins s σ H D I hyp => wpAny_Try_except ?_⟩
  have okX := I.ok
  have fra : X.A.frames = some (X.env :: X.outer) := by rw [okX.frames, hst]
  refine wpAny_mono ((hb (wNx X.K c i ts D) (X.pn ++ pins) (fun er t1 => wpAny (model X.prog X.w) X.A (noteFrame er X.env) (fun _ t2 => wpAny (model X.prog X.w) X.A (setFlight er none) (fun _ t3 =>
    wpAny (model X.prog X.w) X.A (handleBy er X.env [.ExceptHandler (some (.Name x np)) (some n) (b₀ :: suite) pos']) (SP X pins D) X.xe t3) X.xe t2) X.xe t1) (fun u s' air => ?_) PassesOwn.looking).run [] s σ H D (I.toTry _) hyp) (fun fl t1 hsp => ?_) (fun er t1 z => z)
  · obtain ⟨a, B, sI, pn', σ', H', cls, d, rfl, J0, nb, up, sky, na, osq, bare, hb1, hyes⟩ := air
    have Jv : Inv X pins σ' H' sI := J0.ofTry okX
    have skyX : Sky B (X.env :: X.outer) a (L2N.Zn cls d) X.env.locals s'.heap := hst ▸ sky
    change wpAny (model X.prog X.w) X.A (noteFrame (.ref a) X.env) _ _ _
    refine L2N.Sky.land L2N.Zn.steady fra hfr0 skyX fun hp3 fly3 up3 => ?_
    have Jv3 : Inv X pins σ' H' { s' with heap := hp3 } := Jv.landed nb fly3.1 (up.trans up3) osq bare
    obtain ⟨ob3, fv3, at3, zc3, da3⟩ := fly3.there
    have nofr : a ∉ frs (X.env :: X.outer) := fun hm => by
      obtain ⟨_, o', e', hnf⟩ := fly3.2.2.1.mem hm
      rw [at3] at e'; cases e'
      exact hnf _ da3
    have nLoc : a ≠ X.env.locals := fun z => nofr (List.mem_filterMap.mpr ⟨X.env, List.mem_cons_self, z ▸ hfr0⟩)
    have nFs : a ∉ X.fs := fun hm => by
      obtain ⟨ev, hev, q⟩ := List.mem_filterMap.mp hm
      exact nofr (List.mem_filterMap.mpr ⟨ev, List.mem_cons_of_mem _ hev, q⟩)
    have Su3 := Jv3.suite at3 da3 na nLoc nFs
    have isA : PySem.W.Looks (model X.prog X.w) hp3 (typeOf (.ref a)) cls := fun A' Q' E' t' kk qq => wpAny_typeOf_ref (kk _ _ at3) (zc3.1.symm ▸ qq)
    have named : ∀ {Q' : Value → Shared → Prop} {E' : Value → Shared → Prop}, Q' c { s' with heap := hp3 } → wpAny (model X.prog X.w) (X.A.mark (some (.ref a))) (eval (.Name x np) X.env) Q' E' { s' with heap := hp3 } := fun qq => by
      obtain ⟨c1, c2, c3 | ⟨c3, c4, c5⟩⟩ := hc
      · exact ld_glob (X := X.suite a ((a, ob3) :: (X.pn ++ pins))) Su3 c1 c3 qq c2
      · exact ld_blt (X := X.suite a ((a, ob3) :: (X.pn ++ pins))) Su3 c1 c3 c4 qq c5 c2
    refine wpAny_handleBy_cons (codeAny_handlers_test (named ((PySem.W.exm_one (M := model X.prog X.w) Jv3.kIn isA hb1).here ?_))) (by intro q; cases q)
    refine codeAny_handlers_suite_as (HandSPX.lands_againZ fly3 fun hp4 fly4 up4 => ?_)
    have Jv4 : Inv X pins σ' H' { s' with heap := hp4 } := Jv.landed nb fly4.1 ((up.trans up3).trans up4) osq bare
    obtain ⟨ob4, fv4, at4, zc4, da4⟩ := fly4.there
    have Su4 := Jv4.suite at4 da4 na nLoc nFs
    have hot : L2H.HotC (suY X i Wo a ((a, ob4) :: (X.pn ++ pins))) := ⟨(a, ob4), ⟨rfl, fv4, da4, zc4.2.2 fv4 da4⟩, List.mem_cons_self⟩
    refine store_ok (X := X.suite a ((a, ob4) :: (X.pn ++ pins))) (v := .ref a) Su4 hN hi (.inl hln) rfl (fun t5 Su5 => ?_) (.inr hln)
    refine wpAny_mono ((hsu a ob4 cls d (X.pn ++ pins) zc4.zc ⟨_, da4⟩ hot).run [] t5 _ H' _ (Su5.wish _) (hyes a na)) (fun fl t6 hsp => ?_) (fun e6 s6 z => ?_)
    · have fini : ∀ {σ6 : L2.St} {H6 : Hp} {Q' : Shared → Prop}, Inv (suY X i Wo a ((a, ob4) :: (X.pn ++ pins))) [] σ6 H6 t6 → (∀ t7, Inv X pins (σ6.set i none) H6 t7 → Q' t7) →
          wpAny (model X.prog X.w) X.A (do bindName X.env n .none; unbindBehindTheSuite X.env n pos') (fun _ t7 => Q' t7) X.xe t6 := fun Su6 hq => gone_ok (Su6.unwish.unsuite okX) hN hi hln hq
      cases fl with
      | next => obtain ⟨σ6, H6, Su6, q6⟩ := hsp; exact fini Su6 fun t7 J7 => ⟨_, _, J7, q6⟩
      | brk => obtain ⟨σ6, H6, Su6, q6⟩ := hsp; exact fini Su6 fun t7 J7 => ⟨_, _, J7, q6⟩
      | cont => obtain ⟨σ6, H6, Su6, q6⟩ := hsp; exact fini Su6 fun t7 J7 => ⟨_, _, J7, q6⟩
      | ret u => obtain ⟨v6, σ6, H6, Su6, r6, q6⟩ := hsp; exact fini Su6 fun t7 J7 => ⟨_, _, _, J7, r6, q6⟩
    · obtain ⟨a2, B2, sI2, pn2, σ2, H2, cls2, d2, e2, I2, r2⟩ := z
      refine air_gone (X := X) (W' := Wo) hst hfr0 fra hN hi hln hex ⟨a2, B2, sI2, pins, σ2, H2, cls2, d2, e2, I2.unsuite okX, r2⟩ fun s7 x7 => ?_
      exact hpa (some (.ref a)) _ _ (tk _ _ x7)
  · cases fl with
    | next => obtain ⟨σ', H', Jx, q⟩ := hsp; exact wpAny_execs_nil ⟨σ', H', Jx.ofTry okX, q⟩
    | brk => obtain ⟨σ', H', Jx, q⟩ := hsp; exact ⟨σ', H', Jx.ofTry okX, q⟩
    | cont => obtain ⟨σ', H', Jx, q⟩ := hsp; exact ⟨σ', H', Jx.ofTry okX, q⟩
    | ret u => obtain ⟨v, σ', H', Jx, r, q⟩ := hsp; exact ⟨v, σ', H', Jx.ofTry okX, r, q⟩
end

/-! ### statements whose errors have no context -/
def ExN (X : Cx) (E : Ent) (er : Er) (ρ : RhoS) : Prop := ∃ W : L2.WX, L2N.Takes X W ∧ ∀ d σ H H', StOk X.K E ρ σ H → Ex H H' → ErAt X.K H' er d → (∀ dd, d = some dd → H dd = none) → W er.cls d σ H'
def OutN (X : Cx) (E : Ent) (D : Ends) : Out → Prop
  | .nx ρ => ∀ σ H, StOk X.K E ρ σ H → D.nx σ H
  | .rt d ρ => ∀ v H, RtOk X.K E d ρ v H → D.rt v H
  | .bk ρ => ∀ σ H, StOk X.K E ρ σ H → D.bk σ H
  | .ct ρ => ∀ σ H, StOk X.K E ρ σ H → D.ct σ H
  | .ex er ρ => ExN X E er ρ
structure JSN (X : Cx) (pin : List Nat) (st : Stmt) (ρ : RhoS) (Φ : Out → Prop) : Prop where
  run : ∀ (E : Ent) σ H (D : Ends), E.Pins pin → StOk X.K E ρ σ H → (∀ o, Φ o → OutN X E D o) → wS X st D σ H
structure JSsN (X : Cx) (pin : List Nat) (sts : List Stmt) (ρ : RhoS) (Φ : Out → Prop) : Prop where
  run : ∀ (E : Ent) σ H (D : Ends), E.Pins pin → StOk X.K E ρ σ H → (∀ o, Φ o → OutN X E D o) → wSs X sts D σ H
def noX (Φ : Out → Prop) : Out → Prop
  | .ex _ _ => False
  | .nx ρ => Φ (.nx ρ)
  | .rt d ρ => Φ (.rt d ρ)
  | .bk ρ => Φ (.bk ρ)
  | .ct ρ => Φ (.ct ρ)
def thenN (X : Cx) (pin : List Nat) (rest : List Stmt) (Φ : Out → Prop) : Out → Prop
  | .nx ρ => JSsN X pin rest ρ Φ
  | .rt d ρ => Φ (.rt d ρ)
  | .bk ρ => Φ (.bk ρ)
  | .ct ρ => Φ (.ct ρ)
  | .ex er ρ => Φ (.ex er ρ)
section
variable {X : Cx} {pin : List Nat} {st : Stmt} {rest a b body : List Stmt} {ρ : RhoS} {Φ : Out → Prop} {e c tg iter : Expr} {es : List Expr} {d : D} {ds : List D} {pos p p' : Pos} {i k j n : Nat} {x : Str} {t : Bool} {er : Er} {P : D → Prop} {R : Er → Prop} {G : List D → (D → Prop) → (Er → Prop) → Prop}
theorem noX_out {E : Ent} {D : Ends} (k : ∀ o, Φ o → OutN X E D o) : ∀ o, noX Φ o → OutOk X E D o := fun o ho => by
  cases o with
  | ex er ρ => exact ho.elim
  | nx ρ => exact k _ ho
  | rt v ρ => exact k _ ho
  | bk ρ => exact k _ ho
  | ct ρ => exact k _ ho
theorem jsn_of (h : JS X pin st ρ (noX Φ)) : JSN X pin st ρ Φ := ⟨fun E σ H D hp s k => h.run E σ H D hp s (noX_out k)⟩
theorem jssn_of (h : JSs X pin rest ρ (noX Φ)) : JSsN X pin rest ρ Φ := ⟨fun E σ H D hp s k => h.run E σ H D hp s (noX_out k)⟩
theorem jssn_nil (h : Φ (.nx ρ)) : JSsN X pin [] ρ Φ := ⟨fun E σ H D _ s k => .of pss_nil (k _ h σ H s)⟩
theorem jssn_cons (h : JSN X pin st ρ (thenN X pin rest Φ)) : JSsN X pin (st :: rest) ρ Φ := ⟨fun E σ H D hp s k =>
  .of (pss_cons ps_w pss_w) (h.run E σ H _ hp s fun o ho => by
    cases o with
    | nx ρ' => exact fun σ' H' s' => JSsN.run (show JSsN X pin rest ρ' Φ from ho) E σ' H' D hp s' k
    | rt d ρ' => exact k _ ho
    | bk ρ' => exact k _ ho
    | ct ρ' => exact k _ ho
    | ex er ρ' => exact k _ ho)⟩
theorem jsn_if (hc : JT X c (allR ρ) t) (h1 : t = true → JSsN X pin a ρ Φ) (h2 : t = false → JSsN X pin b ρ Φ) : JSN X pin (.If c a b pos) ρ Φ := ⟨fun E σ H D hp ⟨Hf, A, s⟩ k =>
  .of (ps_if pt_w pss_w pss_w) (hc H σ H (.refl _) s.visH _ fun W' H' st => by
    have s' := s.grow st.hh
    cases t with
    | true => rw [if_pos rfl]; exact (h1 rfl).run E σ H' D hp ⟨Hf, A, s'⟩ k
    | false => rw [if_neg Bool.false_ne_true]; exact (h2 rfl).run E σ H' D hp ⟨Hf, A, s'⟩ k)⟩
theorem jsn_for {pat : Pat} (I : Nat → RhoS → Prop) (hi : JI X tg iter (fzR ρ) ds) (hg : PG X tg (pat.g X.K)) (h0 : I 0 ρ)
    (turn : ∀ k d ρ, ds[k]? = some d → I k ρ → ∃ ρ', pat.setS d ρ = some ρ' ∧ JSsN X pin body ρ' (turnO (I (k + 1)) Φ)) (done : ∀ ρ, I ds.length ρ → Φ (.nx ρ)) (hps : PassesOwn (model X.prog X.w) X.A X.env X.xe) (hp : ∀ i ∈ pat.slots, i ∉ pin := by decide) (hc : X.calm = true := by rfl) (hfs : ∀ x, foldedSetIterable iter X.env x = pure x := by intro _; rfl) :
    JSN X pin (.For tg iter body [] pos) ρ Φ := ⟨fun E σ H D hpn ⟨Hf, A, s⟩ k => by
  refine .of (ps_for hps hc pi_w hg pss_w hfs) (hi.run Hf σ H s.fh s.vis _ fun Jt W1 H1 st wk => ?_)
  have s1 := s.step st
  have e1 : Ex E.W0 W1 := s1.w0
  have f1 : Fr E.W0 W1 E.H0 := s1.fr
  refine ⟨fun i m σ' H' => m = ds.length - i ∧ i ≤ ds.length ∧ ∃ ρ', I i ρ' ∧ StOk X.K { E with W0 := W1 } ρ' σ' H', ⟨_, rfl, Nat.zero_le _, ρ, h0, _, _, s1.rebase⟩, ?_⟩
  rintro i m σ2 H2 ⟨rfl, hil, ρ2, hI, Hf2, A2, s2⟩
  by_cases hlt : i < ds.length
  · refine .inr ⟨wk.go i H2 (s2.w0.trans s2.fh) hlt, _, fun σ' H' z => ⟨_, (by omega : ds.length - (i + 1) < ds.length - i), rfl, hlt, z⟩, fun x H3 hy => ?_⟩
    obtain ⟨d, hd⟩ : ∃ d, ds[i]? = some d := ⟨ds[i], by simp [hlt]⟩
    obtain ⟨W3, st3, rx⟩ := wk.yld i H2 x H3 d (s2.w0.trans s2.fh) hd hy Hf2 s2.w0 s2.fh
    obtain ⟨ρ3, hset, hb⟩ := turn i d ρ2 hd hI
    refine Pat.runS (s2.step st3) rx hset (fun j hj => hpn.none (hp j hj)) fun σ4 A4 s4 => hb.run { E with W0 := W1 } σ4 H3 _ hpn ⟨W3, A4, s4⟩ fun o ho => ?_
    cases o with
    | nx ρ' => exact fun σ' H' s' => ⟨ρ', ho, s'⟩
    | ct ρ' => exact fun σ' H' s' => ⟨ρ', ho, s'⟩
    | bk ρ' => exact fun σ' H' ⟨Hf', A', s'⟩ => k _ ho σ' H' ⟨Hf', A', s'.base e1 f1⟩
    | rt d ρ' => exact fun v H' s' => k _ ho v H' (s'.base e1 f1)
    | ex er ρ' =>
      obtain ⟨Wx, tk, q⟩ := k _ ho
      exact ⟨Wx, tk, fun d σ' H' H2' ⟨Hf', A', s'⟩ => q d σ' H' H2' ⟨Hf', A', s'.base e1 f1⟩⟩
  · have e : i = ds.length := by omega
    subst e
    exact .inl ⟨wk.stop H2 (s2.w0.trans s2.fh), k _ (done _ hI) σ2 H2 ⟨Hf2, A2, s2.base e1 f1⟩⟩⟩
/-- every wish that takes errors without a context -/
def WallN (X : Cx) : L2.WX := fun cls d σ H => ∃ Wx : L2.WX, L2N.Takes X Wx ∧ Wx cls d σ H
theorem takes_allN : L2N.Takes X (WallN X) := fun u s' ⟨a, B, sI, pins, σ, H, cls, d, e, I, nb, up, sky, na, os, ag, Wx, tk, w⟩ => tk u s' ⟨a, B, sI, pins, σ, H, cls, d, e, I, nb, up, sky, na, os, ag, w⟩
theorem ExN.good {E : Ent} {σ : L2.St} {H : Hp} (h : ExN X E er ρ) (s : StOk X.K E ρ σ H) : GoodX X.K H er fun cls d H' => WallN X cls d σ H' := fun d H' ex at' fr => by
  obtain ⟨Wx, tk, q⟩ := h
  exact ⟨Wx, tk, q d σ H H' s ex at' fr⟩
/-! raise -/
def wMkN (X : Cx) (e : Expr) : L2.St → Hp → XK → Prop := fun σ H Q => ∀ pins s, Inv X pins σ H s → wpAny (model X.prog X.w) X.A (eval e X.env) (L2N.MkP X pins σ Q) X.xe s
theorem pmk_wN : L2N.PMk X e (wMkN X e) := fun pins s σ H Q I h => h pins s I
structure JMkN (X : Cx) (e : Expr) (ρ : Rho) (er : Er) : Prop where
  run : ∀ W σ H, Ex W H → Vis X.K ρ W σ → ∀ Q : XK, GoodX X.K H er Q → wMkN X e σ H Q
theorem jsn_raise (h : JMkN X e (allR ρ) er) (hk : Φ (.ex er ρ)) (hc : X.calm = true := by rfl) : JSN X pin (.Raise (some e) none pos) ρ Φ := ⟨fun E σ H D hpn ⟨Hf, A, s⟩ k =>
  .of (L2N.ps_raise hc takes_allN pmk_wN) (h.run H σ H (.refl _) s.visH _ ((show ExN X E er ρ from k _ hk).good ⟨Hf, A, s⟩))⟩
def wMk5 (X : Cx) (e : Expr) : L2.St → Hp → XK → Prop := fun σ H Q => ∀ pins s, Inv X pins σ H s → wpAny (model X.prog X.w) X.A (eval e X.env) (fun u s' => L2N.MkP X pins σ Q u s' ∧ L2H.Six u s') X.xe s
theorem pmk_w5 : L2H.PMk5 X e (wMk5 X e) := fun pins s σ H Q I h => h pins s I
structure JMk5 (X : Cx) (e : Expr) (ρ : Rho) (er : Er) : Prop where
  run : ∀ W σ H, Ex W H → Vis X.K ρ W σ → ∀ Q : XK, GoodX X.K H er Q → wMk5 X e σ H Q
/-- raise X(..) from None where an error is handled -/
theorem js_raiseH {jk : Nat} {cpos : Pos} (hot : L2H.HotC X) (h : JMk5 X e (allR ρ) er) (hk : Φ (.ex er ρ)) : JS X pin (.Raise (some e) (some (.Constant .none jk cpos)) pos) ρ Φ := ⟨fun E σ H D hpn ⟨Hf, A, s⟩ k =>
  .of (L2H.ps_raiseHN hot takes_all pmk_w5) (h.run H σ H (.refl _) s.visH _ ((show ExOk X E er ρ from k _ hk).good ⟨Hf, A, s⟩))⟩
/-! calls -/
structure EFnN (P : Program) (w : World) (K : PySem.W.Frag) (mg : Str → Option Value) (base : Heap) (k : Nat) (x : Str) (n : Nat) (G : List D → (D → Prop) → (Er → Prop) → Prop) : Prop where
  ex : ∃ f fd ps, FnOk P w K mg base (L2N.CX P w) k f fd ps (spE K n G) ∧ mg x = some (.ref f) ∧ PySem.W.keepIn K (.ref f) = true ∧ Binds K fd ps []
theorem jsn_call (c : EFnN X.prog X.w X.K X.mg X.base k x n G) (hr : Room j X.A) (ha : JA X (e :: es) (allR ρ) ds) (hG : G ds P R) (hP : ∀ d, P d → Φ (.nx ρ)) (hR : ∀ er, R er → Φ (.ex er ρ)) (hk : k ≤ j := by decide) (hn : ds.length = n := by rfl) (hg : Gl X x := by rfl) (hdb : (x == ("__debug__" : Str)) = false := by decide)
    (he : starEach (e :: es) X.env = (false, eval e X.env) :: starEach es X.env := by rfl) (hpl : (backTo p' (starEach es X.env)).any (·.1) = false := by rfl) (hs : swapsWith (.Call (.Name x p) (e :: es) [] p') none pos.line X.env = pure false := by rfl) : JSN X pin (.Expr (.Call (.Name x p) (e :: es) [] p') pos) ρ Φ := ⟨fun E σ H D hpn ⟨Hf, A, s⟩ k => by
  obtain ⟨f, fd, ps, F, hm, hkp, hb⟩ := c.ex
  refine .of (ps_expr (pe_callS (E := fun σ => WE (WallN X) σ) (F.mono hk) hr hg hm hkp hb (fun σ => L2N.passAt takes_allN σ) pa_w hdb he hpl) hs) (ha H σ H (.refl _) s.visH _ fun vs W1 H1 s1 r1 => ?_)
  refine ⟨by rw [← r1.length]; exact hn, W1, ds, P, R, s1.wh, r1, hG, fun d' hd => ?_, fun er h => GoodX.step (ExN.good (show ExN X E er ρ from k _ (hR er h)) ⟨Hf, A, s⟩) s1.hh⟩
  exact fun v W' H' st r => k _ (hP d' hd) σ H' ⟨Hf, A, s.grow (s1.hh.trans st.hh)⟩⟩
end
section
variable {P : Program} {w : World} {K : PySem.W.Frag} {mg : Str → Option Value} {base : Heap} {x qual : Str} {st : Stmt} {f : Addr} {fd : FuncData} {N ps : List Str} {k : Nat} {G : List D → (D → Prop) → (Er → Prop) → Prop}
theorem fn_errN (F : Fun K x qual st f fd) (S : FnScope N ps (defScope st)) (hG : ∀ ds Pd R, G ds Pd R → ds.length = ps.length)
    (body : ∀ (cdv : Value) (A : Around) (outer : List Env) (s : Shared) (H : Hp) (E : XK) (ds : List D) (Pd : D → Prop) (R : Er → Prop), Room k (A.deeper (envOfC qual (defScope st) s.heap.objs.size f cdv)) → G ds Pd R →
      PassesOwn (model P w) (cxOf (L2N.CX P w) P w K mg base N qual (defScope st) f cdv A outer s H E).A (cxOf (L2N.CX P w) P w K mg base N qual (defScope st) f cdv A outer s H E).env (cxOf (L2N.CX P w) P w K mg base N qual (defScope st) f cdv A outer s H E).xe →
      JSsN (cxOf (L2N.CX P w) P w K mg base N qual (defScope st) f cdv A outer s H E) [] (defBody st) (startR N ds) (finE Pd R)) : FnOk P w K mg base (L2N.CX P w) (k + 1) f fd ps (spE K ps.length G) := by
  obtain ⟨oc, od, kV, doc, pm, an, cdv, ct, osl, rfl, lk, hcd⟩ := F.ex
  refine fn_of lk hcd S (fun vs H Q E h => h.1) fun A outer s H vs Q E hr h => ?_
  obtain ⟨_, W, ds, Pd, R, ex, r, hg, q, qe⟩ := h
  refine ⟨_, pss_w, ?_⟩
  refine (body cdv A outer s H E ds Pd R hr hg (passes_of rfl)).run ⟨W, H, fun _ => False, fun _ => none⟩ (L2.start N vs) H _ (fun i => ⟨fun z => absurd rfl z, fun z => absurd z (by simp)⟩) ⟨W, _, start_ok ex r⟩ fun o ho => ?_
  cases o with
  | nx ρ => exact fun σ' H' ⟨Hf, A', s'⟩ => q _ ho .non Hf H' ⟨s'.w0, s'.fh, fun b o h => s'.hh b o h (fun z => z), s'.fr⟩ .non
  | rt d ρ => exact fun v H' ⟨σ', Hf, A', W', s', h1, h2, h3, _, h5⟩ => q _ ho v W' H' ⟨s'.w0.trans h1, h2, fun b o h => s'.hh b o h (fun z => z), h3⟩ h5
  | bk ρ => exact ho.elim
  | ct ρ => exact ho.elim
  | ex er ρ => exact ⟨fun cls d _ H => E cls d H, L2N.takes_of rfl rfl rfl rfl, fun d σ H1 H' ⟨Hf, A', s'⟩ e1 at' fr => qe er ho d H' ((fun b o h => e1 _ _ (s'.hh b o h (fun z => z)) : Ex H H')) at' fun dd z => s'.kp dd (fr dd z)⟩
end

/-! ### the try statement -/
def goneX (i : Nat) (Φ : Out → Prop) : Out → Prop
  | .ex er ρ => Φ (.ex er (ρ.set i none))
  | .nx ρ => Φ (.nx (ρ.set i none))
  | .rt d ρ => Φ (.rt d ρ)
  | .bk ρ => Φ (.bk (ρ.set i none))
  | .ct ρ => Φ (.ct (ρ.set i none))
def tryN (X : Cx) (pin : List Nat) (c : Value) (i : Nat) (st : List Stmt) (Φ : Out → Prop) : Out → Prop
  | .ex er ρ => PySem.W.exmOne X.K er.cls c = some true ∧ i ∉ pin ∧ ∀ (a : Addr) (oe : Obj) (d : Option Addr) (pn : List (Addr × Obj)), Zc er.cls d oe → (∃ vs, oe.data = .fields vs) → DOk er d → L2H.HotC (suY X i (Wall X) a ((a, oe) :: pn)) →
      JSs (suY X i (Wall X) a ((a, oe) :: pn)) pin st (ρ.set i (some (.fz (.exc a d (er.fs.getD []))))) (goneX i Φ)
  | .nx ρ => Φ (.nx ρ)
  | .rt d ρ => Φ (.rt d ρ)
  | .bk ρ => Φ (.bk ρ)
  | .ct ρ => Φ (.ct ρ)
section
variable {X : Cx} {pin : List Nat} {ρ : RhoS} {Φ : Out → Prop} {body suite : List Stmt} {b₀ : Stmt} {x n : Str} {c : Value} {i : Nat} {np pos pos' : Pos}
def tsN (X : Cx) (i : Nat) (st : List Stmt) : Addr → Value → Option Addr → TS := fun a cls d D σ H => ∀ (oe : Obj) (pn : List (Addr × Obj)), Zc cls d oe → (∃ vs, oe.data = .fields vs) → L2H.HotC (suY X i (Wall X) a ((a, oe) :: pn)) → wSs (suY X i (Wall X) a ((a, oe) :: pn)) st D σ H
theorem js_tryN (hc : Names X x c) (hi : X.N[i]? = some n) (hln : X.env.kindOf n = some .local) (hpa : ∀ hd : Option Value, PassesOwnAt (model X.prog X.w) (X.A.mark hd) X.A X.env X.xe)
    (hb : ∀ (pn : List (Addr × Obj)) (xe : Value → Shared → Prop), PassesOwn (model X.prog X.w) X.A X.env xe → JSsN (X.tr pn xe) pin body ρ (tryN X pin c i (b₀ :: suite) Φ)) (hN : X.N.Nodup) (hst : X.stack = X.env :: X.outer := by rfl) (hfr : X.env.frame = some X.env.locals := by rfl) (hex : X.ex = [] := by rfl) :
    JS X pin (.Try body [.ExceptHandler (some (.Name x np)) (some n) (b₀ :: suite) pos'] [] [] pos) ρ Φ := ⟨fun E σ H D hp s k =>
  .of (ps_try_nx (Wo := Wall X) (ts := tsN X i (b₀ :: suite)) (tb := fun Wx D σ H => ∀ (pn : List (Addr × Obj)) (xe : Value → Shared → Prop), L2N.Takes (X.tr pn xe) Wx → PassesOwn (model X.prog X.w) X.A X.env xe → wSs (X.tr pn xe) body D σ H) hst hfr hN hex hi hln hc hpa takes_all
    (fun Wx pn xe tk ps => ⟨fun pins s σ H D I h => h pn xe tk ps pins s I⟩) (fun a oe cls d pn hz hf hot => ⟨fun pins s σ H D I h => h oe pn hz hf hot pins s I⟩)) fun pn xe tk ps => (hb pn xe ps).run E σ H D hp s fun o ho => by
      cases o with
      | nx ρ' => exact k _ ho
      | rt v ρ' => exact k _ ho
      | bk ρ' => exact k _ ho
      | ct ρ' => exact k _ ho
      | ex er ρ' =>
        obtain ⟨hm, hip, hsu⟩ := ho
        have hpa := hp.none hip
        refine ⟨_, tk, fun d σ' H1 H' ⟨Hf, A, s⟩ ex at' fr => ⟨hm, fun a na oe pn hz hf hot => ?_⟩⟩
        obtain ⟨W1, s1, hrep⟩ : ∃ W1, StAt X.K E ρ' σ' H' W1 A ∧ Rep X.K W1 (.exc a d (er.fs.getD [])) (.ref a) := by
          unfold ErAt at at'
          cases hfs : er.fs with
          | none =>
            rw [hfs] at at'
            exact ⟨Hf, s.grow ex, .exc (fs := []) (fun dd z => by rw [show d = none from at'] at z; cases z) rfl .nil⟩
          | some fds =>
            rw [hfs] at at'
            obtain ⟨dd, vs, rfl, hd, hk, hr⟩ := at'
            have hn := fr dd rfl
            refine ⟨fun b => if b = dd then some (.xd vs) else Hf b, s.step ⟨fun b o z => ?_, fun b o z => ?_, ex, fun b z1 z2 => ?_⟩, .exc (fs := vs) (fun d2 z => ?_) hk (hr.mono fun b o z => by cases z)⟩
            · by_cases hb : b = dd
              · rw [hb] at z; have := s.fh _ _ z; rw [hn] at this; cases this
              · show (if b = dd then _ else _) = _; rw [if_neg hb]; exact z
            · by_cases hb : b = dd
              · rw [hb] at z; rw [if_pos rfl] at z; cases z; rw [hb]; exact hd
              · rw [if_neg hb] at z; exact ex _ _ (s.fh _ _ z)
            · by_cases hb : b = dd
              · rw [hb]; exact hn
              · rw [if_neg hb] at z1; exact absurd z2 z1
            · cases z; show (if dd = dd then _ else _) = _; rw [if_pos rfl]
        refine (hsu a oe d pn hz hf ⟨fun z => ?_, fun z => ?_⟩ hot).run E (σ'.set i (some (.ref a))) H' (unI D i) hp ⟨W1, _, s1.setFz hrep hpa⟩ fun o ho => ?_
        · unfold ErAt at at'
          cases hfs : er.fs with
          | none => rw [hfs] at z; cases z
          | some fds => rw [hfs] at at'; obtain ⟨dd, _, q, _⟩ := at'; exact ⟨dd, q⟩
        · unfold ErAt at at'
          rw [z] at at'
          exact at'
        · cases o with
          | ex er2 ρ2 =>
            obtain ⟨Wx, tkx, q⟩ := (show ExOk X E er2 (ρ2.set i none) from k _ ho)
            exact ⟨suW i (Wall X), suY_takes, fun d2 σ2 H2 H3 ⟨Hf2, A2, s2⟩ ex2 at2 fr2 => ⟨Wx, tkx, q d2 (σ2.set i none) H2 H3 ⟨Hf2, A2, s2.unset hpa⟩ ex2 at2 fr2⟩⟩
          | nx ρ => exact fun σ' H2 ⟨Hf', A', s'⟩ => (show OutOk X E D (.nx (ρ.set i none)) from k _ ho) _ H2 ⟨Hf', A', s'.unset hpa⟩
          | rt v ρ => exact k _ ho
          | bk ρ => exact fun σ' H2 ⟨Hf', A', s'⟩ => (show OutOk X E D (.bk (ρ.set i none)) from k _ ho) _ H2 ⟨Hf', A', s'.unset hpa⟩
          | ct ρ => exact fun σ' H2 ⟨Hf', A', s'⟩ => (show OutOk X E D (.ct (ρ.set i none)) from k _ ho) _ H2 ⟨Hf', A', s'.unset hpa⟩⟩
end
end Pf

/-! errors whose class says super().__init__(..): raised without a context, and raised where an error is handled -/
namespace Pf
open PySem L2 PySem.Spec PyProof.Rows
open Evl (Ex)

section
variable {X : Cx} {CX : CXT} {x : Str} {e : Expr} {es : List Expr} {ta : TA} {p pos : Pos} {C fI : Addr} {k : Nat} {fd : FuncData} {ps : List Str} {sp : Sp}
/-- C(e, ..), after the library's rule for it: the object that is made has no context -/
theorem pmk_oexN (T : OexC X.K C) (iC : PySem.W.findIn X.K (.ref C) "__init__" = some (some (.ref fI))) (tI : PySem.W.typeIn X.K (.ref fI) = some (.type "function")) (F1 : FnOk X.prog X.w X.K X.mg X.base CX k fI fd ps sp) (hr : Room (k + 1) X.A)
    (hb : Binds X.K fd ps []) (hx : Passes CX X (fun _ _ _ => False)) (hg : Gl X x) (hm : X.mg x = some (.ref C)) (ha : PA X (e :: es) ta)
    (hdb : (x == ("__debug__" : Str)) = false := by decide) (he : starEach (e :: es) X.env = (false, eval e X.env) :: starEach es X.env := by rfl) (hpl : (backTo pos (starEach es X.env)).any (·.1) = false := by rfl) :
    L2N.PMk X (.Call (.Name x p) (e :: es) [] pos) (tMkO C sp [] ta) := by
  intro pins s σ H Q I h
  obtain ⟨_, _, _, _, bm, _, _, _, _, _, _, _, _, _, _, hC, hbm⟩ := T.cls
  refine wpAny_Call_Name_kw (ld_glob I hg hm ?_ hdb)
  refine PySem.W.callWith_K (h₀ := X.base) I.ok.mod.kin T.kC (thn (ha.run pos pins s σ H _ I h) fun us s1 hus => ?_) he hpl
  obtain ⟨vs, H1, I1, r1, hz, q1⟩ := hus
  refine ⟨I1.kIn, ?_⟩
  show wpAny _ _ (call (.ref C) us) _ _ _
  obtain ⟨hp, g, dr, tk, os⟩ := s1
  generalize hA : hp.objs.size + 1 = A
  have hsz : hp.objs.size ≤ A := by omega
  have hq := q1 A (I1.hok.fresh hsz)
  rw [List.append_nil] at hq
  have kk : ∀ b o, hp.get? b = some o → ((hp.push (PySem.W.kdv_tup us)).push (PySem.HandSPX.excO C hp.objs.size)).get? b = some o := fun b o q => Heap.get?_push_of_some _ (Heap.get?_push_of_some _ q)
  have hat : ((hp.push (PySem.W.kdv_tup us)).push (PySem.HandSPX.excO C hp.objs.size)).get? A = some (PySem.HandSPX.excO C hp.objs.size) := by subst hA; heap_get
  have I2 := I1.laid (t' := tk) (o := exo A C none) kk hsz (exo_ok hat)
  have r2 : Vals (V.ref A :: vs) (Value.ref A :: us) := .cons rfl r1
  have hl : us.length + 1 = ps.length := by
    have q := F1.len _ _ _ _ hq
    rw [List.length_cons, Paired.length r1] at q
    exact q
  have b2 := hb _ (Value.ref A :: us) I2.kIn (by rw [List.append_nil]; exact hl)
  rw [List.append_nil] at b2
  refine wpAny_call (PySem.HandSPX.call_own F.excBase_ValueError (fun Y => PySem.HandSPX.refsVE_contains Y bm hbm) (I1.kIn _ _ hC) (PySem.W.looks_findIn I1.kIn iC) (fun self => PySem.W.bind_fn I1.kIn self tI) (by rw [← Paired.length r1, sizeLine_eq]; omega) ?_)
  subst hA
  refine codeAny_mono (F1.run _ X.stack _ _ ⟨_ :: us, []⟩ _ _ _ (fun _ _ _ => False) (hr.make C us []) (I2.env0.make C us []) b2 r2 hq) fun r s' out => ?_
  cases r with
  | error er => exact hx pins σ _ _ er s' I2 out
  | ok fl =>
    cases fl with
    | next => exact out.elim
    | brk => exact out.elim
    | cont => exact out.elim
    | ret u =>
      obtain ⟨v, H2, os2, bare2, un2, hok2, rv, ev, d, fs, ea, ed, hd1, q2⟩ := out
      subst ev
      obtain ⟨h2, g2, d2, t2, os'⟩ := s'
      obtain ⟨t0, G, J, kG, ge, hoe, na⟩ := mk_end0 (d2 := d2) (t2 := t2) I1 hsz kk un2 hok2 os2 bare2 ea ed hd1
      exact ⟨rv, _, _, _, _, _, .ref C, some d, rfl, J, kG, ge, hoe, ⟨rfl, rfl, fun vs hv => by cases hv; rfl⟩, rfl, rfl, na, rfl, bare2, raises_own T.exC T.tyC, q2⟩
end
section
variable {X : Cx} {ρ : Rho} {e : Expr} {C : Addr} {fld : Str} {G : D → Prop} {d : D}
/-- what such a call asks of its argument, read -/
theorem sup_tm (ha : JA X [e] ρ [d]) (hG : G d) (hd : flatD d = true) {W : Hp} {σ : L2.St} {H : Hp} (ex : Ex W H) (hV : Vis X.K ρ W σ) {Q : XK} (g : GoodX X.K H ⟨.ref C, some [(fld, d)]⟩ Q) : tMkO C (spSup X.K C fld G) [] (wA X [e]) σ H Q :=
  ha W σ H ex hV _ fun vs W1 H1 s1 r1 => by
    cases r1 with
    | @cons _ v _ _ r t =>
      cases t
      refine ⟨by show 1 ≤ 1000; decide, fun a na => ⟨a, v, d, rfl, hG, r.any hd, upd_same, fun H2 dx e2 n1 n2 => ⟨rfl, dx, [(fld, v)], upd_same, ?_, ?_, ?_⟩⟩⟩
      · rw [upd_ne n2]; exact upd_same
      · cases z : H1 dx with
        | none => rfl
        | some o =>
          have := e2 dx o (by rw [upd_ne n2]; exact z)
          rw [n1] at this; cases this
      · have eH : Ex H1 (upd (del (upd (upd H2 dx (exd dx [(fld, v)])) a (exo a C (some dx))) a) dx (.xd [(fld, v)])) := fun b o z => by
          have hba : b ≠ a := fun q => by rw [q, na] at z; cases z
          have h2 : H2 b = some o := e2 b o (by rw [upd_ne hba]; exact z)
          have hbd : b ≠ dx := fun q => by rw [q, n1] at h2; cases h2
          rw [upd_ne hbd]
          show (if b = a then none else _) = _
          rw [if_neg hba, upd_ne hba, upd_ne hbd]
          exact h2
        refine g (some dx) _ (s1.hh.trans eH) ⟨dx, _, rfl, upd_same, rfl, .cons (r.any hd) .nil⟩ fun dd z => ?_
        cases z
        cases q : H dx with
        | none => rfl
        | some o =>
          have w1 := s1.hh _ _ q
          have := e2 dx o (by rw [upd_ne n2]; exact w1)
          rw [n1] at this; cases this
theorem jmk_supN {x : Str} {k j : Nat} {p pos : Pos} (c : SupErr X.prog X.w X.K X.mg X.base k x C fld G) (hr : Room j X.A) (ha : JA X [e] ρ [d]) (hG : G d) (hd : flatD d = true) (hk : k + 1 ≤ j := by decide) (hg : Gl X x := by rfl) (hdb : (x == ("__debug__" : Str)) = false := by decide)
    (he : starEach [e] X.env = (false, eval e X.env) :: starEach [] X.env := by rfl) (hpl : (backTo pos (starEach [] X.env)).any (·.1) = false := by rfl) : JMkN X (.Call (.Name x p) [e] [] pos) ρ ⟨.ref C, some [(fld, d)]⟩ := ⟨fun W σ H ex hV Q g pins s I => by
  obtain ⟨fI, fd, pa, h1, h2, F, hb⟩ := c.ex
  exact pmk_oexN c.T h1 h2 F (hr.mono hk) hb pass0 hg c.g pa_w hdb he hpl pins s σ H Q I (sup_tm ha hG hd ex hV g)⟩
/-- the same class, called where an error is handled -/
structure SupErrH (P : Program) (w : World) (K : PySem.W.Frag) (mg : Str → Option Value) (base : Heap) (k : Nat) (x : Str) (C : Addr) (fld : Str) (G : D → Prop) : Prop where
  g : mg x = some (.ref C)
  T : OexC K C
  ex : ∃ fI fd pa, PySem.W.findIn K (.ref C) "__init__" = some (some (.ref fI)) ∧ PySem.W.typeIn K (.ref fI) = some (.type "function") ∧ L2H.FnH P w K mg base CX0 k fI fd ["self", pa] (spSup K C fld G) ∧ Binds K fd ["self", pa] []
theorem jmk_sup5 {x : Str} {k j : Nat} {p pos : Pos} (c : SupErrH X.prog X.w X.K X.mg X.base k x C fld G) (hr : L2H.RoomH j X.A) (hot : L2H.HotC X) (ha : JA X [e] ρ [d]) (hG : G d) (hd : flatD d = true) (hk : k + 1 ≤ j := by decide) (hg : Gl X x := by rfl) (hdb : (x == ("__debug__" : Str)) = false := by decide)
    (he : starEach [e] X.env = (false, eval e X.env) :: starEach [] X.env := by rfl) (hpl : (backTo pos (starEach [] X.env)).any (·.1) = false := by rfl) : JMk5 X (.Call (.Name x p) [e] [] pos) ρ ⟨.ref C, some [(fld, d)]⟩ := ⟨fun W σ H ex hV Q g pins s I => by
  obtain ⟨fI, fd, pa, h1, h2, F, hb⟩ := c.ex
  exact L2H.pmk5_oexH c.T h1 h2 F (hr.mono hk) hot hb pass0 hg c.g pa_w hdb he hpl pins s σ H Q I (sup_tm ha hG hd ex hV g)⟩
/-- what holds where nothing leaves holds under any wish -/
theorem j_nox (h : J X.nox e ρ d) : J X e ρ d := ⟨fun W σ H ex hV Q g pins s I => wpAny_mono (h.run W σ H ex hV Q g pins s (I.wish _)) (fun _ _ ⟨v, H', I', r, q⟩ => ⟨v, H', I'.unwish, r, q⟩) fun _ _ z => False.elim z⟩
end
section
variable {P : Program} {w : World} {K : PySem.W.Frag} {mg : Str → Option Value} {base : Heap} {k : Nat} {f C cc c : Addr} {qual pa fld : Str} {params : Arguments} {scope : Scope} {dV kV doc pm ct oc : Value} {an od : Option Addr} {osl : Array (Option Value)} {fd : FuncData} {msg : Expr} {p0 p1 p2 p3 p4 q0 q1 q2 q3 : Pos} {G : D → Prop} {body : List Stmt}
/-- fn_sup, where an error is handled -/
theorem fn_supH (SK : SupK P K mg C cc c) (lk : K.lookup f = some ⟨oc, od, .func fd, osl⟩) (hfd : fd = PySem.W.fnX "__init__" qual params body scope [("__class__", cc)] dV kV doc pm an (.ref c) ct)
    (hcd : PySem.W.codeIn K (.ref c) qual = true) (hbody : body = [.Expr (.Call (.Attribute (.Call (.Name "super" p0) [] [] p1) "__init__" p2) [msg] [] p3) p4, .Assign [.Attribute (.Name "self" q0) fld q1] (.Name pa q2) q3])
    (S : NdefX.NScope ["self", pa, "__class__"] ["self", pa] ["__class__"] scope)
    (hks : scope.names.lookup ("super" : Str) = some .globalImplicit) (hkc : scope.names.lookup ("__class__" : Str) = some .free) (hhd : ∃ ar : Arg, (params.posonlyargs ++ params.args).head? = some ar ∧ ar.arg = ("self" : Str))
    (hno : PySem.W.findIn K (.ref C) fld = some none) (hpa : (pa == ("__debug__" : Str)) = false ∧ (pa == ("__classdict__" : Str)) = false)
    (hmsg : ∀ A outer s H E p d, G d → ∃ m, J (NdefX.ncxH CX0 P w K mg base ["self", pa, "__class__"] (supNF qual params body scope cc c) f A outer s H E p) msg [none, some d, none] (.str m))
    (hev : ∀ env : Env, ∃ pl : Sem Bool, eval (.Call (.Attribute (.Call (.Name "super" p0) [] [] p1) "__init__" p2) [msg] [] p3) env = (do
      let ov ← attributeBase (.Call (.Name "super" p0) [] [] p1) "__init__" env (eval (.Call (.Name "super" p0) [] [] p1) env)
      standAt p2.atName
      let (fx, first) ← holding [ov] (getMethod ov "__init__" pl)
      callWith p3 fx first (backTo p3 (starEach [msg] env)) []))
    (hsw : ∀ env : Env, swapsWith (.Name pa q2) (some (.Attribute (.Name "self" q0) fld q1)) q3.line env = pure false)
    (hstar : ∀ (env : Env), starEach [msg] env = [(false, eval msg env)]) :
    L2H.FnH P w K mg base CX0 (k + 1) f fd ["self", pa] (spSup K C fld G) := by
  refine ⟨fun vs H Q E h => by obtain ⟨a, v, d, rfl, _⟩ := h; rfl, fun A outer s H args us vs Q E p hr hot hpin e0 hbd r hsp => ?_⟩
  obtain ⟨a, v, d, rfl, hG, hrep, ha, hq⟩ := hsp
  have kept0 : ∀ b o, base.get? b = some o → s.heap.get? b = some o := fun b o z => (e0.bs b o z).1
  have KX : K.In s.heap := e0.mod.kin.keeps kept0
  have lim : s.heap.NoLimit := e0.mod.nolimit.keeps kept0
  subst hfd
  have hfun := KX _ _ lk
  obtain ⟨cl, cld, csl, hcell⟩ := SK.cell
  obtain ⟨ccl, cdd, cvs, ccs, file, tf, hcode, hvs, hfile⟩ := SK.code
  obtain ⟨cdC, hcdC⟩ := SK.cd
  obtain ⟨ar, har, haself⟩ := hhd
  have hCC : NdefX.CellsAt [("__class__", cc)] ["__class__"] [none] s.heap H := by
    refine ⟨rfl, fun y c e => ?_, fun x y c e1 e2 => ?_, fun i y e => ?_⟩
    · have hy : c = cc ∧ y = "__class__" := by
        unfold List.lookup at e
        split at e
        · rename_i hb; cases e; exact ⟨rfl, by simpa using hb⟩
        · cases e
      obtain ⟨rfl, rfl⟩ := hy
      have q := (e0.bs _ _ (e0.mod.kin _ _ hcell))
      exact ⟨q.2, _, ⟨_, q.1, rfl⟩⟩
    · have q : ∀ {z : Str}, List.lookup z [(("__class__" : Str), cc)] = some c → z = "__class__" := fun {z} e => by
        unfold List.lookup at e
        split at e
        · rename_i hb; simpa using hb
        · cases e
      rw [q e1, q e2]
    · cases i with
      | zero => simp at e; subst e; exact ⟨cc, by simp, fun v q => by simp at q⟩
      | succ i => simp at e
  refine codeAny_call_function hr.depth hfun rfl S.co S.gen rfl (PySem.W.codeRec_of KX hcd) (hbd _ _ _ _ ?_)
  refine wpAny_newFunctionEnv S.nocell (fun ⟨n, _⟩ hy => S.par n (List.of_mem_zip hy).1) (fun h₁ hns hsb => ⟨lim.fresh _ hsb, ?_⟩) S.kind
  show codeAny _ _ (.func body (NdefX.envF (supNF qual params body scope cc c) f s.heap.objs.size)) _ _
  refine PySem.ks_codeAny_funcAt ?_
  have kp1 : ∀ b o, s.heap.get? b = some o → h₁.get? b = some o := fun b o z => by
    refine hsb.extBut b o ?_ (Heap.get?_push_of_some _ z)
    exact Nat.ne_of_lt (Heap.lt_size z)
  have I : Inv (NdefX.ncxH CX0 P w K mg base ["self", pa, "__class__"] (supNF qual params body scope cc c) f A outer s H E p) [] (NdefX.startF ["self", pa, "__class__"] [.ref a, v] [none]) H
      { s with heap := h₁, toks := s.toks + ((["self", pa] : List Str).zip us).length } := NdefX.inv_startNH S hpin e0 rfl r hCC hns kp1
  cases r with
  | @cons _ u0 _ ur ra rw' =>
    have hu0 : u0 = Value.ref a := ra
    subst hu0
    cases rw' with
    | @cons _ u1 _ ur rv rn =>
      cases rn
      have ndP : (["self", pa] : List Str).Nodup := by
        have q := S.nd.sublist (List.take_sublist 2 _)
        exact q
      have hself : (((["self", pa] : List Str).zip [Value.ref a, u1]).reverse.lookup ("self" : Str)) = some (.ref a) := NdefX.zip_look (i := 0) ndP rfl rfl
      obtain ⟨m, hJ⟩ := hmsg A outer s H E p d hG
      have fin : ∀ {σ' : L2.St} {H' : Hp} {v : V} {u : Value} {s' : Shared}, Inv (NdefX.ncxH CX0 P w K mg base ["self", pa, "__class__"] (supNF qual params body scope cc c) f A outer s H E p) [] σ' H' s' → RelV v u → Q v H' → CE outer P w H s Q u s' :=
        fun {σ' H' v u s'} J rv q => ⟨v, H', J.os, J.bare, J.base, J.hok, rv, q⟩
      subst hbody
      refine PySem.ks_wpAt_mono (sup_body (D := { nx := fun _ H' => Q .non H', rt := Q }) (m := m) SK I rfl rfl hns hself lk har haself ha S.kind rfl rfl (by simp [NdefX.ncxH, NdefX.ncx, PySem.W.envX]) hks hkc (S.par _ (by simp)) rfl rfl (Or.inl (S.par _ (by simp))) (Or.inl (S.par _ (by simp))) hpa
        (fun Q' k => (ja_cons hJ ja_nil (hstar _)).run (fun _ => none) _ H (fun b o z => by cases z) ⟨rfl, fun i dd z => ?_⟩ Q' fun vs W' H' st rr => ?_) hno (hev _) (hstar _) (hsw _) hq) (fun fl s' hs => ?_) (fun e s' hs => hs)
      · match i, z with
        | 1, z => cases z; exact ⟨v, rfl, hrep⟩
        | 0, z => cases z
        | 2, z => cases z
      · cases rr with
        | cons r1 r2 => cases r1; cases r2; exact k H' st.hh
      · cases fl with
        | ret u =>
          obtain ⟨v9, σ9, H9, J9, rv9, q9⟩ := hs
          exact fin J9 rv9 q9
        | next =>
          obtain ⟨σ9, H9, J9, q9⟩ := hs
          exact fin (u := Value.none) (v := V.non) J9 rfl q9
        | brk =>
          obtain ⟨_, _, _, q⟩ := hs
          exact False.elim q
        | cont =>
          obtain ⟨_, _, _, q⟩ := hs
          exact False.elim q
end
end Pf

/-! isinstance of a caught error that has fields (after the library's rule for an error without) -/
namespace Pf
open PySem L2 PySem.Spec PyProof.Rows
open Evl (Ex)
section
open PySem.W PySem.Calls
variable {prog : Program} {w : World} {A : Around} {E : Value → Shared → Prop} {s : Shared} {K : Frag} {x D : Addr} {ox od : Obj}
theorem class_xd {Q : Option Value → Shared → Prop} (C : ExcC K D) (X : K.In s.heap) (I : InstAt s.heap x ox D (some od)) (h : Q (some (.ref D)) { s with toks := s.toks + 1 }) : wpAny (model prog w) A (getAttr? (.ref x) "__class__") Q E s := by
  have hc : (clsIn K D).isSome = true := by obtain ⟨cd, hc, _⟩ := any_some C.hd; rw [hc]; rfl
  have bx : (Value.builtin "BaseException.__getattribute__" == Value.builtin "object.__getattribute__") = false := by decide +kernel
  obtain ⟨hp, g, dr, t, os⟩ := s
  have ty := I.type (M := model prog w)
  have fd := looks_find (M := model prog w) X I (findObj_data hc C.ha C.hn C.ht)
  have sub : Looks (model prog w) hp (isInstance (.ref x) (.type "BaseException")) true := ty.andThen (looks_subIn X C.hs)
  unfold getAttr? getAttrBy? getAttrBy
  refine wpAny_bind (wpAny_mkText (wpAny_bind (wpAny_attempt (wpAny_holding (wpAny_bind (ty.at (wpAny_bind ((looks_findIn (M := model prog w) X C.hg).at ?_))))))))
  show wpAny _ _ (if (onTheHeap (Value.ref D) && Value.builtin "BaseException.__getattribute__" == Value.builtin "object.__getattribute__") = true then _ else _) _ _ _
  rw [bx, Bool.and_false, if_neg Bool.false_ne_true]
  unfold getAttrByItsOwn hookBefore
  refine wpAny_bind ?_
  rw [if_pos (show onTheHeap (Value.ref D) = true from rfl)]
  refine (looks_findIn (M := model prog w) X C.hk).at ?_
  refine wpAny_bind (wpAny_attempt (wpAny_holding ?_))
  unfold callGetattribute
  rw [show (false && onTheHeap (Value.builtin "BaseException.__getattribute__")) = false from rfl, if_neg Bool.false_ne_true]
  unfold boundAndCalled
  rw [PySem.F.excAttr_ValueError.ga.bind (.ref x)]
  refine wpAny_bind (wpAny_pure ?_)
  show wpAny _ _ (call (.builtin "BaseException.__getattribute__") [.ref x, .str "__class__" t]) _ _ _
  refine wpAny_call (codeAny_call_builtin PySem.F.excAttr_ValueError.ga.plain PySem.F.entry_bexc_ga ?_)
  refine @check_slot (model prog w) _ _ ⟨hp, g, dr, t + 1, os⟩ "BaseException.__getattribute__" "BaseException" "__getattribute__" (.ref x) [.str "__class__" t] [] _ (by decide +kernel) (by decide +kernel) sub (PySem.F.args_bexc_ga (.ref x) (.str "__class__" t)) ?_
  unfold Builtin.«object.__getattribute__»
  refine wpAny_bind (wpAny_of_eq (a := ((Value.ref x : Value), [Value.str "__class__" t])) (by first | rfl | (simp only [slotArgs]; rfl)) ?_)
  refine wpAny_bind (wpAny_pure (wpAny_bind (ty.at (wpAny_bind (fd.at ?_)))))
  show wpAny _ _ (holding [Value.builtin "object.__class__"] (call (.builtin "getset_descriptor.__get__") [.builtin "object.__class__", .ref x, .ref D]) >>= ret) _ _ _
  refine wpAny_bind (wpAny_holding (wpAny_call (class_get (s := ⟨hp, g, dr, t + 1, os⟩) (ox := ox) (od := some od) X I C.hm ?_)))
  refine wpAny_pure ?_
  show wpAny _ _ (handedOut (.ref D)) _ _ _
  rw [handedOut_of (v := .ref D) rfl]
  first
    | exact wpAny_pure (wpAny_pure h)
    | exact wpAny_pure h
    | exact wpAny_pure (wpAny_bind (wpAny_pure (wpAny_pure h)))
theorem kit_xd (C : ExcC K D) : KitX K (.ref x) (.ref D) (fun h => InstAt h x ox D (some od)) where
  ty := fun _ _ _ I => I.type
  it := fun _ _ X _ => by
    obtain ⟨cdD, hcD, _⟩ := any_some C.hd
    unfold clsIn at hcD
    split at hcD
    · rename_i c' d' cd' sl' ho
      intro A' Q' E' s' k q
      unfold isType loadHead
      exact wpAny_bind (wpAny_loadPart (k _ _ (X _ _ ho)) (wpAny_pure q))
    · cases hcD
  ne := fun h tp dd its n sl X htp => by
    obtain ⟨cdD, hcD, _⟩ := any_some C.hd
    refine Bool.eq_false_iff.mpr fun q => ?_
    cases Value.ref.inj (beq_iff_eq.mp q)
    unfold clsIn at hcD
    split at hcD
    · rename_i c' d' cd' sl' ho
      cases (X _ _ ho).symm.trans htp
    · cases hcD
  ca := fun X I k => class_xd C X I k
end
section
variable {X : Cx} {ρ : Rho} {e e2 : Expr} {pos p : Pos} {fds : List (Str × D)} {a dd C : Addr} {oe : Obj} {pn : List (Addr × Obj)} {b : Bool}
def rIsX (K : PySem.W.Frag) (C a dd : Addr) : List V → Hp → VK → Prop := fun xs H Q => ∃ (c : V) (cv : Value) (b : Bool) (fs : List (Str × V)), xs = [.ref a, c] ∧ (∀ u, RelV c u → u = cv) ∧ PySem.W.kitOne K (.ref C) cv = some b ∧ H dd = some (.xd fs) ∧ Q (.bl b) H
theorem call_isX (EC : ExcC X.K C) (hz : Zc (.ref C) (some dd) oe) (hf : ∃ vs, oe.data = .fields vs) : CallR (X.suite a ((a, oe) :: pn)) (.builtin "isinstance") (rIsX X.K C a dd) := by
  intro pins s σ H xs us Q I r h
  obtain ⟨c, cv, b, fs, rfl, hcv, e, hd, q⟩ := h
  cases r with
  | cons rx rr =>
    cases rr with
    | cons rt rr =>
      cases rr
      cases rx
      have ec := hcv _ rt
      subst ec
      obtain ⟨hget, _⟩ := I.pin (a, oe) (List.mem_append.mpr (.inl List.mem_cons_self))
      obtain ⟨vs, hv⟩ := hf
      have hx : ObjOk X.prog X.w H s.heap dd (.xd fs) := I.hok dd _ hd
      obtain ⟨mA, ⟨od, es, ep, ho, _⟩, _⟩ := hx
      have J : PySem.W.InstAt s.heap a oe C (some od) := ⟨hget, hz.1, by unfold PySem.W.notCls; rw [hv] <;> rfl, by rw [hz.2]; exact ho⟩
      exact PySem.W.kia_one (kit_xd EC) I.kIn J e (fun z => nomatch z) fun tk => ⟨.bl b, H, I.kept (t' := tk) fun _ _ z => z, rfl, q⟩
theorem j_isX {c : V} {cv : Value} {d2 : D} (T : Bt X.mg) (EC : ExcC X.K C) (hz : Zc (.ref C) (some dd) oe) (hf : ∃ vs, oe.data = .fields vs) (he1 : J (X.suite a ((a, oe) :: pn)) e ρ (.exc a (some dd) fds)) (he2 : J (X.suite a ((a, oe) :: pn)) e2 ρ d2) (hr : ∀ W v, Rep X.K W d2 v → v = c) (hc : ∀ u, RelV c u → u = cv) (hk : PySem.W.kitOne X.K (.ref C) cv = some b) (hg : Gl X "isinstance" := by rfl)
    (hs : starEach [e, e2] X.env = (false, eval e X.env) :: starEach [e2] X.env := by rfl) (hs2 : starEach [e2] X.env = (false, eval e2 X.env) :: starEach [] X.env := by rfl) (hpl : (backTo pos (starEach [e2] X.env)).any (·.1) = false := by rfl) :
    J (X.suite a ((a, oe) :: pn)) (.Call (.Name "isinstance" p) [e, e2] [] pos) ρ (.bl b) :=
  j_cb (X := X.suite a ((a, oe) :: pn)) (call_isX EC hz hf) T.isinstance (by decide +kernel) (ja_cons he1 (ja_cons he2 ja_nil hs2) hs) (fun W H vs ex r Q q => by
    cases r with
    | cons r t =>
      cases t with
      | cons r' t =>
        cases t
        cases r with
        | @exc _ _ fs _ h1 h2 h3 =>
          have := hr _ _ r'
          subst this
          exact ⟨_, cv, b, fs, rfl, hc, hk, ex _ _ (h1 dd rfl), q.now ex (.bl _)⟩) hg (by decide) (by decide) hs hpl
end
end Pf

/-! text.replace(old, new, 1) within a list that begins with a written text -/
namespace Pf
open PySem L2 PySem.Spec PyProof.Rows
open Evl (Ex)
section
open PySem.Builtin PySem.Builtin.Str
/-- the first one replaced -/
def rep1 (x y z : Str) : Str := if ((occurrences x y 0 x.length 1).isEmpty || (y.length == 0 && z.length == 0)) = true then x else glued z (partsBetween x (occurrences x y 0 x.length 1) y.length)
theorem rep1_tree (x y z : Str) (t u v k : Tok) : «str.replace» ⟨[.str x t, .str y u, .str z v, .int 1 k], []⟩ =
    (if ((occurrences x y 0 x.length 1).isEmpty || (y.length == 0 && z.length == 0)) = true then (do rule "str.replace.nothing"; ret (.str x t)) else
      (do let same ← isSame (.str y u) (.str z v)
          if same = true then (do rule "str.replace.old-is-new"; ret (.str x t)) else
          if tooLong (x.length + (occurrences x y 0 x.length 1).length * z.length) = true then unsupported "str.replace:memory" else
          retStr (glued z (partsBetween x (occurrences x y 0 x.length 1) y.length)))) := by
  show (do let limit ← countLimit "str.replace" (some (.int 1 k)) (x.length + 1); _) = _
  rw [countLimit_int "str.replace" 1 k (x.length + 1) (by decide)]
  rfl
theorem gives_rep1 (x y z : Str) (t u v k : Tok) (hu : u ≠ 0) (hv : v ≠ 0) (huv : u ≠ v) (hyz : (y == z) = false) (hl : tooLong (x.length + (occurrences x y 0 x.length 1).length * z.length) = false) :
    Gives («str.replace» ⟨[.str x t, .str y u, .str z v, .int 1 k], []⟩) (if ((occurrences x y 0 x.length 1).isEmpty || (y.length == 0 && z.length == 0)) = true then .val (.str x t) else .str (glued z (partsBetween x (occurrences x y 0 x.length 1) y.length))) := by
  rw [rep1_tree]
  cases hc : ((occurrences x y 0 x.length 1).isEmpty || (y.length == 0 && z.length == 0))
  · rw [isSame_str_other y z u v (by simp [hu, hv]) (by simp [huv]) hyz, hl]
    exact .of_eq rfl
  · exact .rule (.of_eq rfl)
theorem call_rep1 {prog : Program} {w : World} {A : Around} {E : Value → Shared → Prop} {s : Shared} {x y z : Str} {t u v k : Tok} {Q : Value → Shared → Prop} (hu : u ≠ 0) (hv : v ≠ 0) (huv : u ≠ v) (hyz : (y == z) = false) (hx : x.length + z.length ≤ 10000)
    (hq : ∀ t' k, Q (.str (rep1 x y z) t') { s with toks := k }) : wpAny (model prog w) A (call (.builtin "str.replace") [.str x t, .str y u, .str z v, .int 1 k]) Q E s := by
  have h1 := StrLaws.occ_length_le x y 0 x.length 1
  have h2 : (occurrences x y 0 x.length 1).length * z.length ≤ 1 * z.length := Nat.mul_le_mul_right _ h1
  have e : (10000 : Nat) ≤ sizeLine := by decide
  refine call_gives F.slot_str_replace (typeIs_str _ _ _) F.entry_str_replace (F.args_str_replace_4 _ _ _ _) (gives_rep1 x y z t u v k hu hv huv hyz (by unfold tooLong; exact decide_eq_false (by omega))) ?_
  have hq' := hq
  unfold rep1 at hq'
  cases hc : ((occurrences x y 0 x.length 1).isEmpty || (y.length == 0 && z.length == 0))
  · rw [hc] at hq'
    simp only [Bool.false_eq_true, if_false] at hq' ⊢
    refine ⟨?_, hq' _ _⟩
    have hy : (glued y (partsBetween x (occurrences x y 0 x.length 1) y.length)).length = x.length := by rw [StrLaws.glued_between_self]
    rw [size_glued, length_partsBetween, Nat.add_sub_cancel] at hy
    rw [size_glued, length_partsBetween, Nat.add_sub_cancel]
    omega
  · rw [hc] at hq'
    simp only [if_true] at hq' ⊢
    exact hq' t s.toks
end
/-! ### once a token is out -/
structure JT1 (X : Cx) (e : Expr) (ρ : Rho) (d : D) : Prop where
  run : ∀ W σ H, Ex W H → Vis X.K ρ W σ → ∀ Q : VK, GoodE X.K W H d Q → ∀ pins s, 1 ≤ s.toks → Inv X pins σ H s → wpAny (model X.prog X.w) X.A (eval e X.env) (EP X pins σ Q) X.xe s
structure JA1 (X : Cx) (es : List Expr) (ρ : Rho) (ds : List D) : Prop where
  run : ∀ W σ H, Ex W H → Vis X.K ρ W σ → ∀ Q : List V → Hp → Prop, GoodA X.K W H ds Q → ∀ (pos : Pos) pins s, 1 ≤ s.toks → Inv X pins σ H s → wpAny (model X.prog X.w) X.A (spliced (backTo pos (starEach es X.env))) (AP X pins σ Q) X.xe s
section
variable {X : Cx} {ρ : Rho} {e o : Expr} {es : List Expr} {d : D} {ds : List D} {pos apos c0 c1 c2 cp : Pos} {j k l : Nat} {x y z c : Str}
theorem jt1_of (h : J X e ρ d) : JT1 X e ρ d := ⟨fun W σ H ex hV Q g pins s _ I => h.run W σ H ex hV Q g pins s I⟩
theorem ja1_nil : JA1 X [] ρ [] := ⟨fun W σ H ex hV Q g pos pins s _ I => Calls.spliced_nil ⟨[], H, I, .nil, g [] W H (.refl ex) .nil⟩⟩
theorem ja1_cons (h : JT1 X e ρ d) (h2 : JA1 X es ρ ds) (hs : starEach (e :: es) X.env = (false, eval e X.env) :: starEach es X.env := by rfl) : JA1 X (e :: es) ρ (d :: ds) := ⟨fun W σ H ex hV Q g pos pins s h0 I => by
  rw [hs]
  show wpAny _ _ (spliced ((false, eval e X.env) :: backTo pos (starEach es X.env))) _ _ s
  refine Calls.spliced_cons (wpAny_mono (PySem.wpAny_toks (h.run W σ H ex hV (fun v H1 => ∃ W1, Step W H W1 H1 ∧ Rep X.K W1 d v) (fun v W1 H1 s1 r1 => ⟨W1, s1, r1⟩) pins s h0 I)) (fun v s1 q => ?_) fun _ _ x => x.2)
  obtain ⟨hk, xv, H1, I1, rv, W1, s1', r1⟩ := q
  exact thn (h2.run W1 σ H1 s1'.wh (hV.mono s1'.ww) (fun vs H2 => ∃ W2, Step W1 H1 W2 H2 ∧ RepAll X.K W2 ds vs) (fun vs W2 H2 s2 r2 => ⟨W2, s2, r2⟩) pos pins s1 (Nat.le_trans h0 hk) I1) fun us s2 ⟨xs, H2, I2, r2, W2, s2', r3⟩ =>
    ⟨xv :: xs, H2, I2, .cons rv r2, g _ W2 H2 (s1'.trans s2') (.cons (r1.mono s2'.ww) r3)⟩⟩
theorem jt1_rep (ho : J X o ρ (.str x)) (hyz : (y == z) = false) (hx : x.length + z.length ≤ 10000)
    (hst : starEach [.Constant (.str y) j c0, .Constant (.str z) k c1, .Constant (.int 1) l c2] X.env = [(false, eval (.Constant (.str y) j c0) X.env), (false, eval (.Constant (.str z) k c1) X.env), (false, eval (.Constant (.int 1) l c2) X.env)] := by rfl)
    (hbase : attributeBase o "replace" X.env (eval o X.env) = eval o X.env := by rfl)
    (hfew : ((backTo pos (starEach [.Constant (.str y) j c0, .Constant (.str z) k c1, .Constant (.int 1) l c2] X.env)).all (fun x => !x.1) && (backToKw pos (keywordEach [] X.env)).all (fun x => x.1.isSome) && decide ([(.Constant (.str y) j c0 : Expr), .Constant (.str z) k c1, .Constant (.int 1) l c2].length + ([] : List Keyword).length + (if ([] : List Keyword).isEmpty then 0 else 1) < 30)) = true := by rfl)
    (hline : (apos.endLine == pos.line) = true := by rfl) :
    JT1 X (.Call (.Attribute o "replace" apos) [.Constant (.str y) j c0, .Constant (.str z) k c1, .Constant (.int 1) l c2] [] pos) ρ (.str (rep1 x y z)) := ⟨fun W σ H ex hV Q g pins s h0 I => by
  refine wpAny_Call_method_late hbase hfew hline rfl (wpAny_mono (PySem.wpAny_toks (ho.run W σ H ex hV (fun v H1 => v = .str x ∧ ∃ W1, Step W H W1 H1) (fun v W1 H1 s1 r1 => by cases r1; exact ⟨rfl, W1, s1⟩) pins s I)) (fun v s1 q => ?_) fun _ _ z => z.2)
  obtain ⟨hk, xv, H1, I1, rv, rfl, W1, s1'⟩ := q
  obtain ⟨tx, rfl⟩ := rv
  have h1 : 1 ≤ s1.toks := Nat.le_trans h0 hk
  refine ⟨"str", _, PySem.F.plainAttrs_str, PySem.F.slot_str_replace, PySem.F.type_str_replace, typeIs_str _ _ _, (fun _ e => nomatch e), Calls.callWith_builtin rfl (Calls.evalArgs_plain ?_)⟩
  refine Calls.spliced_cons (Calls.Constant_str (k := j) (pos := c0) ?_)
  refine Calls.spliced_cons (Calls.Constant_str (k := k) (pos := c1) ?_)
  refine Calls.spliced_cons (wpAny_Constant_int (k := l) (pos := c2) (Calls.spliced_nil ?_))
  exact call_rep1 (by show s1.toks ≠ 0; omega) (by show s1.toks + 1 ≠ 0; omega) (by show s1.toks ≠ s1.toks + 1; omega) hyz hx fun t' k' => ⟨.str (rep1 x y z), H1, I1.tok k', ⟨t', rfl⟩, g _ _ _ s1' (.str _)⟩⟩
/-- [c, ..], c a written text: the others are read with a token out -/
theorem j_lstT (h : JA1 X es ρ ds) (hl : ds.length + 1 ≤ sizeLine := by (simp only [List.length_cons, List.length_nil]; decide)) (hs : starEach (.Constant (.str c) j cp :: es) X.env = (false, eval (.Constant (.str c) j cp) X.env) :: starEach es X.env := by rfl) :
    J X (.List (.Constant (.str c) j cp :: es) pos) ρ (.lst (.str c :: ds)) := ⟨fun W σ H ex hV Q g pins s I => by
  refine wpAny_List_spliced ?_
  rw [hs]
  refine Calls.spliced_cons (Calls.Constant_str (k := j) (pos := cp) ?_)
  refine thn (h.run W σ H ex hV (fun vs H2 => ∃ W2, Step W H W2 H2 ∧ RepAll X.K W2 ds vs) (fun vs W2 H2 s2 r2 => ⟨W2, s2, r2⟩) _ pins { s with toks := s.toks + 1 } (by show 1 ≤ s.toks + 1; omega) (I.tok _)) fun us s1 ⟨xs, H1, I1, r, W1, st, ra⟩ => ?_
  have hlen : (Value.str c s.toks :: us).length ≤ sizeLine := by
    rw [List.length_cons, ← r.length, ← ra.length]; exact hl
  refine ⟨hlen, ?_⟩
  have hf : H1 s1.heap.objs.size = none := I1.hok.fresh (Nat.le_refl _)
  refine ⟨.ref s1.heap.objs.size, upd H1 s1.heap.objs.size (.lst (.str c :: xs)), I1.laid (t' := s1.toks) (fun b u e => Heap.get?_push_of_some _ e) (Nat.le_refl _) ⟨by rw [List.length_cons, ← ra.length]; exact hl, _, 0, .cons ⟨_, rfl⟩ r, Heap.get?_push_size _ rfl⟩, rfl, ?_⟩
  exact g _ _ _ (st.trans (.new st.wh hf)) (.lst upd_same ((RepAll.cons (.str c) ra).mono (Evl.Ex.new (Evl.fresh_back st.wh hf))))⟩
end
/-! ### what it comes to -/
def stepP (cs : List Nat) (st : Array Nat × Nat) (i : Nat) : Array Nat × Nat := if (st.1.size < 1 ∧ st.2 ≤ i) ∧ cs[i]? = some 32 then (st.1.push i, i + 1) else st
theorem run_P (cs : List Nat) : ∀ (l : List Nat) (st : Array Nat × Nat), (forIn l st (StrLaws.occBody (tx cs) (tx [32]) (tx cs).length 1)).run = l.foldl (stepP cs) st
  | [], st => rfl
  | a :: l, st => by
    rw [List.forIn_cons, List.foldl_cons]
    have hs := StrLaws.subAt_one (tx cs) 32 a
    unfold StrLaws.occBody stepP
    by_cases q : ((st.fst.size < 1 ∧ st.snd ≤ a) ∧ a + (tx [32]).length ≤ (tx cs).length) ∧ Builtin.Str.subAt (tx cs) (tx [32]) a = true
    · rw [if_pos q, if_pos ⟨q.1.1, hs.mp ⟨q.1.2, q.2⟩⟩]
      exact run_P cs l _
    · rw [if_neg q, if_neg fun z => q ⟨⟨z.1, (hs.mpr z.2).1⟩, (hs.mpr z.2).2⟩]
      exact run_P cs l _
theorem skip_P (cs : List Nat) : ∀ (l : List Nat) (st : Array Nat × Nat), (1 ≤ st.1.size ∨ ∀ i ∈ l, cs[i]? ≠ some 32) → l.foldl (stepP cs) st = st
  | [], _, _ => rfl
  | a :: l, st, h => by
    have h1 : stepP cs st a = st := by
      unfold stepP
      refine if_neg fun z => ?_
      rcases h with h | h
      · omega
      · exact h a List.mem_cons_self z.2
    rw [List.foldl_cons, h1]
    exact skip_P cs l st (h.imp id fun h i hi => h i (List.mem_cons_of_mem _ hi))
theorem occ_one {A B : List Nat} (hA : 32 ∉ A) : Builtin.Str.occurrences (tx (A ++ 32 :: B)) (tx [32]) 0 (tx (A ++ 32 :: B)).length 1 = [A.length] := by
  generalize hcs : A ++ 32 :: B = cs
  have hl : cs.length = A.length + 1 + B.length := by rw [← hcs]; simp; omega
  rw [StrLaws.occ_eq, run_P, tx_len, Nat.sub_zero]
  have e1 : List.range' 0 (cs.length + 1) = List.range' 0 A.length ++ (A.length :: List.range' (A.length + 1) (B.length + 1)) := by
    have r2 : A.length :: List.range' (A.length + 1) (B.length + 1) = List.range' A.length (B.length + 2) := rfl
    rw [r2]
    have r3 := List.range'_append_1 (s := 0) (m := A.length) (n := B.length + 2)
    rw [Nat.zero_add] at r3
    rw [r3, hl]
    congr 1
    omega
  have gA : cs[A.length]? = some 32 := by rw [← hcs, List.getElem?_append_right (Nat.le_refl _), Nat.sub_self]; rfl
  rw [e1, List.foldl_append, skip_P cs (List.range' 0 A.length) _ (.inr fun i hi q => ?_), List.foldl_cons]
  · rw [show stepP cs (#[], 0) A.length = (#[A.length], A.length + 1) from if_pos ⟨⟨by simp, Nat.zero_le _⟩, gA⟩]
    rw [skip_P cs _ _ (.inl (by simp))]
  · obtain ⟨h1, h2⟩ := List.mem_range'_1.mp hi
    rw [← hcs, List.getElem?_append_left (by omega)] at q
    exact hA (List.mem_of_getElem? q)
theorem sub_txL (cs : List Nat) (i j : Nat) : Builtin.Str.strSub (tx cs) i j = tx ((cs.drop i).take (j - i)) := by
  unfold Builtin.Str.strSub tx
  congr 1
  apply Array.ext'
  simp [List.drop_take]
theorem rep1_space {A B : List Nat} (hA : 32 ∉ A) (z : Str) : rep1 (tx (A ++ 32 :: B)) (tx [32]) z = tx (A ++ (z.cps.toList ++ B)) := by
  unfold rep1
  rw [occ_one hA, if_neg (by simp [tx_len]), StrLaws.partsBetween_eq]
  show Builtin.Str.glued z [Builtin.Str.strSub _ 0 A.length, Builtin.Str.strSub _ (A.length + 1) (tx _).length] = _
  rw [sub_txL, sub_txL, tx_len, List.drop_zero, Nat.sub_zero, List.take_left' rfl]
  rw [show (A ++ 32 :: B).drop (A.length + 1) = B from by rw [show A ++ 32 :: B = (A ++ [32]) ++ B by simp]; exact List.drop_left' (by simp)]
  rw [List.take_of_length_le (by simp only [List.length_append, List.length_cons]; omega)]
  unfold Builtin.Str.glued
  show (⟨_⟩ : Str) = ⟨_⟩
  congr 1
  apply Array.ext'
  simp [tx]
end Pf

/-! except (A, B): -/
namespace Pf
open PySem L2 PySem.Spec PyProof.Rows
open Evl (Ex)

theorem fly_keeps {B h h' : Heap} {l : List Env} {a : Addr} {Z : Obj → Prop} (f : HandSPX.FlyingZ B l a Z h) (k : ∀ b o, h.get? b = some o → h'.get? b = some o) : HandSPX.FlyingZ B l a Z h' := by
  obtain ⟨f1, f2, f3, oe, vs, T, oT, ts, g1, g2, g3, g4, g5, g6, g7, g8, g9⟩ := f
  exact ⟨fun b o e => k b o (f1 b o e), f2, f3.of_keeps fun b o e _ => ⟨o, k b o e, rfl⟩, oe, vs, T, oT, ts, k _ _ g1, g2, g3, g4, g5, g6, k _ _ g7, g8, g9⟩
def wT2 (K : PySem.W.Frag) (c1 c2 : Value) (ts : Addr → Value → Option Addr → TS) (D : Ends) : L2.WX := fun cls d σ H => PySem.W.exmAny K cls [c1, c2] = some true ∧ ∀ a, H a = none → ts a cls d D σ H
section
variable {X : Cx} {body suite : List Stmt} {b₀ : Stmt} {x y : Str} {c1 c2 : Value} {kk : Nat} {np np2 tpos pos pos' : Pos} {tb : L2.WX → TS} {ts : Addr → Value → Option Addr → TS}
theorem ps_try_t2 (hst : X.stack = X.env :: X.outer) (hfr0 : X.env.frame = some X.env.locals) (hc1 : Names X x c1) (hc2 : Names X y c2)
    (hb : ∀ (W : L2.WX) (pn : List (Addr × Obj)) (xe : Value → Shared → Prop), L2.Takes (X.tr pn xe) W → PassesOwn (model X.prog X.w) X.A X.env xe → PSs (X.tr pn xe) body (tb W)) (hsu : SuiteOk X (b₀ :: suite) ts)
    (hs2 : starEach [.Name x np, .Name y np2] X.env = [(false, eval (.Name x np) X.env), (false, eval (.Name y np2) X.env)] := by rfl) :
    PS X (.Try body [.ExceptHandler (some (.Tuple [.Name x np, .Name y np2] kk tpos)) none (b₀ :: suite) pos'] [] [] pos) (fun D σ H => tb (wT2 X.K c1 c2 ts D) D σ H) := by
  refine ⟨fun pins s σ H D I hyp => wpAny_Try_except ?_⟩
  have okX := I.ok
  have fra : X.A.frames = some (X.env :: X.outer) := by rw [okX.frames, hst]
  refine wpAny_mono ((hb (wT2 X.K c1 c2 ts D) (X.pn ++ pins) (fun er t1 => wpAny (model X.prog X.w) X.A (noteFrame er X.env) (fun _ t2 => wpAny (model X.prog X.w) X.A (setFlight er none) (fun _ t3 =>
    wpAny (model X.prog X.w) X.A (handleBy er X.env [.ExceptHandler (some (.Tuple [.Name x np, .Name y np2] kk tpos)) none (b₀ :: suite) pos']) (SP X pins D) X.xe t3) X.xe t2) X.xe t1) (fun u s' air => ?_) PassesOwn.looking).run [] s σ H D (I.toTry _) hyp) (fun fl t1 hsp => ?_) (fun er t1 z => z)
  · obtain ⟨a, B, sI, pn', σ', H', cls, d, rfl, J0, nb, up, sky, na, osq, bare, hb1, hyes⟩ := air
    have Jv : Inv X pins σ' H' sI := J0.ofTry okX
    have skyX : Sky B (X.env :: X.outer) a (Zc cls d) X.env.locals s'.heap := hst ▸ sky
    change wpAny (model X.prog X.w) X.A (noteFrame (.ref a) X.env) _ _ _
    refine Sky.land Zc.steady fra hfr0 skyX fun hp3 fly3 up3 => ?_
    have Jv3 : Inv X pins σ' H' { s' with heap := hp3 } := Jv.landed nb fly3.1 (up.trans up3) osq bare
    obtain ⟨ob3, fv3, at3, zc3, da3⟩ := fly3.there
    have nofr : a ∉ frs (X.env :: X.outer) := fun hm => by
      obtain ⟨_, o', e', hnf⟩ := fly3.2.2.1.mem hm
      rw [at3] at e'; cases e'
      exact hnf _ da3
    have nLoc : a ≠ X.env.locals := fun z => nofr (List.mem_filterMap.mpr ⟨X.env, List.mem_cons_self, z ▸ hfr0⟩)
    have nFs : a ∉ X.fs := fun hm => by
      obtain ⟨ev, hev, q⟩ := List.mem_filterMap.mp hm
      exact nofr (List.mem_filterMap.mpr ⟨ev, List.mem_cons_of_mem _ hev, q⟩)
    have Su3 := Jv3.suite at3 da3 na nLoc nFs
    have named : ∀ {x : Str} {np : Pos} {c : Value} {Q' : Value → Shared → Prop} {E' : Value → Shared → Prop}, Names X x c → Q' c { s' with heap := hp3 } → wpAny (model X.prog X.w) (X.A.mark (some (.ref a))) (eval (.Name x np) X.env) Q' E' { s' with heap := hp3 } := fun hc qq => by
      obtain ⟨c1, c2, c3 | ⟨c3, c4, c5⟩⟩ := hc
      · exact ld_glob (X := X.suite a ((a, ob3) :: (X.pn ++ pins))) Su3 c1 c3 qq c2
      · exact ld_blt (X := X.suite a ((a, ob3) :: (X.pn ++ pins))) Su3 c1 c3 c4 qq c5 c2
    obtain ⟨oT, hoT⟩ : ∃ o : Obj, o = { cls := .type "tuple", data := .seq [c1, c2].toArray } := ⟨_, rfl⟩
    have kp : ∀ b o, hp3.get? b = some o → (hp3.push oT).get? b = some o := fun b o e => Heap.get?_push_of_some _ e
    have fly3' := fly_keeps fly3 kp
    have isA : PySem.W.Looks (model X.prog X.w) (hp3.push oT) (typeOf (.ref a)) cls := fun A' Q' E' t' k qq => wpAny_typeOf_ref (k _ _ (kp _ _ at3)) (zc3.1.symm ▸ qq)
    refine wpAny_handleBy_cons (codeAny_handlers_test (wpAny_Tuple_spliced ?_)) (by intro q; cases q)
    rw [hs2]
    refine Calls.spliced_cons (named hc1 (Calls.spliced_cons (named hc2 (Calls.spliced_nil ⟨by show 2 ≤ sizeLine; decide, ?_⟩))))
    rw [show ({ cls := .type "tuple", data := .seq [c1, c2].toArray } : Obj) = oT from hoT.symm]
    refine (PySem.W.exm_tup2 (M := model X.prog X.w) (Jv3.kIn.keeps kp) isA (by rw [hoT]; exact Heap.get?_push_size _ rfl) hb1).here ?_
    refine codeAny_handlers_suite (HandSPX.lands_againZ fly3' fun hp4 fly4 up4 => ?_)
    have Jv4 : Inv X pins σ' H' { s' with heap := hp4 } := Jv.landed nb fly4.1 (((up.trans up3).trans (Heap.UpToSlots.of_keeps kp)).trans up4) osq bare
    obtain ⟨ob4, fv4, at4, zc4, da4⟩ := fly4.there
    have Su4 := Jv4.suite at4 da4 na nLoc nFs
    refine wpAny_mono ((hsu a ob4 cls d (X.pn ++ pins) zc4 ⟨_, da4⟩).run [] _ _ H' _ Su4 (hyes a na)) (fun fl t6 hsp => ?_) (fun _ _ z => False.elim z)
    cases fl with
    | next => obtain ⟨σ6, H6, Su6, q6⟩ := hsp; exact ⟨_, _, Su6.unsuite okX, q6⟩
    | brk => obtain ⟨σ6, H6, Su6, q6⟩ := hsp; exact ⟨_, _, Su6.unsuite okX, q6⟩
    | cont => obtain ⟨σ6, H6, Su6, q6⟩ := hsp; exact ⟨_, _, Su6.unsuite okX, q6⟩
    | ret u => obtain ⟨v6, σ6, H6, Su6, r6, q6⟩ := hsp; exact ⟨_, _, _, Su6.unsuite okX, r6, q6⟩
  · cases fl with
    | next => obtain ⟨σ', H', Jx, q⟩ := hsp; exact wpAny_execs_nil ⟨σ', H', Jx.ofTry okX, q⟩
    | brk => obtain ⟨σ', H', Jx, q⟩ := hsp; exact ⟨σ', H', Jx.ofTry okX, q⟩
    | cont => obtain ⟨σ', H', Jx, q⟩ := hsp; exact ⟨σ', H', Jx.ofTry okX, q⟩
    | ret u => obtain ⟨v, σ', H', Jx, r, q⟩ := hsp; exact ⟨v, σ', H', Jx.ofTry okX, r, q⟩
def tryT (X : Cx) (pin : List Nat) (c1 c2 : Value) (st : List Stmt) (Φ : Out → Prop) : Out → Prop
  | .ex er ρ => PySem.W.exmAny X.K er.cls [c1, c2] = some true ∧ ∀ (a : Addr) (oe : Obj) (d : Option Addr) (pn : List (Addr × Obj)), Zc er.cls d oe → (∃ vs, oe.data = .fields vs) → JSs (X.suite a ((a, oe) :: pn)) pin st ρ (noEx Φ)
  | .nx ρ => Φ (.nx ρ)
  | .rt d ρ => Φ (.rt d ρ)
  | .bk ρ => Φ (.bk ρ)
  | .ct ρ => Φ (.ct ρ)
/-- try: .. except (A, B): .., where nothing else is raised -/
theorem js_tryT {pin : List Nat} {ρ : RhoS} {Φ : Out → Prop} (hc1 : Names X x c1) (hc2 : Names X y c2) (hb : ∀ (pn : List (Addr × Obj)) (xe : Value → Shared → Prop), PassesOwn (model X.prog X.w) X.A X.env xe → JSs (X.tr pn xe) pin body ρ (tryT X pin c1 c2 (b₀ :: suite) Φ))
    (hst : X.stack = X.env :: X.outer := by rfl) (hfr : X.env.frame = some X.env.locals := by rfl) (hs2 : starEach [.Name x np, .Name y np2] X.env = [(false, eval (.Name x np) X.env), (false, eval (.Name y np2) X.env)] := by rfl) :
    JS X pin (.Try body [.ExceptHandler (some (.Tuple [.Name x np, .Name y np2] kk tpos)) none (b₀ :: suite) pos'] [] [] pos) ρ Φ := ⟨fun E σ H D hp s k =>
  .of (ps_try_t2 (ts := tsOf X (b₀ :: suite)) (tb := fun Wx D σ H => ∀ (pn : List (Addr × Obj)) (xe : Value → Shared → Prop), L2.Takes (X.tr pn xe) Wx → PassesOwn (model X.prog X.w) X.A X.env xe → wSs (X.tr pn xe) body D σ H) hst hfr hc1 hc2
    (fun Wx pn xe tk ps => ⟨fun pins s σ H D I h => h pn xe tk ps pins s I⟩) tsOf_ok hs2) fun pn xe tk ps => (hb pn xe ps).run E σ H D hp s fun o ho => by
      cases o with
      | nx ρ' => exact k _ ho
      | rt v ρ' => exact k _ ho
      | bk ρ' => exact k _ ho
      | ct ρ' => exact k _ ho
      | ex er ρ' =>
        obtain ⟨hm, hsu⟩ := ho
        refine ⟨_, tk, fun d σ' H1 H' ⟨Hf, A, s⟩ ex at' fr => ⟨hm, fun a na oe pn hz hf => ?_⟩⟩
        refine (hsu a oe d pn hz hf).run E σ' H' D hp ⟨Hf, A, s.grow ex⟩ fun o ho => ?_
        cases o with
        | ex er ρ => exact ho.elim
        | nx ρ => exact k _ ho
        | rt v ρ => exact k _ ho
        | bk ρ => exact k _ ho
        | ct ρ => exact k _ ho⟩
end
end Pf

/-! dict displays with number keys; a text within a text -/
namespace Pf
open PySem L2 PySem.Spec PyProof.Rows
open Evl (Ex)
section
variable {X : Cx} {ρ : Rho} {pos : Pos}
/-- {k: v, ..}, the keys numbers -/
inductive JPi (X : Cx) (ρ : Rho) : List (Option Expr) → List Expr → List (Int × D) → Prop
  | nil : JPi X ρ [] [] []
  | cons {k v : Expr} {ks : List (Option Expr)} {vs : List Expr} {z : Int} {d : D} {r : List (Int × D)} : J X k ρ (.int z) → J X v ρ d → JPi X ρ ks vs r → JPi X ρ (some k :: ks) (v :: vs) ((z, d) :: r)
theorem JPi.pps : ∀ {ks : List (Option Expr)} {vs : List Expr} {r : List (Int × D)}, JPi X ρ ks vs r → PPs X pos ks vs (trsOf X ks vs)
  | _, _, _, .nil => pps_nil
  | _, _, _, .cons _ _ h => pps_cons pe_w pe_w h.pps
theorem JPi.len : ∀ {ks : List (Option Expr)} {vs : List Expr} {r : List (Int × D)}, JPi X ρ ks vs r → ks.length = vs.length ∧ ks.length = r.length ∧ ks.all (·.isSome) = true
  | _, _, _, .nil => ⟨rfl, rfl, rfl⟩
  | _, _, _, .cons _ _ h => by
    obtain ⟨a, b, c⟩ := h.len
    exact ⟨by simp [a], by simp [b], by simp [c]⟩
theorem JPi.run : ∀ {ks : List (Option Expr)} {vs : List Expr} {r : List (Int × D)}, JPi X ρ ks vs r → ∀ W σ H, Ex W H → Vis X.K ρ W σ → ∀ Q : List (V × V) → Hp → Prop, (∀ (us : List V) W' H', Step W H W' H' → RepAll X.K W' (r.map (·.2)) us → Q ((r.map fun q => V.int q.1).zip us) H') → tPairs (trsOf X ks vs) σ H Q
  | _, _, _, .nil => fun W σ H ex hV Q g => g [] W H (.refl ex) .nil
  | _, _, _, .cons hk hv h => fun W σ H ex hV Q g => hk W σ H ex hV _ fun x W1 H1 s1 r1 => hv W1 σ H1 s1.wh (hV.mono s1.ww) _ fun y W2 H2 s2 r2 => h.run W2 σ H2 s2.wh (hV.mono (s1.trans s2).ww) _ fun us W3 H3 s3 r3 => by
    cases r1
    exact g (y :: us) W3 H3 ((s1.trans s2).trans s3) (.cons (r2.mono s3.ww) r3)
theorem j_dispI {ks : List (Option Expr)} {vs : List Expr} {r : List (Int × D)} (h : JPi X ρ ks vs r) (h0 : ks ≠ []) (h15 : ks.length ≤ 15) (hn : (r.map fun q => (Sum.inl q.1 : Key)).Nodup) : J X (.Dict ks vs pos) ρ (.dct (r.map fun q => (.inl q.1, q.2))) := ⟨fun W σ H ex hV Q g => by
  obtain ⟨l1, l2, l3⟩ := h.len
  refine .of (pe_disp h.pps l3 l1 h0 h15) fun p hp => ?_
  have hWp : W p = none := by
    cases q : W p with
    | none => rfl
    | some o => rw [ex _ _ q] at hp; cases hp
  have ex1 : Ex W (upd H p (.dK [])) := fun b o q => by
    have hb : b ≠ p := fun z => by rw [z, hWp] at q; cases q
    rw [upd_ne hb]; exact ex _ _ q
  refine h.run W σ _ ex1 hV _ fun us W' H' st ra => ?_
  have hl : us.length = r.length := by rw [← ra.length, List.length_map]
  have hp' : H' p = some (.dK []) := st.hh _ _ upd_same
  have hW'p : W' p = none := by
    cases q : W' p with
    | none => rfl
    | some o => have := st.fr p (by rw [q]; simp) hWp; rw [upd_same] at this; cases this
  refine ⟨hp', (r.map fun q => (Sum.inl q.1 : Key)).zip us, ?_, by rw [List.length_zip, List.length_map]; omega, ?_⟩
  · rw [show (r.map fun q => V.int q.1) = (r.map fun q => (Sum.inl q.1 : Key)).map kV from by rw [List.map_map]; rfl, List.zip_map_left]
    rfl
  · have hk : ((r.map fun q => (Sum.inl q.1 : Key)).zip us).map (·.1) = r.map fun q => (Sum.inl q.1 : Key) := List.map_fst_zip (by rw [List.length_map]; omega)
    have hv : ((r.map fun q => (Sum.inl q.1 : Key)).zip us).map (·.2) = us := List.map_snd_zip (by rw [List.length_map]; omega)
    rw [merge_new (κ := Key) (kvs := []) (by rw [hk]; exact hn), List.nil_append]
    generalize hkv : (r.map fun q => (Sum.inl q.1 : Key)).zip us = kvs at hk hv
    refine g _ (upd W' p (.dK kvs)) _ ⟨fun b o q => ?_, fun b o q => ?_, fun b o q => ?_, fun b q1 q2 => ?_⟩ (.dct upd_same (by rw [hk, List.map_map]; rfl) ?_)
    · have hb : b ≠ p := fun z => by rw [z, hWp] at q; cases q
      rw [upd_ne hb]; exact st.ww _ _ q
    · by_cases hb : b = p
      · subst hb; rw [upd_same] at q ⊢; exact q
      · rw [upd_ne hb] at q ⊢; exact st.wh _ _ q
    · have hb : b ≠ p := fun z => by rw [z, hp] at q; cases q
      rw [upd_ne hb]
      exact st.hh _ _ (by rw [upd_ne hb]; exact q)
    · by_cases hb : b = p
      · subst hb; exact hp
      · rw [upd_ne hb] at q1
        have := st.fr b q1 q2
        rw [upd_ne hb] at this; exact this
    · rw [hv, List.map_map]
      refine ra.mono fun b o q => ?_
      have hb : b ≠ p := fun z => by rw [z, hW'p] at q; cases q
      rw [upd_ne hb]; exact q⟩
theorem j_dgetI {o ke : Expr} {kds : List (Key × D)} {z : Int} {d : D} (hu : X.A.units + 1 < cLine) (ho : J X o ρ (.dct kds)) (hke : J X ke ρ (.int z)) (hg : getD kds (.inl z) = some d) (hs : NoSl ke := by exact fun _ _ => rfl) : J X (.Subscript o ke pos) ρ d := ⟨fun W σ H ex V Q g => by
  refine .of (pe_dget hu pe_w pe_w hs) (ho W σ H ex V _ fun v W1 H1 s1 r1 => hke W1 σ H1 s1.wh (V.mono s1.ww) _ fun y W2 H2 s2 r2 => ?_)
  cases r2
  cases r1 with
  | dct k1 k2 k3 =>
    obtain ⟨u, e1, e2⟩ := get_rep k2 k3 hg
    exact ⟨_, u, rfl, e1 ▸ DGet.k (k := Sum.inl z) (s2.hh _ _ (s1.wh _ _ k1)), g _ W2 H2 (s1.trans s2) (e2.mono s2.ww)⟩⟩
/-- a in b, both texts: whether a stands within b -/
theorem cd_inText {a b : Str} : CmD X .In (.str a) (.str b) (!(Builtin.Str.occurrences b a 0 b.length 1).isEmpty) := ⟨_, op_in_str, fun W H v u ex r1 r2 Q q => by
  cases r1; cases r2
  exact ⟨a, b, rfl, rfl, q.now ex (.bl _)⟩⟩
end
/-! ### what stands within a text -/
theorem within {a b c : Str} : Builtin.Str.subAt (a ++ b ++ c) b a.length = true := by
  unfold Builtin.Str.subAt
  rw [beq_iff_eq]
  show (a.cps ++ b.cps ++ c.cps).extract a.cps.size (a.cps.size + b.cps.size) = b.cps
  apply Array.ext'
  rw [Array.toList_extract, Array.toList_append, Array.toList_append]
  simp [List.extract_eq_drop_take, ← Array.length_toList]
theorem found_mid (a b c : Str) : (!(Builtin.Str.occurrences (a ++ b ++ c) b 0 (a ++ b ++ c).length 1).isEmpty) = true :=
  (StrLaws.found_iff _ _).mpr ⟨a.length, by
    show a.cps.size + b.cps.size ≤ (a.cps ++ b.cps ++ c.cps).size
    rw [Array.size_append, Array.size_append]; omega, within⟩
end Pf

namespace Toy
open PySem PyProof.Rows L2 Pf
def top (i : Nat) : Stmt := PySem.Challenge.pw_limitweave_k06_book_texts_refused.main.body.getD i (.Pass ⟨0, 0, 0, 0⟩)
section
variable {P : Program} {w : World} {K : PySem.W.Frag} {mg : Str → Option Value} {base : Heap}
abbrev sRow : Stmt := top 37
theorem scRow : FnScope ["cell", "many", "row", "rest", "state", "k"] ["cell", "many"] (defScope sRow) := ⟨rfl, rfl, rfl, by decide +kernel, rfl, by decide +kernel, by decide +kernel⟩
def gRow : List D → (D → Prop) → Prop := fun ds P => ∃ (c : Int) (m : Nat), ds = [.int c, .int m] ∧ m ≤ 10000 ∧ P = fun d => ∃ ns : List Int, d = .lst (ns.map D.int) ∧ ns.length = m ∧ ∀ n ∈ ns, 0 ≤ n ∧ n < 1009
theorem mod1009 (a : Int) : 0 ≤ a % 1009 ∧ a % 1009 < 1009 := by omega
theorem ok_row {f : Addr} {fd : FuncData} (F : Fun K "_law_row" "_law_row" sRow f fd) (T : Bt mg) : FnOk P w K mg base CX0 1 f fd ["cell", "many"] (spP K 2 gRow) := by
  refine fn_pure F scRow (by rintro ds Pd ⟨c, m, rfl, _⟩; rfl) fun cdv A outer s H E ds Pd hr hG => ?_
  obtain ⟨c, m, rfl, hm, rfl⟩ := hG
  have nd := scRow.nd
  -- row = []; rest = 0
  refine jss_cons (js_setN (i := 2) (jn_lst ja_nil) ?_ nd)
  refine jss_cons (js_set (i := 3) j_int ?_ nd)
  -- if abs(cell) >= 10 ** 18: rest = abs(cell)
  refine jss_mid (fun ρ => ∃ r : Int, ρ = [some (.fz (.int c)), some (.fz (.int m)), some (.ow (.lst [])), some (.fz (.int r)), none, none]) (js_if (jt_cm (jb_abs T (ja_cons (jv 0 rfl) ja_nil)) (j_bin j_int j_int (od_powI ⟨by decide, by decide, by decide⟩)) cd_geI) (fun _ => ?_) (fun _ => ?_)) ?_
  · exact jss_cons (js_set (i := 3) (jb_abs T (ja_cons (jv 0 rfl) ja_nil)) (jss_nil ⟨_, rfl, _, rfl⟩) nd)
  · exact jss_nil ⟨_, rfl, _, rfl⟩
  rintro _ ⟨r, rfl⟩
  -- state = int(abs(cell)) % 2147483647
  refine jss_cons (js_set (i := 4) (j_bin (jb_int T (ja_cons (jb_abs T (ja_cons (jv 0 rfl) ja_nil)) ja_nil)) j_int (od_modI (by decide))) ?_ nd)
  -- for k in range(many)
  refine jss_mid (fun ρ => ∃ (r s : Int) (ns : List Int) (o : Option SV), ρ = [some (.fz (.int c)), some (.fz (.int m)), some (.ow (.lst (ns.map D.int))), some (.fz (.int r)), some (.fz (.int s)), o] ∧ ns.length = m ∧ ∀ n ∈ ns, 0 ≤ n ∧ n < 1009)
    (js_range m (i := 5) (fun k ρ => ∃ (r s : Int) (ns : List Int) (o : Option SV), ρ = [some (.fz (.int c)), some (.fz (.int m)), some (.ow (.lst (ns.map D.int))), some (.fz (.int r)), some (.fz (.int s)), o] ∧ ns.length = k ∧ ∀ n ∈ ns, 0 ≤ n ∧ n < 1009) T (jv 1 rfl) (by omega) nd ⟨_, _, [], _, rfl, rfl, by simp⟩ ?_ ?_) ?_
  · rintro k _ hk ⟨r, s, ns, o, rfl, hl, hb⟩
    refine jss_cons (js_set (i := 4) (j_bin (jb_int T (ja_cons (j_bin (j_bin (j_bin (jv 4 rfl) j_int od_addI) j_int (od_mulI cmulR)) (j_bin j_int (jv 5 rfl) (od_mulI cmulL)) od_addI) ja_nil)) j_int (od_modI (by decide))) ?_ nd)
    refine jss_cons (js_if (jt_cm (jv 3 rfl) j_int cd_gtI) (fun _ => ?_) (fun _ => ?_))
    · refine jss_cons (js_append (i := 2) (ds := ns.map D.int) rfl (j_bin (jb_int T (ja_cons (jv 3 rfl) ja_nil)) j_int (od_modI (by decide))) (by rw [List.length_map, hl]; exact Nat.lt_of_lt_of_le (Nat.lt_of_lt_of_le hk hm) (by decide)) ?_)
      refine jss_cons (js_set (i := 3) (j_bin (jv 3 rfl) j_int (od_fdivI ⟨by decide, by decide⟩)) ?_ nd)
      refine jss_nil (jss_nil ⟨_, _, ns ++ [r % 1009], _, by rw [List.map_append]; rfl, by simp [hl], ?_⟩)
      intro n hn
      rcases List.mem_append.mp hn with h | h
      · exact hb n h
      · simp at h; subst h; exact mod1009 _
    · refine jss_cons (js_append (i := 2) (ds := ns.map D.int) rfl (j_bin (jb_int T (ja_cons (j_bin (jv 4 rfl) j_int (od_fdivI ⟨by decide, by decide⟩)) ja_nil)) j_int (od_modI (by decide))) (by rw [List.length_map, hl]; exact Nat.lt_of_lt_of_le (Nat.lt_of_lt_of_le hk hm) (by decide)) ?_)
      refine jss_nil (jss_nil ⟨_, _, ns ++ [_], _, by rw [List.map_append]; rfl, by simp [hl], ?_⟩)
      intro n hn
      rcases List.mem_append.mp hn with h | h
      · exact hb n h
      · simp at h; subst h; exact mod1009 _
  · rintro _ ⟨r, s, ns, o, rfl, hl, hb⟩
    exact ⟨_, rfl, r, s, ns, o, rfl, hl, hb⟩
  rintro _ ⟨r, s, ns, o, rfl, hl, hb⟩
  -- return row
  exact jss_cons (js_ret (jv 2 rfl) ⟨ns, rfl, hl, hb⟩)
end
end Toy

namespace Toy
open PySem PyProof.Rows L2 Pf
section
variable {P : Program} {w : World} {K : PySem.W.Frag} {mg : Str → Option Value} {base : Heap}
abbrev sNumbers : Stmt := top 38
theorem scNumbers : FnScope ["script", "many", "cells", "each", "numbers", "cell", "number"] ["script", "many"] (defScope sNumbers) := ⟨rfl, rfl, rfl, by decide +kernel, rfl, by decide +kernel, by decide +kernel⟩
/-- so many numbers below 1009 -/
def isNums (m : Nat) (d : D) : Prop := ∃ ns : List Int, d = .lst (ns.map D.int) ∧ ns.length = m ∧ ∀ n ∈ ns, 0 ≤ n ∧ n < 1009
def gNumbers : List D → (D → Prop) → Prop := fun ds P => ∃ (ns : List Int) (m : Nat), ds = [.scr ns, .int m] ∧ ns.length ≤ 63 ∧ m ≤ 1000 ∧ P = isNums m
def lenAt (i m : Nat) (ρ : RhoS) : Nat := match ρ[i]? with
  | some (some (.ow (.lst ds))) => m - ds.length
  | _ => 0
theorem cut_len_le {α : Type} (xs : List α) (a b : Option Int) : (cut xs a b).length ≤ xs.length := by
  unfold cut
  rw [List.length_take, List.length_drop]
  omega
theorem cut_to {α : Type} (xs : List α) (m : Nat) (h : m ≤ xs.length) : (cut xs none (some (m : Int))).length = m ∧ ∀ x ∈ cut xs none (some (m : Int)), x ∈ xs := by
  unfold cut
  rw [HT.sIx_none, HT.sIx_nat]
  constructor
  · rw [List.length_take, List.length_drop]; omega
  · intro x hx
    exact List.mem_of_mem_drop (List.mem_of_mem_take hx)
theorem map_cut (ns : List Int) (a b : Option Int) : cut (ns.map D.int) a b = (cut ns a b).map D.int := by
  unfold cut
  rw [List.length_map, ← List.map_drop, ← List.map_take]
theorem ok_numbers {f : Addr} {fd : FuncData} (F : Fun K "_law_numbers" "_law_numbers" sNumbers f fd) (T : Bt mg) (cR : PFn P w K mg base 1 "_law_row" 2 gRow) : FnOk P w K mg base CX0 2 f fd ["script", "many"] (spP K 2 gNumbers) := by
  refine fn_pure F scNumbers (by rintro ds Pd ⟨c, m, rfl, _⟩; rfl) fun cdv A outer s H E ds Pd hr hG => ?_
  obtain ⟨sc, m, rfl, hsc, hm, rfl⟩ := hG
  have nd := scNumbers.nd
  -- cells = script[:63]
  refine jss_cons (js_set (i := 2) (j_sl (jv 0 rfl) jo_none (jo_some j_int) sld_X) ?_ nd)
  have hcl : (cut sc none (some 63)).length ≤ 63 := Nat.le_trans (cut_len_le _ _ _) hsc
  generalize cut sc none (some 63) = cells at hcl
  -- each = 1 + many // max(1, len(cells))
  refine jss_cons (js_set (i := 3) (j_bin j_int (j_bin (jv 1 rfl) (jb_max2 T (ja_cons j_int (ja_cons (jb_len T (ja_cons (jv 2 rfl) ja_nil) rfl) ja_nil))) (od_fdivI ⟨?_, ?_⟩)) od_addI) ?_ nd)
  · split <;> omega
  · rw [List.length_map]; split <;> omega
  obtain ⟨e, he, he2⟩ : ∃ e : Nat, (1 + (m : Int) / (if ((cells.map D.int).length : Int) > 1 then ((cells.map D.int).length : Int) else 1)) = (e : Int) ∧ e ≤ 1 + m := by
    have h1 : (0 : Int) ≤ (m : Int) / (if ((cells.map D.int).length : Int) > 1 then ((cells.map D.int).length : Int) else 1) := Int.ediv_nonneg (by omega) (by split <;> omega)
    have h2 : (m : Int) / (if ((cells.map D.int).length : Int) > 1 then ((cells.map D.int).length : Int) else 1) ≤ m := Int.ediv_le_self _ (by omega)
    exact ⟨(1 + (m : Int) / (if ((cells.map D.int).length : Int) > 1 then ((cells.map D.int).length : Int) else 1)).toNat, by omega, by omega⟩
  rw [he]
  -- numbers = []
  refine jss_cons (js_setN (i := 4) (jn_lst ja_nil) ?_ nd)
  -- for cell in cells
  refine jss_mid (fun ρ => ∃ (xs : List Int) (o1 o2 : Option SV), ρ = [some (.fz (.scr sc)), some (.fz (.int m)), some (.fz (.lst (cells.map D.int))), some (.fz (.int e)), some (.ow (.lst (xs.map D.int))), o1, o2] ∧ xs.length ≤ 63 * 1001 ∧ ∀ n ∈ xs, 0 ≤ n ∧ n < 1009)
    (js_each (i := 5) cells D.int (fun k ρ => ∃ (xs : List Int) (o1 o2 : Option SV), ρ = [some (.fz (.scr sc)), some (.fz (.int m)), some (.fz (.lst (cells.map D.int))), some (.fz (.int e)), some (.ow (.lst (xs.map D.int))), o1, o2] ∧ xs.length ≤ k * 1001 ∧ ∀ n ∈ xs, 0 ≤ n ∧ n < 1009) (ji_list (jv 2 rfl)) nd ⟨[], _, _, rfl, by simp, by simp⟩ ?_ ?_) ?_
  · rintro k c _ hk ⟨xs, o1, o2, rfl, hl, hb⟩
    have hk' : k < cells.length := (List.getElem?_eq_some_iff.mp hk).1
    refine jss_cons (js_forP (pat := .nm 6) (Pd := fun ds => ∃ ys : List Int, ds = ys.map D.int ∧ ys.length = e ∧ ∀ n ∈ ys, 0 ≤ n ∧ n < 1009)
      (fun ds j ρ => ∃ (zs : List Int) (o2 : Option SV), ρ = [some (.fz (.scr sc)), some (.fz (.int m)), some (.fz (.lst (cells.map D.int))), some (.fz (.int e)), some (.ow (.lst (zs.map D.int))), some (.fz (.int c)), o2] ∧ zs.length = xs.length + j ∧ ∀ n ∈ zs, 0 ≤ n ∧ n < 1009)
      (jip_call (jp_call cR hr (ja_cons (jv 5 rfl) (ja_cons (jv 3 rfl) ja_nil)) ⟨c, e, rfl, by omega, rfl⟩) (by rintro d ⟨ns, rfl, h1, h2⟩; exact ⟨_, rfl, ns, rfl, h1, h2⟩)) (pg_name nd rfl (Or.inl rfl)) ?_ ?_ ?_ PassesOwn.never)
    · rintro ds ⟨ys, rfl, hy, hy2⟩
      exact ⟨xs, _, rfl, by simp, hb⟩
    · rintro ds ⟨ys, rfl, hy, hy2⟩ j d ρ hd ⟨zs, o2', rfl, hz, hz2⟩
      obtain ⟨y, hy3, rfl⟩ := map_get hd
      have hj : j < ys.length := (List.getElem?_eq_some_iff.mp hy3).1
      refine ⟨_, rfl, ?_⟩
      refine jss_cons (js_append (i := 4) (ds := zs.map D.int) rfl (jv 6 rfl) (by rw [List.length_map, hz]; exact Nat.lt_of_lt_of_le (by omega : _ < 100000) (by decide)) ?_)
      refine jss_nil ⟨zs ++ [y], _, by rw [List.map_append]; rfl, by simp [hz]; omega, ?_⟩
      intro n hn
      rcases List.mem_append.mp hn with h | h
      · exact hz2 n h
      · simp at h; subst h; exact hy2 _ (List.mem_of_getElem? hy3)
    · rintro ds ⟨ys, rfl, hy, hy2⟩ ρ ⟨zs, o2', rfl, hz, hz2⟩
      rw [List.length_map] at hz
      exact jss_nil ⟨zs, _, _, rfl, by omega, hz2⟩
  · rintro _ ⟨xs, o1, o2, rfl, hl, hb⟩
    exact ⟨_, rfl, xs, o1, o2, rfl, by omega, hb⟩
  rintro _ ⟨xs, o1, o2, rfl, hl, hb⟩
  -- while len(numbers) < many
  refine jss_mid (fun ρ => ∃ (xs : List Int), ρ = [some (.fz (.scr sc)), some (.fz (.int m)), some (.fz (.lst (cells.map D.int))), some (.fz (.int e)), some (.ow (.lst (xs.map D.int))), o1, o2] ∧ m ≤ xs.length ∧ ∀ n ∈ xs, 0 ≤ n ∧ n < 1009)
    (js_while (fun ρ => ∃ (xs : List Int), ρ = [some (.fz (.scr sc)), some (.fz (.int m)), some (.fz (.lst (cells.map D.int))), some (.fz (.int e)), some (.ow (.lst (xs.map D.int))), o1, o2] ∧ xs.length ≤ 63 * 1001 + m ∧ ∀ n ∈ xs, 0 ≤ n ∧ n < 1009) (lenAt 4 m) ⟨xs, rfl, by omega, hb⟩ ?_ PassesOwn.never) ?_
  · rintro _ ⟨xs, rfl, hl, hb⟩
    refine ⟨_, jt_cm (jb_len T (ja_cons (jv 4 rfl) ja_nil) rfl) (jv 1 rfl) cd_ltI, fun ht => ?_, fun ht => ?_⟩
    · have ht' : xs.length < m := by simpa using ht
      refine jss_cons (js_append (i := 4) (ds := xs.map D.int) rfl j_int (by rw [List.length_map]; exact Nat.lt_of_lt_of_le (by omega : _ < 100000) (by decide)) ?_)
      refine jss_nil ⟨⟨xs ++ [0], by rw [List.map_append]; rfl, by simp; omega, ?_⟩, ?_⟩
      · intro n hn
        rcases List.mem_append.mp hn with h | h
        · exact hb n h
        · simp at h; subst h; omega
      · show lenAt 4 m [_, _, _, _, some (.ow (.lst (xs.map D.int ++ [D.int 0]))), _, _] < lenAt 4 m [_, _, _, _, some (.ow (.lst (xs.map D.int))), _, _]
        simp [lenAt]; omega
    · have ht' : m ≤ xs.length := by simpa using ht
      exact ⟨_, rfl, xs, rfl, ht', hb⟩
  rintro _ ⟨xs, rfl, hl, hb⟩
  -- return numbers[:many]
  refine jss_cons (js_ret (j_sl (jv 4 rfl) jo_none (jo_some (jv 1 rfl)) sld_L) ⟨cut xs none (some (m : Int)), ?_, (cut_to xs m hl).1, fun n hn => hb n ((cut_to xs m hl).2 n hn)⟩)
  rw [map_cut]
end
end Toy

namespace Toy
open PySem PyProof.Rows L2 Pf
section
variable {P : Program} {w : World} {K : PySem.W.Frag} {mg : Str → Option Value} {base : Heap}
/-! ### what a limit is -/
def leastT : List (Str × Option (List Int)) := [("window", some [0, 1]), ("span", some [0, 1]), ("bucket", some [0, 1]), ("gap", some [1]), ("held", some [0]), ("heap", none), ("windows", none), ("spans", none), ("buckets", none), ("gaps", none), ("helds", none), ("pools", none), ("", none)]
def leastOf (word : Str) : Option (List Int) := match leastT.find? (fun q => decide (q.1 = word)) with
  | some q => q.2
  | none => none
structure Gb (K : PySem.W.Frag) (w : World) (mg : Str → Option Value) : Prop where
  nm : ∃ t, mg "NAME_SIGNS" = some (.str "abcdefghijklmnopqrstuvwxyz0123456789" t)
  gr : ∃ t, mg "GREATEST_NUMBER" = some (.int 1000000 t)
  mgr : ∃ t, mg "MOST_GROUPS" = some (.int 8 t)
  ms : ∃ t, mg "MOST_SHARES" = some (.int 8 t)
  tb : Tab K w mg "LEAST_NUMBERS" leastT
  miss : ∀ z : Str, z ∉ (["window", "span", "bucket", "gap", "held"] : List Str) → Tab K w mg "LEAST_NUMBERS" [(z, none)]
theorem part_cases {d : D} (h : part d = true) : (∃ z : Str, d = .str z ∧ z.length ≤ 2000) ∨ ∃ i, d = .int i := by
  cases d with
  | str z => exact .inl ⟨z, rfl, by simpa [part] using h⟩
  | int i => exact .inr ⟨i, rfl⟩
  | _ => cases h
def prt : D → Bool
  | .str z => decide (z.length ≤ 2000)
  | .int _ => true
  | .non => true
  | _ => false
theorem prt_cases {d : D} (h : prt d = true) : (∃ z : Str, d = .str z ∧ z.length ≤ 2000) ∨ (∃ i, d = .int i) ∨ d = .non := by
  cases d with
  | str z => exact .inl ⟨z, rfl, by simpa [prt] using h⟩
  | int i => exact .inr (.inl ⟨i, rfl⟩)
  | non => exact .inr (.inr rfl)
  | _ => cases h
theorem prt_of {d : D} (h : part d = true) : prt d = true := by
  cases d <;> first | exact h | rfl
def OkH (z : Str) : Prop := z.length ≤ 100 ∧ (isNm z = false → (reprText z).length ≤ 1000)
abbrev shD (t : Str × Int × Int) : D := .tup [.str t.1, .int t.2.1, .int t.2.2]
def sh1 : D → Option (Str × Int × Int)
  | .tup [.str z, .int o, .int c] => some (z, o, c)
  | _ => none
def shAll : List D → Option (List (Str × Int × Int))
  | [] => some []
  | d :: r => match sh1 d, shAll r with
    | some a, some b => some (a :: b)
    | _, _ => none
def formP : List D → Option (Int × List (Str × Int × Int))
  | [.int m, .tup ss] => (shAll ss).map fun ts => (m, ts)
  | _ => none
def isInt : D → Bool
  | .int _ => true
  | _ => false
inductive NumD : D → Prop
  | int (i : Int) : NumD (.int i)
  | non : NumD .non
  | shs (ss : List (List D)) (h : ∀ s ∈ ss, s.all prt = true) (hl : ss.length ≤ 100) : NumD (.tup (ss.map D.tup))
theorem sh1_some {d : D} {t : Str × Int × Int} (h : sh1 d = some t) : d = shD t := by
  unfold sh1 at h
  split at h
  · cases h; rfl
  · cases h
theorem shAll_some : ∀ {ds : List D} {ts : List (Str × Int × Int)}, shAll ds = some ts → ds = ts.map shD
  | [], ts, h => by cases h; rfl
  | d :: r, ts, h => by
    unfold shAll at h
    split at h
    · rename_i a b h1 h2
      cases h
      rw [List.map_cons, ← shAll_some h2, ← sh1_some h1]
    · cases h
theorem shAll_is (ds : List D) : (shAll ds).isSome = ds.all fun d => (sh1 d).isSome := by
  induction ds with
  | nil => rfl
  | cons d r ih =>
    rw [List.all_cons, ← ih]
    show (match sh1 d, shAll r with | some a, some b => some (a :: b) | _, _ => none).isSome = _
    cases sh1 d <;> cases shAll r <;> rfl
def formN (ns : List D) : Option (List Int) → Bool
  | none => false
  | some l => decide (ns.length = l.length) && ns.all isInt
def formB (word : Str) (ns : List D) : Bool := if word = "pool" then (formP ns).isSome else formN ns (leastOf word)
def ascB (zs : List Str) : Bool := (zs.zip (zs.drop 1)).all fun p => decide (p.1.cps.toList < p.2.cps.toList)
def sumO (ts : List (Str × Int × Int)) : Int := (ts.map fun t => t.2.1).sum
def okS (t : Str × Int × Int) : Bool := decide (0 ≤ t.2.1) && (decide (t.2.1 ≤ t.2.2) && decide (t.2.2 ≤ 1000000))
def fitS (m : Int) (ts : List (Str × Int × Int)) : Bool := (decide (1 ≤ ts.length) && decide (ts.length ≤ 8)) && (ts.all okS && decide (sumO ts ≤ m))
def fitN (l : List Int) (ns : List Int) : Bool := (l.zip ns).all fun p => decide (p.1 ≤ p.2) && decide (p.2 ≤ 1000000)
def intsOf : List D → Option (List Int)
  | [] => some []
  | .int i :: r => (intsOf r).map (i :: ·)
  | _ :: _ => none
/-- 0 a limit, 1 a bad name, 2 no limit -/
def chk4 (name word : Str) (gs : List Str) (ns : List D) : Nat :=
  if (name :: gs).all isNm = false then 1
  else if word = "pool" then match formP ns with
    | none => 2
    | some (m, ts) => if (ts.map (·.1)).all isNm = false then 1 else if gs ≠ [] then 2 else if ascB (ts.map (·.1)) = false then 2 else if (inD 0 1000000 (.int m) && fitS m ts) = false then 2 else 0
  else match leastOf word, intsOf ns with
    | some l, some is => if is.length ≠ l.length then 2 else if (decide (8 < gs.length) || !ascB gs) = true then 2 else if fitN l is = false then 2 else 0
    | _, _ => 2
theorem ints_all {ns : List D} {is : List Int} (h : intsOf ns = some is) : ns = is.map D.int := by
  induction ns generalizing is with
  | nil => cases h; rfl
  | cons d r ih =>
    cases d with
    | int i =>
      have h' : (intsOf r).map (i :: ·) = some is := h
      cases q : intsOf r with
      | none => rw [q] at h'; cases h'
      | some js => rw [q] at h'; cases h'; rw [ih q]; rfl
    | _ => cases h
theorem ints_is (ns : List D) : (intsOf ns).isSome = ns.all isInt := by
  induction ns with
  | nil => rfl
  | cons d r ih =>
    cases d with
    | int i =>
      show ((intsOf r).map (i :: ·)).isSome = (true && r.all isInt)
      rw [Option.isSome_map, ih, Bool.true_and]
    | _ => rfl
/-! ### is_name, is_within, is_ascending -/
abbrev sName : Stmt := top 14
theorem scName : FnScope ["text", "sign"] ["text"] (defScope sName) := ⟨rfl, rfl, rfl, by decide +kernel, rfl, by decide +kernel, by decide +kernel⟩
def gName : List D → (D → Prop) → Prop := fun ds P => ∃ z : Str, ds = [.str z] ∧ z.length ≤ 2000 ∧ P = fun r => r = .bl (isNm z)
theorem ok_name {f : Addr} {fd : FuncData} (F : Fun K "is_name" "is_name" sName f fd) (T : Bt mg) (G : Gb K w mg) : FnOk P w K mg base CX0 1 f fd ["text"] (spP K 1 gName) := by
  refine fn_pure F scName (by rintro ds Pd ⟨_, rfl, _⟩; rfl) fun cdv A outer s H E ds Pd hr hG => ?_
  obtain ⟨z, rfl, hz, rfl⟩ := hG
  have nd := scName.nd
  refine jss_cons (js_ret (J.to (j_and (jb_isi (b := true) T (ja_cons (jv 0 rfl) (ja_cons (j_ty (T := "str") T.str (by decide +kernel)) ja_nil)) rfl (by rfl)) (fun _ => j_and (J.to (j_ch j_int (jb_len T (ja_cons (jv 0 rfl) ja_nil) (lenS (le_size (by omega)))) j_int cd_leI cd_leI) (d' := .bl (decide (1 ≤ z.length) && decide (z.length ≤ 12))) ?_) (fun _ => j_one (J.to (jb_all T (bs := z.cps.toList.map nmSign) (ja_cons (J.to (j_lcM (own := [("sign", 1)]) (i := 1) z.cps.toList (fun c : Nat => D.str ⟨#[c]⟩) (fun c => D.bl (nmSign c)) (ji_str (jv 0 rfl)) (blkOk_by (N := ["text", "sign"]) (sc := defScope sName) (by decide +kernel)) (fun _ _ _ _ _ => pg_name nd rfl (Or.inl rfl)) (by rw [len_of]; exact lt_size (by omega)) (fun c hc s H C cl fp => J.to (j_cm (jv 1 rfl) (j_gS G.nm) cd_inSign) (congrArg D.bl (nm_mem c))) nd) (by rw [List.map_map]; rfl)) ja_nil)) (d' := .bl (z.cps.toList.all nmSign)) (by rw [List.all_map]; rfl))))) rfl) rfl)
  exact congrArg D.bl (by congr 1 <;> exact decide_eq_decide.mpr (by omega))
abbrev sIn : Stmt := top 15
theorem scIn : FnScope ["number", "least", "greatest"] ["number", "least", "greatest"] (defScope sIn) := ⟨rfl, rfl, rfl, by decide +kernel, rfl, by decide +kernel, by decide +kernel⟩
def gIn : List D → (D → Prop) → Prop := fun ds P => ∃ i lo hi, ds = [.int i, .int lo, .int hi] ∧ P = fun r => r = .bl (inD lo hi (.int i))
theorem ok_in {f : Addr} {fd : FuncData} (F : Fun K "is_within" "is_within" sIn f fd) (T : Bt mg) : FnOk P w K mg base CX0 1 f fd ["number", "least", "greatest"] (spP K 3 gIn) := by
  refine fn_pure F scIn (by rintro ds Pd ⟨_, _, _, rfl, _⟩; rfl) fun cdv A outer s H E ds Pd hr hG => ?_
  obtain ⟨i, lo, hi, rfl, rfl⟩ := hG
  exact jss_cons (js_ret (J.to (j_and (jb_isi (b := true) T (ja_cons (jv 0 rfl) (ja_cons (j_ty (T := "int") T.int (by decide +kernel)) ja_nil)) rfl (by rfl)) (fun _ => j_one (j_ch (jv 1 rfl) (jv 0 rfl) (jv 2 rfl) cd_leI cd_leI))) rfl) rfl)
abbrev sAs : Stmt := top 16
theorem scAs : FnScope ["names", "first", "second"] ["names"] (defScope sAs) := ⟨rfl, rfl, rfl, by decide +kernel, rfl, by decide +kernel, by decide +kernel⟩
def gAs : List D → (D → Prop) → Prop := fun ds P => ∃ zs : List Str, ds = [.tup (zs.map D.str)] ∧ zs.length ≤ 100 ∧ P = fun r => r = .bl (ascB zs)
end
end Toy

namespace Toy
open PySem PyProof.Rows L2 Pf
section
variable {P : Program} {w : World} {K : PySem.W.Frag} {mg : Str → Option Value} {base : Heap}
theorem fst_map {α β : Type} (xs : List α) (f : α → D) (g : α → β) : (xs.map fun x => (f x, g x)).map (·.1) = xs.map f := by rw [List.map_map]; rfl
theorem cut_one {α : Type} (xs : List α) : cut xs (some 1) none = xs.drop 1 := by
  by_cases h : 1 ≤ xs.length
  · exact cut_drop xs 1 h
  · have : xs = [] := List.length_eq_zero_iff.mp (by omega)
    subst this; rfl
theorem ok_as {f : Addr} {fd : FuncData} (F : Fun K "is_ascending" "is_ascending" sAs f fd) (T : Bt mg) : FnOk P w K mg base CX0 1 f fd ["names"] (spP K 1 gAs) := by
  refine fn_pure F scAs (by rintro ds Pd ⟨_, rfl, _⟩; rfl) fun cdv A outer s H E ds Pd hr hG => ?_
  obtain ⟨zs, rfl, hl, rfl⟩ := hG
  have nd := scAs.nd
  refine jss_cons (js_ret (jb_all T (bs := (zs.zip (zs.drop 1)).map fun p => decide (p.1.cps.toList < p.2.cps.toList)) (ja_cons (J.to (j_lc (own := [("first", 1), ("second", 2)]) (pat := .tp [1, 2]) (its := (zs.zip (zs.drop 1)).map fun p => (D.tup [.str p.1, .str p.2], some (D.bl (decide (p.1.cps.toList < p.2.cps.toList))))) ?_ (blkOk_by (N := ["names", "first", "second"]) (sc := defScope sAs) (by decide +kernel)) (fun _ _ _ _ _ => pg_tup rfl (pgs_cons (pg_name nd rfl (Or.inl rfl)) (pgs_cons (pg_name nd rfl (Or.inl rfl)) pgs_nil))) (by decide) (by rw [List.length_map, List.length_zip]; exact lt_size (by omega)) (fun q hq => ?_) nd) ?_) ja_nil)) ?_)
  · rw [fst_map]
    have e : (((zs.map D.str).zip ((zs.drop 1).map D.str)).map fun p => D.tup [p.1, p.2]) = (zs.zip (zs.drop 1)).map fun p => D.tup [.str p.1, .str p.2] := by
      rw [List.zip_map, List.map_map]; rfl
    rw [← e]
    exact ji_zipT T.zip (jv 0 rfl) (J.to (j_sl (jv 0 rfl) (jo_some j_int) jo_none sld_T) (by rw [cut_map, cut_one]))
  · obtain ⟨x, hx, rfl⟩ := List.mem_map.mp hq
    exact ⟨_, rfl, fun _ _ _ _ _ => ⟨jts_nil, j_cm (jv 1 rfl) (jv 2 rfl) cd_ltS⟩⟩
  · rw [List.filterMap_map, List.map_map]
    exact congrArg D.lst (List.filterMap_eq_map.symm ▸ rfl)
  · show D.bl _ = D.bl (ascB zs)
    rw [List.all_map]; rfl
/-! ### has_share_form, has_form -/
abbrev sSf : Stmt := top 17
theorem scSf : FnScope ["share"] ["share"] (defScope sSf) := ⟨rfl, rfl, rfl, by decide +kernel, rfl, by decide +kernel, by decide +kernel⟩
def gSf : List D → (D → Prop) → Prop := fun ds P => ∃ s : List D, ds = [.tup s] ∧ s.all prt = true ∧ P = fun r => r = .bl (sh1 (.tup s)).isSome
theorem sh1_len {s : List D} (h : s.length ≠ 3) : sh1 (.tup s) = none := by
  unfold sh1
  split
  · rename_i e; cases e; exact absurd rfl h
  · rfl
theorem ok_sf {f : Addr} {fd : FuncData} (F : Fun K "has_share_form" "has_share_form" sSf f fd) (T : Bt mg) : FnOk P w K mg base CX0 1 f fd ["share"] (spP K 1 gSf) := by
  refine fn_pure F scSf (by rintro ds Pd ⟨_, rfl, _⟩; rfl) fun cdv A outer s0 H E ds Pd hr hG => ?_
  obtain ⟨s, rfl, hp, rfl⟩ := hG
  by_cases h3 : s.length = 3
  · refine jss_cons (js_ifF (JT.to (jt_w (jw_or (t := false) (u := false) (JT.to (jt_not (jt_val (jb_isiT (b := true) T (ja_cons (jv 0 rfl) (ja_cons (j_ty (T := "tuple") T.tuple (by decide +kernel)) ja_nil)) (by rfl)))) rfl) (fun _ => jw_or1 (JT.to (jt_cm (jb_len T (ja_cons (jv 0 rfl) ja_nil) rfl) j_int cd_neI) (by rw [decide_eq_true (by omega : ((s.length : Nat) : Int) = 3)]; rfl))))) rfl) (jss_nil ?_))
    match s, h3 with
    | [a, b, c], _ =>
      simp only [List.all_cons, Bool.and_eq_true] at hp
      obtain ⟨pa, pb, pc, _⟩ := hp
      rcases prt_cases pa with ⟨za, rfl, _⟩ | ⟨ia, rfl⟩ | rfl
      · rcases prt_cases pb with ⟨zb, rfl, _⟩ | ⟨ib, rfl⟩ | rfl
        · exact jss_cons (js_ret (J.to (j_and (jb_isi (b := true) T (ja_cons (j_ix (jv 0 rfl) j_int (ixd_T rfl)) (ja_cons (j_ty (T := "str") T.str (by decide +kernel)) ja_nil)) rfl (by rfl)) (fun _ => j_andFa (jb_isi T (ja_cons (j_ix (jv 0 rfl) j_int (ixd_T rfl)) (ja_cons (j_ty (T := "int") T.int (by decide +kernel)) ja_nil)) rfl (by rfl)))) rfl) rfl)
        · rcases prt_cases pc with ⟨zc, rfl, _⟩ | ⟨ic, rfl⟩ | rfl
          · exact jss_cons (js_ret (J.to (j_and (jb_isi (b := true) T (ja_cons (j_ix (jv 0 rfl) j_int (ixd_T rfl)) (ja_cons (j_ty (T := "str") T.str (by decide +kernel)) ja_nil)) rfl (by rfl)) (fun _ => j_and (jb_isi (b := true) T (ja_cons (j_ix (jv 0 rfl) j_int (ixd_T rfl)) (ja_cons (j_ty (T := "int") T.int (by decide +kernel)) ja_nil)) rfl (by rfl)) (fun _ => j_one (jb_isi (b := false) T (ja_cons (j_ix (jv 0 rfl) j_int (ixd_T rfl)) (ja_cons (j_ty (T := "int") T.int (by decide +kernel)) ja_nil)) rfl (by rfl))))) rfl) rfl)
          · exact jss_cons (js_ret (J.to (j_and (jb_isi (b := true) T (ja_cons (j_ix (jv 0 rfl) j_int (ixd_T rfl)) (ja_cons (j_ty (T := "str") T.str (by decide +kernel)) ja_nil)) rfl (by rfl)) (fun _ => j_and (jb_isi (b := true) T (ja_cons (j_ix (jv 0 rfl) j_int (ixd_T rfl)) (ja_cons (j_ty (T := "int") T.int (by decide +kernel)) ja_nil)) rfl (by rfl)) (fun _ => j_one (jb_isi (b := true) T (ja_cons (j_ix (jv 0 rfl) j_int (ixd_T rfl)) (ja_cons (j_ty (T := "int") T.int (by decide +kernel)) ja_nil)) rfl (by rfl))))) rfl) rfl)
          · exact jss_cons (js_ret (J.to (j_and (jb_isi (b := true) T (ja_cons (j_ix (jv 0 rfl) j_int (ixd_T rfl)) (ja_cons (j_ty (T := "str") T.str (by decide +kernel)) ja_nil)) rfl (by rfl)) (fun _ => j_and (jb_isi (b := true) T (ja_cons (j_ix (jv 0 rfl) j_int (ixd_T rfl)) (ja_cons (j_ty (T := "int") T.int (by decide +kernel)) ja_nil)) rfl (by rfl)) (fun _ => j_one (jb_isi (b := false) T (ja_cons (j_ix (jv 0 rfl) j_int (ixd_T rfl)) (ja_cons (j_ty (T := "int") T.int (by decide +kernel)) ja_nil)) rfl (by rfl))))) rfl) rfl)
        · exact jss_cons (js_ret (J.to (j_and (jb_isi (b := true) T (ja_cons (j_ix (jv 0 rfl) j_int (ixd_T rfl)) (ja_cons (j_ty (T := "str") T.str (by decide +kernel)) ja_nil)) rfl (by rfl)) (fun _ => j_andFa (jb_isi T (ja_cons (j_ix (jv 0 rfl) j_int (ixd_T rfl)) (ja_cons (j_ty (T := "int") T.int (by decide +kernel)) ja_nil)) rfl (by rfl)))) rfl) rfl)
      · exact jss_cons (js_ret (J.to (j_andFa (jb_isi T (ja_cons (j_ix (jv 0 rfl) j_int (ixd_T rfl)) (ja_cons (j_ty (T := "str") T.str (by decide +kernel)) ja_nil)) rfl (by rfl))) rfl) rfl)
      · exact jss_cons (js_ret (J.to (j_andFa (jb_isi T (ja_cons (j_ix (jv 0 rfl) j_int (ixd_T rfl)) (ja_cons (j_ty (T := "str") T.str (by decide +kernel)) ja_nil)) rfl (by rfl))) rfl) rfl)
  · refine jss_cons (js_ifT (JT.to (jt_w (jw_or (t := false) (u := true) (JT.to (jt_not (jt_val (jb_isiT (b := true) T (ja_cons (jv 0 rfl) (ja_cons (j_ty (T := "tuple") T.tuple (by decide +kernel)) ja_nil)) (by rfl)))) rfl) (fun _ => jw_or1 (JT.to (jt_cm (jb_len T (ja_cons (jv 0 rfl) ja_nil) rfl) j_int cd_neI) (by rw [decide_eq_false (by omega : ¬ ((s.length : Nat) : Int) = 3)]; rfl))))) rfl) (jss_cons (js_ret j_bl ?_)))
    show D.bl false = D.bl (sh1 (.tup s)).isSome
    rw [sh1_len h3]; rfl
abbrev sFo : Stmt := top 18
theorem scFo : FnScope ["word", "numbers", "share", "number"] ["word", "numbers"] (defScope sFo) := ⟨rfl, rfl, rfl, by decide +kernel, rfl, by decide +kernel, by decide +kernel⟩
def okWord (z : Str) : Prop := z = "pool" ∨ ∃ o, (z, o) ∈ leastT
theorem least_mem {z : Str} {o : Option (List Int)} (h : (z, o) ∈ leastT) : leastOf z = o ∧ z ≠ "pool" := by
  simp only [leastT, List.mem_cons, List.not_mem_nil, or_false, Prod.mk.injEq] at h
  rcases h with ⟨rfl, rfl⟩ | ⟨rfl, rfl⟩ | ⟨rfl, rfl⟩ | ⟨rfl, rfl⟩ | ⟨rfl, rfl⟩ | ⟨rfl, rfl⟩ | ⟨rfl, rfl⟩ | ⟨rfl, rfl⟩ | ⟨rfl, rfl⟩ | ⟨rfl, rfl⟩ | ⟨rfl, rfl⟩ | ⟨rfl, rfl⟩ | ⟨rfl, rfl⟩ <;> exact ⟨by decide +kernel, by decide +kernel⟩
def gFo : List D → (D → Prop) → Prop := fun ds P => ∃ (word : Str) (ns : List D), ds = [.str word, .tup ns] ∧ okWord word ∧ (∀ d ∈ ns, NumD d) ∧ ns.length ≤ 100 ∧ P = fun r => r = .bl (formB word ns)
theorem numD_ty {d : D} (h : NumD d) : (∃ i, d = .int i) ∨ (∃ ss, d = .tup ss) ∨ d = .non := by
  cases h with
  | int i => exact .inl ⟨i, rfl⟩
  | non => exact .inr (.inr rfl)
  | shs ss _ _ => exact .inr (.inl ⟨_, rfl⟩)
theorem formP_len {ns : List D} (h : ns.length ≠ 2) : formP ns = none := by
  unfold formP
  split
  · exact absurd rfl h
  · rfl
/-- isinstance(number, int) for such a number -/
theorem j_isNum {X : Cx} {ρ : Rho} {e : Expr} {p p2 pos : Pos} {d : D} (T : Bt X.mg) (h : NumD d) (he : J X e ρ d) (hg2 : Gl X "int" := by rfl) (hg : Gl X "isinstance" := by rfl) (hs : starEach [e, .Name "int" p2] X.env = (false, eval e X.env) :: starEach [.Name "int" p2] X.env := by rfl) (hs2 : starEach [.Name "int" p2] X.env = (false, eval (.Name "int" p2) X.env) :: starEach [] X.env := by rfl) (hpl : (backTo pos (starEach [.Name "int" p2] X.env)).any (·.1) = false := by rfl) :
    J X (.Call (.Name "isinstance" p) [e, .Name "int" p2] [] pos) ρ (.bl (isInt d)) := by
  cases h with
  | int i => exact jb_isi (b := true) T (ja_cons he (ja_cons (j_ty (T := "int") T.int (by decide +kernel) hg2) ja_nil hs2) hs) rfl (by rfl) hg hs hpl
  | non => exact jb_isi (b := false) T (ja_cons he (ja_cons (j_ty (T := "int") T.int (by decide +kernel) hg2) ja_nil hs2) hs) rfl (by rfl) hg hs hpl
  | shs ss _ _ => exact jb_isiT (b := false) T (ja_cons he (ja_cons (j_ty (T := "int") T.int (by decide +kernel) hg2) ja_nil hs2) hs) (by rfl) hg hs hpl
theorem ok_fo {f : Addr} {fd : FuncData} (F : Fun K "has_form" "has_form" sFo f fd) (T : Bt mg) (G : Gb K w mg) (cS : PFn P w K mg base 1 "has_share_form" 1 gSf) : FnOk P w K mg base CX0 2 f fd ["word", "numbers"] (spP K 2 gFo) := by
  refine fn_pure F scFo (by rintro ds Pd ⟨_, _, rfl, _⟩; rfl) fun cdv A outer s H E ds Pd hr hG => ?_
  obtain ⟨word, ns, rfl, hw, hn, hl, rfl⟩ := hG
  have nd := scFo.nd
  refine jss_cons (js_if (jt_cm (jv 0 rfl) j_str cd_eqS) (fun h => ?_) (fun h => jss_nil ?_))
  · have hp : word = "pool" := of_decide_eq_true h
    have fb : formB word ns = (formP ns).isSome := by unfold formB; rw [if_pos hp]
    by_cases h2 : ns.length = 2
    · match ns, h2 with
      | [a, b], _ =>
        have ha := hn a (by simp)
        have hb := hn b (by simp)
        rcases numD_ty ha with ⟨i, rfl⟩ | ⟨ss, rfl⟩ | rfl
        · cases hb with
          | int j =>
            refine jss_cons (js_ifT (JT.to (jt_w (jw_or (t := false) (u := true) (JT.to (jt_cm (jb_len T (ja_cons (jv 1 rfl) ja_nil) rfl) j_int cd_neI) rfl) (fun _ => jw_or (t := false) (u := true) (JT.to (jt_not (jt_val (j_isNum T ha (j_ix (jv 1 rfl) j_int (ixd_T rfl))))) rfl) (fun _ => jw_or1 (JT.to (jt_not (jt_val (jb_isi (b := false) T (ja_cons (j_ix (jv 1 rfl) j_int (ixd_T rfl)) (ja_cons (j_ty (T := "tuple") T.tuple (by decide +kernel)) ja_nil)) rfl (by rfl)))) rfl))))) rfl) (jss_cons (js_ret j_bl ?_)))
            rw [fb]; rfl
          | non =>
            refine jss_cons (js_ifT (JT.to (jt_w (jw_or (t := false) (u := true) (JT.to (jt_cm (jb_len T (ja_cons (jv 1 rfl) ja_nil) rfl) j_int cd_neI) rfl) (fun _ => jw_or (t := false) (u := true) (JT.to (jt_not (jt_val (j_isNum T ha (j_ix (jv 1 rfl) j_int (ixd_T rfl))))) rfl) (fun _ => jw_or1 (JT.to (jt_not (jt_val (jb_isi (b := false) T (ja_cons (j_ix (jv 1 rfl) j_int (ixd_T rfl)) (ja_cons (j_ty (T := "tuple") T.tuple (by decide +kernel)) ja_nil)) rfl (by rfl)))) rfl))))) rfl) (jss_cons (js_ret j_bl ?_)))
            rw [fb]; rfl
          | shs ss hss hls =>
            refine jss_cons (js_ifF (JT.to (jt_w (jw_or (t := false) (u := false) (JT.to (jt_cm (jb_len T (ja_cons (jv 1 rfl) ja_nil) rfl) j_int cd_neI) rfl) (fun _ => jw_or (t := false) (u := false) (JT.to (jt_not (jt_val (j_isNum T ha (j_ix (jv 1 rfl) j_int (ixd_T rfl))))) rfl) (fun _ => jw_or1 (JT.to (jt_not (jt_val (jb_isiT (b := true) T (ja_cons (j_ix (jv 1 rfl) j_int (ixd_T rfl)) (ja_cons (j_ty (T := "tuple") T.tuple (by decide +kernel)) ja_nil)) (by rfl)))) rfl))))) rfl) (jss_nil ?_))
            refine jss_cons (js_ret (J.to (jb_all T (bs := ss.map fun s => (sh1 (.tup s)).isSome) (ja_cons (J.to (j_lcM (own := [("share", 2)]) (i := 2) ss D.tup (fun s => D.bl (sh1 (.tup s)).isSome) (ji_tup (j_ix (jv 1 rfl) j_int (ixd_T rfl))) (blkOk_by (N := ["word", "numbers", "share", "number"]) (sc := defScope sFo) (by decide +kernel)) (fun _ _ _ _ _ => pg_name nd rfl (Or.inl rfl)) (lt_size (by omega)) (fun s hs s0 H C cl fp => j_call cS hr (ja_cons (jv 2 rfl) ja_nil) ⟨s, rfl, hss s hs, rfl⟩ (fun _ h => h)) nd) (by rw [List.map_map]; rfl)) ja_nil)) (d' := .bl (formB word [.int i, .tup (ss.map D.tup)])) ?_) rfl)
            rw [fb]
            show D.bl ((ss.map fun s => (sh1 (.tup s)).isSome).all id) = D.bl ((shAll (ss.map D.tup)).map fun ts => (i, ts)).isSome
            rw [Option.isSome_map, shAll_is, List.all_map, List.all_map]; rfl
        · refine jss_cons (js_ifT (JT.to (jt_w (jw_or (t := false) (u := true) (JT.to (jt_cm (jb_len T (ja_cons (jv 1 rfl) ja_nil) rfl) j_int cd_neI) rfl) (fun _ => jw_or (t := true) (u := true) (JT.to (jt_not (jt_val (j_isNum T ha (j_ix (jv 1 rfl) j_int (ixd_T rfl))))) rfl) (fun z => by cases z)))) rfl) (jss_cons (js_ret j_bl ?_)))
          rw [fb]; rfl
        · refine jss_cons (js_ifT (JT.to (jt_w (jw_or (t := false) (u := true) (JT.to (jt_cm (jb_len T (ja_cons (jv 1 rfl) ja_nil) rfl) j_int cd_neI) rfl) (fun _ => jw_or (t := true) (u := true) (JT.to (jt_not (jt_val (j_isNum T ha (j_ix (jv 1 rfl) j_int (ixd_T rfl))))) rfl) (fun z => by cases z)))) rfl) (jss_cons (js_ret j_bl ?_)))
          rw [fb]; rfl
    · refine jss_cons (js_ifT (JT.to (jt_w (jw_or (t := true) (u := true) (JT.to (jt_cm (jb_len T (ja_cons (jv 1 rfl) ja_nil) rfl) j_int cd_neI) (by rw [decide_eq_false (by omega : ¬ ((ns.length : Nat) : Int) = 2)]; rfl)) (fun z => by cases z))) rfl) (jss_cons (js_ret j_bl ?_)))
      rw [fb, formP_len h2]; rfl
  · have hp : ¬ word = "pool" := of_decide_eq_false h
    rcases hw with e | ⟨o, ho⟩
    · exact absurd e hp
    have lo := (least_mem ho).1
    have fb : formB word ns = formN ns o := by unfold formB; rw [if_neg hp, lo]
    rw [fb]
    cases o with
    | none =>
      exact jss_cons (js_ifT (JT.to (jt_w (jw_or (t := true) (u := true) (JT.to (jt_ninTab G.tb none ho (jv 0 rfl)) rfl) (fun z => by cases z))) rfl) (jss_cons (js_ret j_bl rfl)))
    | some l =>
      have lenL : lenD (.tup (l.map D.int)) = some l.length := by show some _ = _; rw [List.length_map]
      refine jss_cons (js_if (t := !decide (ns.length = l.length)) (JT.to (jt_w (jw_or (t := false) (JT.to (jt_ninTab G.tb (some l) ho (jv 0 rfl)) rfl) (fun _ => jw_or1 (jt_cm (jb_len T (ja_cons (jv 1 rfl) ja_nil) rfl) (jb_len T (ja_cons (j_ixTab G.tb ho (jv 0 rfl)) ja_nil) lenL) cd_neI)))) ?_) (fun h => ?_) (fun h => jss_nil ?_))
      · rw [Bool.false_or]
        congr 1
        exact decide_eq_decide.mpr (by omega)
      · refine jss_cons (js_ret j_bl ?_)
        show D.bl false = D.bl (decide (ns.length = l.length) && ns.all isInt)
        rw [show decide (ns.length = l.length) = false from by simpa using h]; rfl
      · have he : decide (ns.length = l.length) = true := by simpa using h
        refine jss_cons (js_ret (J.to (jb_all T (bs := ns.map isInt) (ja_cons (J.to (j_lcM (own := [("number", 3)]) (i := 3) ns (fun d => d) (fun d => D.bl (isInt d)) (by rw [List.map_id']; exact ji_tup (jv 1 rfl)) (blkOk_by (N := ["word", "numbers", "share", "number"]) (sc := defScope sFo) (by decide +kernel)) (fun _ _ _ _ _ => pg_name nd rfl (Or.inl rfl)) (lt_size (by omega)) (fun d hd s0 H C cl fp => j_isNum T (hn d hd) (jv 3 rfl)) nd) (by rw [List.map_map]; rfl)) ja_nil)) (d' := .bl (ns.all isInt)) (by rw [List.all_map]; rfl)) ?_)
        show _ = D.bl (decide (ns.length = l.length) && ns.all isInt)
        rw [he]; rfl
end
end Toy

namespace Toy
open PySem PyProof.Rows L2 Pf
section
variable {P : Program} {w : World} {K : PySem.W.Frag} {mg : Str → Option Value} {base : Heap}
/-! ### groups_of, check_names -/
abbrev limD (name word : Str) (gs : List Str) (ns : List D) : D := .tup [.str name, .str word, .tup (gs.map D.str), .tup ns]
abbrev sGo : Stmt := top 19
theorem scGo : FnScope ["limit", "share"] ["limit"] (defScope sGo) := ⟨rfl, rfl, rfl, by decide +kernel, rfl, by decide +kernel, by decide +kernel⟩
def gGo : List D → (D → Prop) → Prop := fun ds P => ∃ (name word : Str) (gs : List Str) (ns : List D), ds = [limD name word gs ns] ∧
  ((word = "pool" ∧ ∃ (m : Int) (ts : List (Str × Int × Int)), ns = [.int m, .tup (ts.map shD)] ∧ ts.length ≤ 100 ∧ P = fun d => d = .tup ((ts.map (·.1)).map D.str)) ∨ (word ≠ "pool" ∧ P = fun d => d = .tup (gs.map D.str)))
theorem ok_go {f : Addr} {fd : FuncData} (F : Fun K "groups_of" "groups_of" sGo f fd) (T : Bt mg) : FnOk P w K mg base CX0 1 f fd ["limit"] (spP K 1 gGo) := by
  refine fn_pure F scGo (by rintro ds Pd ⟨_, _, _, _, rfl, _⟩; rfl) fun cdv A outer s H E ds Pd hr hG => ?_
  obtain ⟨name, word, gs, ns, rfl, hG⟩ := hG
  have nd := scGo.nd
  rcases hG with ⟨hw, m, ts, rfl, hl, rfl⟩ | ⟨hw, rfl⟩
  · refine jss_cons (js_ifT (JT.to (jt_cm (j_ix (jv 0 rfl) j_int (ixd_T rfl)) j_str cd_eqS) (decide_eq_true hw)) (jss_cons (js_ret (jb_tupleL T (ja_cons (J.to (j_lcM (own := [("share", 1)]) (i := 1) ts shD (fun t => D.str t.1) (ji_tup (j_ix (j_ix (jv 0 rfl) j_int (ixd_T rfl)) j_int (ixd_T rfl))) (blkOk_by (N := ["limit", "share"]) (sc := defScope sGo) (by decide +kernel)) (fun _ _ _ _ _ => pg_name nd rfl (Or.inl rfl)) (lt_size (by omega)) (fun t ht s0 H C cl fp => j_ix (jv 1 rfl) j_int (ixd_T rfl)) nd) (show _ = D.lst ((ts.map (·.1)).map D.str) from by rw [List.map_map]; rfl)) ja_nil)) rfl)))
  · refine jss_cons (js_ifF (JT.to (jt_cm (j_ix (jv 0 rfl) j_int (ixd_T rfl)) j_str cd_eqS) (decide_eq_false hw)) (jss_nil ?_))
    exact jss_cons (js_ret (j_ix (jv 0 rfl) j_int (ixd_T rfl)) rfl)
abbrev eC (C : Addr) : Er := ⟨.ref C, none⟩
abbrev sCn : Stmt := top 20
theorem scCn : FnScope ["names", "name"] ["names"] (defScope sCn) := ⟨rfl, rfl, rfl, by decide +kernel, rfl, by decide +kernel, by decide +kernel⟩
def gCn (N : Addr) : List D → (D → Prop) → (Er → Prop) → Prop := fun ds P R => ∃ zs : List Str, ds = [.tup (zs.map D.str)] ∧ (∀ z ∈ zs, OkH z) ∧ zs.length ≤ 1000 ∧ (P = fun d => zs.all isNm = true ∧ d = .non) ∧ R = fun er => zs.all isNm = false ∧ er = eC N
theorem ok_cn {N : Addr} {f : Addr} {fd : FuncData} (F : Fun K "check_names" "check_names" sCn f fd) (cN : PFn P w K mg base 1 "is_name" 1 gName) (oN : OwnErr K mg "InvalidName" N) : FnOk P w K mg base (L2.CX P w) 2 f fd ["names"] (spE K 1 (gCn N)) := by
  refine fn_err F scCn (by rintro ds Pd R ⟨_, rfl, _⟩; rfl) fun cdv A outer s H X ds Pd R hr hG ps => ?_
  obtain ⟨zs, rfl, hz, hl, rfl, rfl⟩ := hG
  have nd := scCn.nd
  refine jss_cons (js_each (i := 1) zs D.str (fun k ρ => ∃ o1, ρ = [some (.fz (.tup (zs.map D.str))), o1] ∧ (zs.take k).all isNm = true) (ji_tup (jv 0 rfl)) nd ⟨_, rfl, rfl⟩ ?_ ?_)
  · rintro k z _ hk ⟨o1, rfl, hn⟩
    have hm := List.mem_of_getElem? hk
    have hoz := hz z hm
    have h1 := hoz.1
    refine jss_cons (js_if (jt_not (jt_val (j_call cN hr (ja_cons (jv 1 rfl) ja_nil) ⟨z, rfl, by omega, rfl⟩ (fun _ h => h)))) (fun h => ?_) (fun h => jss_nil (jss_nil ⟨_, rfl, ?_⟩)))
    · have hb : isNm z = false := by simpa using h
      have h2 := hoz.2 hb
      refine jss_cons (js_raise (jmk_own oN (ja_cons (j_fs (.cons j_str (.cons (j_fmtR (jv 1 rfl) (le_size (by omega))) .nil)) rfl ?_) ja_nil)) ⟨?_, rfl⟩)
      · unfold joinS joinS joinS
        rw [app_len, app_len]
        have a1 : (Str.empty).length + ("no name: " : Str).length ≤ 100 := by decide +kernel
        exact le_size (by omega)
      · rw [List.all_eq_false]
        exact ⟨z, hm, by rw [hb]; decide⟩
    · have hg : isNm z = true := by simpa using h
      rw [List.take_add_one, hk, List.all_append, hn]
      show (true && (isNm z && true)) = true
      rw [hg]; rfl
  · rintro _ ⟨o1, rfl, hn⟩
    rw [List.take_length] at hn
    exact jss_nil ⟨hn, rfl⟩
/-! ### shares_fit, numbers_fit -/
abbrev sFi : Stmt := top 21
abbrev nFi : List Str := ["most", "shares", "_", "own", "ceiling", "share"]
theorem scFi : FnScope nFi ["most", "shares"] (defScope sFi) := ⟨rfl, rfl, rfl, by decide +kernel, rfl, by decide +kernel, by decide +kernel⟩
def gFi : List D → (D → Prop) → Prop := fun ds P => ∃ (m : Int) (ts : List (Str × Int × Int)), ds = [.int m, .tup (ts.map shD)] ∧ ts.length ≤ 100 ∧ P = fun d => d = .bl (fitS m ts)
theorem ok_fi {f : Addr} {fd : FuncData} (F : Fun K "shares_fit" "shares_fit" sFi f fd) (T : Bt mg) (G : Gb K w mg) : FnOk P w K mg base CX0 1 f fd ["most", "shares"] (spP K 2 gFi) := by
  refine fn_pure F scFi (by rintro ds Pd ⟨_, _, rfl, _⟩; rfl) fun cdv A outer s H E ds Pd hr hG => ?_
  obtain ⟨m, ts, rfl, hl, rfl⟩ := hG
  have nd := scFi.nd
  have lenT : lenD (.tup (ts.map shD)) = some ts.length := by show some _ = _; rw [List.length_map]
  refine jss_cons (js_if (t := !(decide (1 ≤ ts.length) && decide (ts.length ≤ 8))) (JT.to (jt_not (jt_ch j_int (jb_len T (ja_cons (jv 1 rfl) ja_nil) lenT) (j_gI G.ms) cd_leI cd_leI)) ?_) (fun h => ?_) (fun h => jss_nil ?_))
  · congr 2 <;> exact decide_eq_decide.mpr (by omega)
  · refine jss_cons (js_ret j_bl ?_)
    show D.bl false = D.bl (fitS m ts)
    unfold fitS
    rw [show (decide (1 ≤ ts.length) && decide (ts.length ≤ 8)) = false from by rw [Bool.not_eq_true'] at h; exact h]; rfl
  have hb : (decide (1 ≤ ts.length) && decide (ts.length ≤ 8)) = true := by rw [Bool.not_eq_false'] at h; exact h
  refine jss_cons (js_for (pat := .tp [2, 3, 4]) (fun k ρ => ∃ o2 o3 o4, ρ = [some (.fz (.int m)), some (.fz (.tup (ts.map shD))), o2, o3, o4, none] ∧ (ts.take k).all okS = true)
    (ji_tup (jv 1 rfl)) (pg_tup rfl (pgs_cons (pg_name nd rfl (Or.inl rfl)) (pgs_cons (pg_name nd rfl (Or.inl rfl)) (pgs_cons (pg_name nd rfl (Or.inl rfl)) pgs_nil)))) ⟨_, _, _, rfl, rfl⟩ ?_ ?_ PassesOwn.never)
  · rintro k d ρ hd ⟨o2, o3, o4, rfl, ha⟩
    rw [List.getElem?_map] at hd
    cases q : ts[k]? with
    | none => rw [q] at hd; cases hd
    | some t =>
      rw [q] at hd; cases hd
      refine ⟨_, rfl, ?_⟩
      refine jss_cons (js_if (t := !okS t) (JT.to (jt_not (jt_ch3 j_int (jv 3 rfl) (jv 4 rfl) (j_gI G.gr) cd_leI cd_leI cd_leI)) rfl) (fun h => ?_) (fun h => jss_nil (jss_nil ⟨_, _, _, rfl, ?_⟩)))
      · have hk : okS t = false := by simpa using h
        refine jss_cons (js_ret j_bl ?_)
        show D.bl false = D.bl (fitS m ts)
        unfold fitS
        have : ts.all okS = false := List.all_eq_false.mpr ⟨t, List.mem_of_getElem? q, by rw [hk]; decide⟩
        rw [this, hb]; rfl
      · have hk : okS t = true := by simpa using h
        rw [List.take_add_one, q, List.all_append, ha]
        show (true && (okS t && true)) = true
        rw [hk]; rfl
  · rintro ρ ⟨o2, o3, o4, rfl, ha⟩
    rw [List.length_map, List.take_length] at ha
    refine jss_cons (js_ret (J.to (j_cm (jb_sum T (ns := ts.map fun t => t.2.1) (ja_cons (J.to (j_lcM (own := [("share", 5)]) (i := 5) ts shD (fun t => D.int t.2.1) (ji_tup (jv 1 rfl)) (blkOk_by (N := nFi) (sc := defScope sFi) (by decide +kernel)) (fun _ _ _ _ _ => pg_name nd rfl (Or.inl rfl)) (lt_size (by omega)) (fun t ht s0 H C cl fp => j_ix (jv 5 rfl) j_int (ixd_T rfl)) nd) (show _ = D.lst ((ts.map fun t => t.2.1).map D.int) from by rw [List.map_map]; rfl)) ja_nil)) (jv 0 rfl) cd_leI) (d' := .bl (fitS m ts)) ?_) rfl)
    unfold fitS
    rw [hb, ha]; rfl
abbrev sNf : Stmt := top 22
abbrev nNf : List Str := ["word", "numbers", "least", "number"]
theorem scNf : FnScope nNf ["word", "numbers"] (defScope sNf) := ⟨rfl, rfl, rfl, by decide +kernel, rfl, by decide +kernel, by decide +kernel⟩
def gNf : List D → (D → Prop) → Prop := fun ds P => (∃ (m : Int) (ts : List (Str × Int × Int)), ds = [.str "pool", .tup [.int m, .tup (ts.map shD)]] ∧ ts.length ≤ 100 ∧ P = fun d => d = .bl (inD 0 1000000 (.int m) && fitS m ts)) ∨
  ∃ (word : Str) (l is : List Int), ds = [.str word, .tup (is.map D.int)] ∧ (word, some l) ∈ leastT ∧ is.length ≤ 100 ∧ P = fun d => d = .bl (fitN l is)
theorem ok_nf {f : Addr} {fd : FuncData} (F : Fun K "numbers_fit" "numbers_fit" sNf f fd) (T : Bt mg) (G : Gb K w mg) (cI : PFn P w K mg base 1 "is_within" 3 gIn) (cS : PFn P w K mg base 1 "shares_fit" 2 gFi) : FnOk P w K mg base CX0 2 f fd ["word", "numbers"] (spP K 2 gNf) := by
  refine fn_pure F scNf (by rintro ds Pd (⟨_, _, rfl, _⟩ | ⟨_, _, _, rfl, _⟩) <;> rfl) fun cdv A outer s H E ds Pd hr hG => ?_
  have nd := scNf.nd
  rcases hG with ⟨m, ts, rfl, hl, rfl⟩ | ⟨word, l, is, rfl, ho, hl, rfl⟩
  · refine jss_cons (js_ifT (JT.to (jt_cm (jv 0 rfl) j_str cd_eqS) (decide_eq_true rfl)) (jss_cons (js_ret (j_and (j_call cI hr (ja_cons (j_ix (jv 1 rfl) j_int (ixd_T rfl)) (ja_cons j_int (ja_cons (j_gI G.gr) ja_nil))) ⟨m, 0, 1000000, rfl, rfl⟩ (fun _ h => h)) (fun _ => j_one (j_call cS hr (ja_cons (j_ix (jv 1 rfl) j_int (ixd_T rfl)) (ja_cons (j_ix (jv 1 rfl) j_int (ixd_T rfl)) ja_nil)) ⟨m, ts, rfl, hl, rfl⟩ (fun _ h => h)))) rfl)))
  · have hp := (least_mem ho).2
    refine jss_cons (js_ifF (JT.to (jt_cm (jv 0 rfl) j_str cd_eqS) (decide_eq_false hp)) (jss_nil ?_))
    refine jss_cons (js_ret (jb_all T (bs := (l.zip is).map fun p => decide (p.1 ≤ p.2) && decide (p.2 ≤ 1000000)) (ja_cons (J.to (j_lc (own := [("least", 2), ("number", 3)]) (pat := .tp [2, 3]) (its := (l.zip is).map fun p => (D.tup [.int p.1, .int p.2], some (D.bl (decide (p.1 ≤ p.2) && decide (p.2 ≤ 1000000))))) ?_ (blkOk_by (N := nNf) (sc := defScope sNf) (by decide +kernel)) (fun _ _ _ _ _ => pg_tup rfl (pgs_cons (pg_name nd rfl (Or.inl rfl)) (pgs_cons (pg_name nd rfl (Or.inl rfl)) pgs_nil))) (by decide) (by rw [List.length_map, List.length_zip]; exact lt_size (by omega)) (fun q hq => ?_) nd) ?_) ja_nil)) ?_)
    · rw [fst_map]
      have e : (((l.map D.int).zip (is.map D.int)).map fun p => D.tup [p.1, p.2]) = (l.zip is).map fun p => D.tup [.int p.1, .int p.2] := by
        rw [List.zip_map, List.map_map]; rfl
      rw [← e]
      exact ji_zipT T.zip (j_ixTab G.tb ho (jv 0 rfl)) (jv 1 rfl)
    · obtain ⟨x, hx, rfl⟩ := List.mem_map.mp hq
      exact ⟨_, rfl, fun _ _ _ _ _ => ⟨jts_nil, j_ch (jv 2 rfl) (jv 3 rfl) (j_gI G.gr) cd_leI cd_leI⟩⟩
    · rw [List.filterMap_map, List.map_map]
      exact congrArg D.lst (List.filterMap_eq_map.symm ▸ rfl)
    · show D.bl _ = D.bl (fitN l is)
      rw [List.all_map]; rfl
end
end Toy

namespace Toy
open PySem PyProof.Rows L2 Pf
section
variable {P : Program} {w : World} {K : PySem.W.Frag} {mg : Str → Option Value} {base : Heap}
/-! ### check_limit -/
abbrev sCl : Stmt := top 23
abbrev nCl : List Str := ["limit", "name", "word", "groups", "numbers", "named"]
theorem scCl : FnScope nCl ["limit"] (defScope sCl) := ⟨rfl, rfl, rfl, by decide +kernel, rfl, by decide +kernel, by decide +kernel⟩
/-- what is handed to check_limit here -/
structure OkL (name word : Str) (gs : List Str) (ns : List D) : Prop where
  w : okWord word
  wr : (reprText word).length ≤ 1000
  nm : OkH name
  gl : ∀ g ∈ gs, OkH g
  g2 : gs.length ≤ 100
  num : ∀ d ∈ ns, NumD d
  nl : ns.length ≤ 100
  sh : ∀ (m : Int) (ts : List (Str × Int × Int)), ns = [.int m, .tup (ts.map shD)] → ∀ t ∈ ts, OkH t.1
def outP (k : Nat) : D → Prop := fun d => k = 0 ∧ d = .non
def outR (N L : Addr) (k : Nat) : Er → Prop := fun er => (k = 1 ∧ er = eC N) ∨ (k = 2 ∧ er = eC L)
def gCl (N L : Addr) : List D → (D → Prop) → (Er → Prop) → Prop := fun ds P R => (∃ q : List D, ds = [.tup q] ∧ q.length ≠ 4 ∧ P = outP 2 ∧ R = outR N L 2) ∨
  ∃ (name word : Str) (gs : List Str) (ns : List D), ds = [limD name word gs ns] ∧ OkL name word gs ns ∧ P = outP (chk4 name word gs ns) ∧ R = outR N L (chk4 name word gs ns)
theorem formP_some {ns : List D} (h : (formP ns).isSome = true) : ∃ m ts, ns = [.int m, .tup (ts.map shD)] ∧ formP ns = some (m, ts) := by
  cases q : formP ns with
  | none => rw [q] at h; cases h
  | some p =>
    have q' := q
    unfold formP at q'
    split at q'
    · rename_i m ss
      cases q2 : shAll ss with
      | none => rw [q2] at q'; cases q'
      | some ts =>
        rw [q2] at q'
        have e : (m, ts) = p := Option.some.inj q'
        subst e
        exact ⟨m, ts, by rw [shAll_some q2], rfl⟩
    · cases q'
theorem nmS_fit {z : Str} (h : isNm z = true) : PySem.PyData.strOk z = true := by
  unfold PySem.PyData.strOk
  rw [Array.all_eq_true_iff_forall_mem]
  intro c hc
  unfold isNm at h
  have q := List.all_eq_true.mp (Bool.and_eq_true_iff.mp h).2 c (Array.mem_toList_iff.mpr hc)
  unfold nmSign at q
  simp only [Bool.or_eq_true, Bool.and_eq_true, decide_eq_true_eq] at q
  exact decide_eq_true (by omega)
theorem strs_fit (n : Nat) : ∀ (xs : List Str), (∀ z ∈ xs, isNm z = true) → fitAllD n (xs.map D.str) = true := by
  intro xs h
  induction xs with
  | nil => rfl
  | cons x xs ih =>
    show (PySem.PyData.strOk x && fitAllD n (xs.map D.str)) = true
    rw [nmS_fit (h x (by simp)), ih fun y hy => h y (by simp [hy])]; rfl
theorem ok_cl {N L : Addr} {f : Addr} {fd : FuncData} (F : Fun K "check_limit" "check_limit" sCl f fd) (T : Bt mg) (G : Gb K w mg) (oL : OwnErr K mg "InvalidLimit" L) (cCn : EFn P w K mg base 2 "check_names" 1 (gCn N)) (cFo : PFn P w K mg base 2 "has_form" 2 gFo) (cGo : PFn P w K mg base 1 "groups_of" 1 gGo) (cAs : PFn P w K mg base 1 "is_ascending" 1 gAs) (cNf : PFn P w K mg base 2 "numbers_fit" 2 gNf) : FnOk P w K mg base (L2.CX P w) 3 f fd ["limit"] (spE K 1 (gCl N L)) := by
  refine fn_err F scCl (by rintro ds Pd R (⟨_, rfl, _⟩ | ⟨_, _, _, _, rfl, _⟩) <;> rfl) fun cdv A outer s H X ds Pd R hr hG ps => ?_
  have nd := scCl.nd
  rcases hG with ⟨q, rfl, h4, rfl, rfl⟩ | ⟨name, word, gs, ns, rfl, ok, rfl, rfl⟩
  · exact jss_cons (js_ifT (JT.to (jt_cm (jb_len T (ja_cons (jv 0 rfl) ja_nil) rfl) j_int cd_neI) (by rw [decide_eq_false (by omega : ¬ ((q.length : Nat) : Int) = 4)]; rfl)) (jss_cons (js_raise (jmk_own oL (ja_cons j_str ja_nil)) (.inr ⟨rfl, rfl⟩))))
  refine jss_cons (js_ifF (JT.to (jt_cm (jb_len T (ja_cons (jv 0 rfl) ja_nil) rfl) j_int cd_neI) rfl) (jss_nil ?_))
  refine jss_cons (js_pat (pat := .tp [1, 2, 3, 4]) (jv 0 rfl) rfl ?_ (pg_tup rfl (pgs_cons (pg_name nd rfl (Or.inl rfl)) (pgs_cons (pg_name nd rfl (Or.inl rfl)) (pgs_cons (pg_name nd rfl (Or.inl rfl)) (pgs_cons (pg_name nd rfl (Or.inl rfl)) pgs_nil))))))
  have hg2 := ok.g2
  have hwr := ok.wr
  have hnm := ok.nm.1
  refine jss_cons (js_exX (jx_call cCn hr (ja_cons (J.to (j_bin (j_tup (ja_cons (jv 1 rfl) ja_nil)) (jv 3 rfl) (od_addT (by rw [List.length_map]; exact le_size (by simp; omega)))) (show _ = D.tup ((name :: gs).map D.str) from rfl)) ja_nil) ⟨name :: gs, rfl, fun z hz => ?_, by simp; omega, rfl, rfl⟩) (fun d hd => ?_) (fun er hR => .inl ⟨?_, hR.2⟩))
  · rcases List.mem_cons.mp hz with rfl | hz
    · exact ok.nm
    · exact ok.gl z hz
  rotate_left
  · unfold chk4; rw [if_pos hR.1]
  have hn1 : ¬ (name :: gs).all isNm = false := by rw [hd.1]; decide
  refine jss_cons (js_if (JT.to (jt_not (jt_val (j_call cFo hr (ja_cons (jv 2 rfl) (ja_cons (jv 4 rfl) ja_nil)) ⟨word, ns, rfl, ok.w, ok.num, ok.nl, rfl⟩ (fun _ h => h)))) rfl) (fun h => ?_) (fun h => jss_nil ?_))
  · have hf : formB word ns = false := by simpa using h
    refine jss_cons (js_raise (jmk_own oL (ja_cons (j_fs (.cons j_str (.cons (j_fmtR (jv 2 rfl) (le_size (by omega))) .nil)) rfl ?_) ja_nil)) (.inr ⟨?_, rfl⟩))
    · unfold joinS joinS joinS
      rw [app_len, app_len]
      have a1 : (Str.empty).length + ("the numbers have not the form of the word: " : Str).length ≤ 100 := by decide +kernel
      exact le_size (by omega)
    · unfold chk4
      rw [if_neg hn1]
      unfold formB at hf
      split at hf
      · rename_i hp
        rw [if_pos hp]
        cases q : formP ns with
        | none => rfl
        | some p => rw [q] at hf; cases hf
      · rename_i hp
        rw [if_neg hp]
        cases q : leastOf word with
        | none => rfl
        | some l =>
          rw [q] at hf
          cases q2 : intsOf ns with
          | none => rfl
          | some is =>
            have e1 := ints_all q2
            have hal : ns.all isInt = true := by rw [← ints_is, q2]; rfl
            have hf' : (decide (ns.length = l.length) && ns.all isInt) = false := hf
            rw [hal, Bool.and_true] at hf'
            have hle : is.length ≠ l.length := fun e => (of_decide_eq_false hf') (by rw [e1, List.length_map, e])
            show (if is.length ≠ l.length then 2 else _) = 2
            rw [if_pos hle]
  have hf : formB word ns = true := by simpa using h
  -- the rest, by what the word is
  by_cases hp : word = "pool"
  · have hf2 : (formP ns).isSome = true := by unfold formB at hf; rw [if_pos hp] at hf; exact hf
    obtain ⟨m, ts, rfl, hfp⟩ := formP_some hf2
    have hts : ts.length ≤ 100 := by
      have := ok.num (.tup (ts.map shD)) (by simp)
      generalize hx : D.tup (ts.map shD) = dd at this
      cases this with
      | int i => cases hx
      | non => cases hx
      | shs ss hss hls => have e := congrArg (fun d : D => match d with | .tup l => l.length | _ => 0) hx; simp at e; omega
    have hsh := ok.sh m ts rfl
    have ck : chk4 name word gs [.int m, .tup (ts.map shD)] = (if (ts.map (·.1)).all isNm = false then 1 else if gs ≠ [] then 2 else if ascB (ts.map (·.1)) = false then 2 else if (inD 0 1000000 (.int m) && fitS m ts) = false then 2 else 0) := by
      unfold chk4; rw [if_neg hn1, if_pos hp, hfp]
    rw [ck]
    refine jss_cons (js_set (i := 5) (j_call cGo hr (ja_cons (jv 0 rfl) ja_nil) ⟨name, word, gs, _, rfl, .inl ⟨hp, m, ts, rfl, hts, rfl⟩⟩ (fun _ h => h)) ?_ nd)
    refine jss_cons (js_exX (jx_call cCn hr (ja_cons (jv 5 rfl) ja_nil) ⟨ts.map (·.1), rfl, fun z hz => ?_, by rw [List.length_map]; omega, rfl, rfl⟩) (fun d hd2 => ?_) (fun er hR => .inl ⟨by rw [if_pos hR.1], hR.2⟩))
    · obtain ⟨t, ht, rfl⟩ := List.mem_map.mp hz
      exact hsh t ht
    rw [if_neg (by rw [hd2.1]; decide)]
    refine jss_cons (js_if (t := decide (gs ≠ [])) (JT.to (jt_w (jw_and (t := true) (JT.to (jt_cm (jv 2 rfl) j_str cd_eqS) (decide_eq_true hp)) (fun _ => jw_and1 (jt_cm (jv 3 rfl) (j_tup ja_nil) (cd_neF 1 hr.units (d := .tup (gs.map D.str)) (e := .tup []) ?_ rfl))))) ?_) (fun h => ?_) (fun h => jss_nil ?_))
    · exact strs_fit 0 gs fun z hz => by
        have q := hd.1
        rw [List.all_eq_true] at q
        exact q z (List.mem_cons_of_mem _ hz)
    · rw [Bool.true_and]
      cases gs with
      | nil => rfl
      | cons g gs => rfl
    · exact jss_cons (js_raise (jmk_own oL (ja_cons j_str ja_nil)) (.inr ⟨by rw [if_pos (of_decide_eq_true h)], rfl⟩))
    have hg0 : gs = [] := by simpa using h
    rw [if_neg (by simpa using hg0)]
    subst hg0
    refine jss_cons (js_if (t := !ascB (ts.map (·.1))) (JT.to (jt_w (jw_or (t := false) (JT.to (jt_cm (jb_len T (ja_cons (jv 3 rfl) ja_nil) rfl) (j_gI G.mgr) cd_gtI) rfl) (fun _ => jw_or1 (jt_not (jt_val (j_call cAs hr (ja_cons (jv 5 rfl) ja_nil) ⟨ts.map (·.1), rfl, by rw [List.length_map]; omega, rfl⟩ (fun _ h => h))))))) rfl) (fun h => ?_) (fun h => jss_nil ?_))
    · have ha : ascB (ts.map (·.1)) = false := by simpa using h
      exact jss_cons (js_raise (jmk_own oL (ja_cons j_str ja_nil)) (.inr ⟨by rw [if_pos ha], rfl⟩))
    have ha : ascB (ts.map (·.1)) = true := by simpa using h
    rw [if_neg (by rw [ha]; decide)]
    refine jss_cons (js_if (JT.to (jt_not (jt_val (j_call cNf hr (ja_cons (J.to (jv 2 rfl) (show _ = D.str "pool" from by rw [← hp]; rfl)) (ja_cons (jv 4 rfl) ja_nil)) (.inl ⟨m, ts, rfl, hts, rfl⟩) (fun _ h => h)))) rfl) (fun h => ?_) (fun h => jss_nil (jss_nil ⟨?_, rfl⟩)))
    · have hb : (inD 0 1000000 (.int m) && fitS m ts) = false := by rw [Bool.not_eq_true'] at h; exact h
      refine jss_cons (js_raise (jmk_own oL (ja_cons (j_fs (.cons j_str (.cons (j_fmtS (jv 1 rfl) (le_size (by omega))) (.cons j_str .nil))) rfl ?_) ja_nil)) (.inr ⟨by rw [if_pos hb], rfl⟩))
      unfold joinS joinS joinS joinS
      rw [app_len, app_len, app_len]
      have a1 : (Str.empty).length + ("the numbers of the limit " : Str).length ≤ 100 ∧ (" are beyond their bounds" : Str).length ≤ 100 := by decide +kernel
      exact le_size (by omega)
    · have hb : (inD 0 1000000 (.int m) && fitS m ts) = true := by rw [Bool.not_eq_false'] at h; exact h
      rw [if_neg (by rw [hb]; decide)]
  · rcases ok.w with e | ⟨o, ho⟩
    · exact absurd e hp
    have lo := (least_mem ho).1
    have hfn : formN ns o = true := by unfold formB at hf; rw [if_neg hp, lo] at hf; exact hf
    cases o with
    | none => cases hfn
    | some l =>
      have hfn' : (decide (ns.length = l.length) && ns.all isInt) = true := hfn
      rw [Bool.and_eq_true, decide_eq_true_iff] at hfn'
      cases q2 : intsOf ns with
      | none => have := ints_is ns; rw [q2, hfn'.2] at this; cases this
      | some is =>
        have e1 := ints_all q2
        subst e1
        have hle : is.length = l.length := by have := hfn'.1; rwa [List.length_map] at this
        have hil := ok.nl
        rw [List.length_map] at hil
        have ck : chk4 name word gs (is.map D.int) = (if (decide (8 < gs.length) || !ascB gs) = true then 2 else if fitN l is = false then 2 else 0) := by
          unfold chk4
          rw [if_neg hn1, if_neg hp, lo, q2]
          show (if is.length ≠ l.length then 2 else _) = _
          rw [if_neg (by simpa using hle)]
        rw [ck]
        have lenG : lenD (.tup (gs.map D.str)) = some gs.length := by show some _ = _; rw [List.length_map]
        refine jss_cons (js_set (i := 5) (j_call cGo hr (ja_cons (jv 0 rfl) ja_nil) ⟨name, word, gs, _, rfl, .inr ⟨hp, rfl⟩⟩ (fun _ h => h)) ?_ nd)
        refine jss_cons (js_exX (jx_call cCn hr (ja_cons (jv 5 rfl) ja_nil) ⟨gs, rfl, ok.gl, by omega, rfl, rfl⟩) (fun d hd2 => ?_) (fun er hR => ?_))
        · refine jss_cons (js_ifF (JT.to (jt_w (jw_and (t := false) (u := false) (JT.to (jt_cm (jv 2 rfl) j_str cd_eqS) (decide_eq_false hp)) (fun z => by cases z))) rfl) (jss_nil ?_))
          refine jss_cons (js_if (t := decide (8 < gs.length) || !ascB gs) (JT.to (jt_w (jw_or (jt_cm (jb_len T (ja_cons (jv 3 rfl) ja_nil) lenG) (j_gI G.mgr) cd_gtI) (fun _ => jw_or1 (jt_not (jt_val (j_call cAs hr (ja_cons (jv 5 rfl) ja_nil) ⟨gs, rfl, hg2, rfl⟩ (fun _ h => h))))))) ?_) (fun h => ?_) (fun h => jss_nil ?_))
          · congr 1
            exact decide_eq_decide.mpr (by omega)
          · exact jss_cons (js_raise (jmk_own oL (ja_cons j_str ja_nil)) (.inr ⟨by rw [if_pos h], rfl⟩))
          rw [if_neg (by rw [h]; decide)]
          refine jss_cons (js_if (JT.to (jt_not (jt_val (j_call cNf hr (ja_cons (jv 2 rfl) (ja_cons (jv 4 rfl) ja_nil)) (.inr ⟨word, l, is, rfl, ho, hil, rfl⟩) (fun _ h => h)))) rfl) (fun h => ?_) (fun h => jss_nil (jss_nil ⟨?_, rfl⟩)))
          · have hb : fitN l is = false := by rw [Bool.not_eq_true'] at h; exact h
            refine jss_cons (js_raise (jmk_own oL (ja_cons (j_fs (.cons j_str (.cons (j_fmtS (jv 1 rfl) (le_size (by omega))) (.cons j_str .nil))) rfl ?_) ja_nil)) (.inr ⟨by rw [if_pos hb], rfl⟩))
            unfold joinS joinS joinS joinS
            rw [app_len, app_len, app_len]
            have a1 : (Str.empty).length + ("the numbers of the limit " : Str).length ≤ 100 ∧ (" are beyond their bounds" : Str).length ≤ 100 := by decide +kernel
            exact le_size (by omega)
          · have hb : fitN l is = true := by rw [Bool.not_eq_false'] at h; exact h
            rw [if_neg (by rw [hb]; decide)]
        · have : (name :: gs).all isNm = true := by rw [hd.1]
          rw [List.all_cons, hR.1, Bool.and_false] at this
          cases this
end
end Toy

namespace Toy
open PySem PyProof.Rows L2 Pf
section
variable {P : Program} {w : World} {K : PySem.W.Frag} {mg : Str → Option Value} {base : Heap}
/-! ### _law_group -/
abbrev sGrp : Stmt := top 39
theorem scGrp : FnScope ["number"] ["number"] (defScope sGrp) := ⟨rfl, rfl, rfl, by decide +kernel, rfl, by decide +kernel, by decide +kernel⟩
def grpS (n : Int) : Str := if n % 7 = 6 then cutS "abcdefghijkl" none (some (1 + n / 7 % 12)) else (["a", "b", "g1", "zz"] : List Str).getD (n / 7 % 4).toNat ""
def gGrp : List D → (D → Prop) → Prop := fun ds P => ∃ n : Int, ds = [.int n] ∧ 0 ≤ n ∧ n < 1009 ∧ P = fun d => d = .str (grpS n)
theorem grp_cut : ∀ k : Nat, k < 12 → isNm (cutS "abcdefghijkl" none (some (1 + (k : Int)))) = true := by decide +kernel
theorem grp_four : ∀ k : Nat, k < 4 → isNm ((["a", "b", "g1", "zz"] : List Str).getD k "") = true := by decide +kernel
theorem grp_nm {n : Int} (h0 : 0 ≤ n) : isNm (grpS n) = true := by
  unfold grpS
  split
  · have h := grp_cut (n / 7 % 12).toNat (by omega)
    rw [show ((n / 7 % 12).toNat : Int) = n / 7 % 12 from by omega] at h
    exact h
  · exact grp_four _ (by omega)
theorem ok_grp {f : Addr} {fd : FuncData} (F : Fun K "_law_group" "_law_group" sGrp f fd) (T : Bt mg) : FnOk P w K mg base CX0 1 f fd ["number"] (spP K 1 gGrp) := by
  refine fn_pure F scGrp (by rintro ds Pd ⟨_, rfl, _⟩; rfl) fun cdv A outer s H E ds Pd hr hG => ?_
  obtain ⟨n, rfl, h0, h1, rfl⟩ := hG
  refine jss_cons (js_if (jt_cm (j_bin (jb_int T (ja_cons (jv 0 rfl) ja_nil)) j_int (od_modI (by decide))) j_int cd_eqI) (fun h => ?_) (fun h => jss_nil ?_))
  · have h6 : n % 7 = 6 := of_decide_eq_true h
    refine jss_cons (js_ret (j_slS j_str (by decide +kernel) jo_none (jo_some (j_bin j_int (j_bin (j_bin (jb_int T (ja_cons (jv 0 rfl) ja_nil)) j_int (od_fdivI ⟨by decide, by decide⟩)) j_int (od_modI (by decide))) od_addI))) ?_)
    show D.str _ = D.str (grpS n)
    unfold grpS
    rw [if_pos h6]
  · have h6 : ¬ n % 7 = 6 := of_decide_eq_false h
    refine jss_cons (js_ret (j_ix (j_lst (ja_cons j_str (ja_cons j_str (ja_cons j_str (ja_cons j_str ja_nil))))) (j_bin (j_bin (jb_int T (ja_cons (jv 0 rfl) ja_nil)) j_int (od_fdivI ⟨by decide, by decide⟩)) j_int (od_modI (by decide))) (ixd_L (atI_getD (D.str "") (by omega) (by show n / 7 % 4 < 4; omega)))) ?_)
    show _ = D.str (grpS n)
    unfold grpS
    rw [if_neg h6]
    have hk : (n / 7 % 4).toNat < 4 := by omega
    generalize (n / 7 % 4).toNat = k at hk
    match k, hk with
    | 0, _ => rfl
    | 1, _ => rfl
    | 2, _ => rfl
    | 3, _ => rfl
theorem getD_in {ns : List Int} (hb : ∀ n ∈ ns, 0 ≤ n ∧ n < 1009) (i : Nat) : 0 ≤ ns.getD i 0 ∧ ns.getD i 0 < 1009 := by
  rw [List.getD_eq_getElem?_getD]
  cases e : ns[i]? with
  | none => exact ⟨by decide, by decide⟩
  | some n => exact hb n (List.mem_of_getElem? e)
end
end Toy

namespace Toy
open PySem PyProof.Rows L2 Pf
section
variable {P : Program} {w : World} {K : PySem.W.Frag} {mg : Str → Option Value} {base : Heap}
/-! ### _law_groups, _law_limit, at any place -/
theorem ixd_N {ns : List Int} {i : Int} (c : Nat) (h : i = (c : Int)) (hc : c < ns.length) : IxD (.lst (ns.map D.int)) (.int i) (.int (ns.getD c 0)) := by
  subst h
  exact ixd_I (by omega) (by omega)
/-! ### _law_groups, _law_limit -/
/-- it begins with a letter -/
def alB (z : Str) : Bool := decide (97 ≤ z.cps.toList.headD 0)
theorem al_cut : ∀ k : Nat, k < 12 → alB (cutS "abcdefghijkl" none (some (1 + (k : Int)))) = true := by decide +kernel
theorem al_four : ∀ k : Nat, k < 4 → alB ((["a", "b", "g1", "zz"] : List Str).getD k "") = true := by decide +kernel
theorem grp_al {n : Int} (h0 : 0 ≤ n) : alB (grpS n) = true := by
  unfold grpS
  split
  · have h := al_cut (n / 7 % 12).toNat (by omega)
    rw [show ((n / 7 % 12).toNat : Int) = n / 7 % 12 from by omega] at h
    exact h
  · exact al_four _ (by omega)
structure GoodG (gs : List Str) : Prop where
  asc : gs.Pairwise ltT
  nm : ∀ g ∈ gs, isNm g = true
  few : gs.length ≤ 3
  al : ∀ g ∈ gs, alB g = true
structure GoodT (m : Int) (ts : List (Str × Int × Int)) : Prop where
  g : GoodG (ts.map (·.1))
  pos : 1 ≤ ts.length
  ok : ∀ t ∈ ts, okS t = true
  sum : sumO ts ≤ m
  lo : 0 ≤ m
  hi : m ≤ 1000000
inductive GoodL : Str → List Str → List D → Prop
  | two {word : Str} {gs : List Str} {a b : Int} : word = "window" ∨ word = "span" ∨ word = "bucket" → GoodG gs → 0 ≤ a → a ≤ 1000000 → 1 ≤ b → b ≤ 1000000 → GoodL word gs [.int a, .int b]
  | gap {gs : List Str} {b : Int} : GoodG gs → 1 ≤ b → b ≤ 1000000 → GoodL "gap" gs [.int b]
  | held {gs : List Str} {a : Int} : GoodG gs → 0 ≤ a → a ≤ 1000000 → GoodL "held" gs [.int a]
  | pool {m : Int} {ts : List (Str × Int × Int)} : GoodT m ts → GoodL "pool" [] [.int m, .tup (ts.map shD)]
abbrev sGrs : Stmt := top 40
abbrev nGrs : List Str := ["numbers", "at", "names", "k"]
theorem scGrs : FnScope nGrs ["numbers", "at"] (defScope sGrs) := ⟨rfl, rfl, rfl, by decide +kernel, rfl, by decide +kernel, by decide +kernel⟩
def gGrs : List D → (D → Prop) → Prop := fun ds P => ∃ (ns : List Int) (a : Nat), ds = [.lst (ns.map D.int), .int (a : Int)] ∧ a + 4 ≤ ns.length ∧ (∀ n ∈ ns, 0 ≤ n ∧ n < 1009) ∧ P = fun d => ∃ gs : List Str, d = .tup (gs.map D.str) ∧ GoodG gs
theorem ok_grs {f : Addr} {fd : FuncData} (F : Fun K "_law_groups" "_law_groups" sGrs f fd) (T : Bt mg) (cG : PFn P w K mg base 1 "_law_group" 1 gGrp) : FnOk P w K mg base CX0 2 f fd ["numbers", "at"] (spP K 2 gGrs) := by
  refine fn_pure F scGrs (by rintro ds Pd ⟨_, _, rfl, _⟩; rfl) fun cdv A outer s H E0 ds Pd hr hG => ?_
  obtain ⟨ns, a, rfl, hl, hb, rfl⟩ := hG
  have nd := scGrs.nd
  have gn : ∀ i : Nat, 0 ≤ ns.getD i 0 ∧ ns.getD i 0 < 1009 := getD_in hb
  have g5 := gn a
  obtain ⟨m, hm, hm3⟩ : ∃ m : Nat, ns.getD a 0 % 4 = (m : Int) ∧ m ≤ 3 := ⟨(ns.getD a 0 % 4).toNat, by omega, by omega⟩
  refine jss_cons (js_setLcN (own := [("k", 3)]) (i := 2) (j := 3) (List.range m) (fun k => D.int (0 + (k : Nat))) (fun _ => true) (fun k => D.str (grpS (ns.getD (a + 1 + k) 0))) (ji_rangeN m T (J.to (j_bin (jb_int T (ja_cons (j_ix (jv 0 rfl) (jv 1 rfl) (ixd_N a rfl (by omega))) ja_nil)) j_int (od_modI (by decide))) (congrArg D.int hm)) rfl (by omega) (by omega)) (blkOk_by (N := nGrs) (sc := defScope sGrs) (by decide +kernel)) (fun _ _ _ _ _ => pg_name nd rfl (Or.inl rfl)) (by rw [List.length_range]; exact lt_size (by omega)) (fun k hk s H C cl fp => ⟨jts_nil, fun _ => ?_⟩) ?_ nd (by rfl))
  · have hk' := List.mem_range.mp hk
    have gk := gn (a + 1 + k)
    refine j_call cG hr (ja_cons (j_ix (jv 0 rfl) (j_bin (j_bin (jv 1 rfl) j_int od_addI) (jv 3 rfl) od_addI) (ixd_N (a + 1 + k) (by omega) (by omega))) ja_nil) ⟨_, rfl, gk.1, gk.2, rfl⟩ (fun _ h => h)
  rw [List.filter_eq_self.mpr (fun _ _ => rfl)]
  generalize hzs : (List.range m).map (fun k => grpS (ns.getD (a + 1 + k) 0)) = zs
  have hz : ∀ z ∈ zs, isNm z = true := fun z q => by
    rw [← hzs] at q
    obtain ⟨k, _, rfl⟩ := List.mem_map.mp q
    exact grp_nm (gn _).1
  have hza : ∀ z ∈ zs, alB z = true := fun z q => by
    rw [← hzs] at q
    obtain ⟨k, _, rfl⟩ := List.mem_map.mp q
    exact grp_al (gn _).1
  have hzl : zs.length ≤ 3 := by rw [← hzs, List.length_map, List.length_range]; exact hm3
  refine jss_cons (js_retP (jp_tupleL T (jp_sortedSet (xs := zs) T (J.to (jv 2 rfl) (show _ = D.lst (zs.map D.str) from by rw [← hzs, List.map_map]; rfl)) (by have : scanBound = 4096 := rfl; omega)) (by rintro _ ⟨us, rfl, _⟩; exact ⟨_, rfl⟩)) ?_)
  rintro _ ⟨ds, ⟨us, e, h1, h2, h3⟩, rfl⟩
  cases e
  exact ⟨us, rfl, h1, fun g hg => hz g ((h2 g).mp hg), by omega, fun g hg => hza g ((h2 g).mp hg)⟩
abbrev sLi : Stmt := top 41
abbrev nLi : List Str := ["numbers", "at", "name", "word", "first", "second", "shares", "most", "group", "own", "k"]
theorem scLi : FnScope nLi ["numbers", "at", "name"] (defScope sLi) := ⟨rfl, rfl, rfl, by decide +kernel, rfl, by decide +kernel, by decide +kernel⟩
def six : List Str := ["window", "span", "bucket", "gap", "held", "pool"]
/-- a limit's parts: its name, word, groups, numbers -/
abbrev Lim := Str × Str × List Str × List D
abbrev lmD (l : Lim) : D := limD l.1 l.2.1 l.2.2.1 l.2.2.2
def limOk (name : Str) (d : D) : Prop := ∃ (word : Str) (gs : List Str) (ns : List D), d = limD name word gs ns ∧ GoodL word gs ns
def gLi : List D → (D → Prop) → Prop := fun ds P => ∃ (ns : List Int) (a : Nat) (name : Str), ds = [.lst (ns.map D.int), .int (a : Int), .str name] ∧ a + 11 ≤ ns.length ∧ (∀ n ∈ ns, 0 ≤ n ∧ n < 1009) ∧ P = limOk name
theorem strs_at {hs : List Str} {i : Int} (h0 : 0 ≤ i) (h1 : i < hs.length) : atI (hs.map D.str) i = some (.str (hs.getD i.toNat "")) := by
  have hk : i.toNat < hs.length := by omega
  rw [atI_getD D.non h0 (by rw [List.length_map]; exact h1), List.getD_eq_getElem?_getD, List.getElem?_map, List.getD_eq_getElem?_getD, List.getElem?_eq_getElem hk]
  rfl
theorem fourA : ∀ k : Nat, k < 4 → 1 ≤ ([4, 12, 40, 1009] : List Int).getD k 0 ∧ ([4, 12, 40, 1009] : List Int).getD k 0 ≤ 1009 := by decide
theorem fourB : ∀ k : Nat, k < 4 → 1 ≤ ([3, 9, 30, 1009] : List Int).getD k 0 ∧ ([3, 9, 30, 1009] : List Int).getD k 0 ≤ 1009 := by decide
theorem six_cases {n : Int} : six.getD (n % 6).toNat "" ∈ six := by
  have hk : (n % 6).toNat < 6 := by omega
  rw [List.getD_eq_getElem?_getD, List.getElem?_eq_getElem (show (n % 6).toNat < six.length from hk)]
  exact List.getElem_mem _
theorem sumO_snoc (ts : List (Str × Int × Int)) (t : Str × Int × Int) : sumO (ts ++ [t]) = sumO ts + t.2.1 := by
  unfold sumO; rw [List.map_append, List.sum_append]; simp
theorem ok_li {f : Addr} {fd : FuncData} (F : Fun K "_law_limit" "_law_limit" sLi f fd) (T : Bt mg) (cG : PFn P w K mg base 1 "_law_group" 1 gGrp) (cS : PFn P w K mg base 2 "_law_groups" 2 gGrs) : FnOk P w K mg base CX0 3 f fd ["numbers", "at", "name"] (spP K 3 gLi) := by
  refine fn_pure F scLi (by rintro ds Pd ⟨_, _, _, rfl, _⟩; rfl) fun cdv A outer s H E0 ds Pd hr hG => ?_
  obtain ⟨ns, a, name, rfl, hl, hb, rfl⟩ := hG
  have nd := scLi.nd
  have gn : ∀ i : Nat, 0 ≤ ns.getD i 0 ∧ ns.getD i 0 < 1009 := getD_in hb
  have ix : ∀ c : Nat, c < 11 → IxD (.lst (ns.map D.int)) (.int ((a : Int) + (c : Int))) (.int (ns.getD (a + c) 0)) := fun c hc => ixd_N (a + c) (by omega) (by omega)
  refine jss_cons (js_set (i := 3) (j_ix (J.to (j_lst (ja_cons j_str (ja_cons j_str (ja_cons j_str (ja_cons j_str (ja_cons j_str (ja_cons j_str ja_nil))))))) (show _ = D.lst (six.map D.str) from rfl)) (j_bin (jb_int T (ja_cons (j_ix (jv 0 rfl) (jv 1 rfl) (ixd_N a rfl (by omega))) ja_nil)) j_int (od_modI (by decide))) (ixd_L (strs_at (by omega) (by show _ < (6 : Int); omega)))) ?_ nd)
  have hw := six_cases (n := ns.getD a 0)
  show JSs _ [] _ [some (.fz (.lst (ns.map D.int))), some (.fz (.int (a : Int))), some (.fz (.str name)), some (.fz (.str (six.getD (ns.getD a 0 % 6).toNat ""))), none, none, none, none, none, none, none] _
  generalize six.getD (ns.getD a 0 % 6).toNat "" = word at hw
  have gA := fourA (ns.getD (a + 2) 0 % 4).toNat (by omega)
  have gB := fourB (ns.getD (a + 4) 0 % 4).toNat (by omega)
  refine jss_cons (js_set (i := 4) (j_bin (jb_int T (ja_cons (j_ix (jv 0 rfl) (j_bin (jv 1 rfl) j_int od_addI) (ix 1 (by omega))) ja_nil)) (j_ix (j_lst (ja_cons j_int (ja_cons j_int (ja_cons j_int (ja_cons j_int ja_nil))))) (j_bin (jb_int T (ja_cons (j_ix (jv 0 rfl) (j_bin (jv 1 rfl) j_int od_addI) (ix 2 (by omega))) ja_nil)) j_int (od_modI (by decide))) (ixd_I (ns := [4, 12, 40, 1009]) (by omega) (by show _ < (4 : Int); omega))) (od_modI (by omega))) ?_ nd)
  generalize hx : ns.getD (a + 1) 0 % ([4, 12, 40, 1009] : List Int).getD (ns.getD (a + 2) 0 % 4).toNat 0 = x
  have hx0 : 0 ≤ x ∧ x ≤ 1009 := by
    subst hx
    have h1 := Int.emod_nonneg (ns.getD (a + 1) 0) (b := ([4, 12, 40, 1009] : List Int).getD (ns.getD (a + 2) 0 % 4).toNat 0) (by omega)
    have h2 := Int.emod_lt_of_pos (ns.getD (a + 1) 0) (b := ([4, 12, 40, 1009] : List Int).getD (ns.getD (a + 2) 0 % 4).toNat 0) (by omega)
    omega
  refine jss_cons (js_set (i := 5) (j_bin j_int (j_bin (jb_int T (ja_cons (j_ix (jv 0 rfl) (j_bin (jv 1 rfl) j_int od_addI) (ix 3 (by omega))) ja_nil)) (j_ix (j_lst (ja_cons j_int (ja_cons j_int (ja_cons j_int (ja_cons j_int ja_nil))))) (j_bin (jb_int T (ja_cons (j_ix (jv 0 rfl) (j_bin (jv 1 rfl) j_int od_addI) (ix 4 (by omega))) ja_nil)) j_int (od_modI (by decide))) (ixd_I (ns := [3, 9, 30, 1009]) (by omega) (by show _ < (4 : Int); omega))) (od_modI (by omega))) od_addI) ?_ nd)
  generalize hy : 1 + ns.getD (a + 3) 0 % ([3, 9, 30, 1009] : List Int).getD (ns.getD (a + 4) 0 % 4).toNat 0 = y
  have hy0 : 1 ≤ y ∧ y ≤ 1010 := by
    subst hy
    have h1 := Int.emod_nonneg (ns.getD (a + 3) 0) (b := ([3, 9, 30, 1009] : List Int).getD (ns.getD (a + 4) 0 % 4).toNat 0) (by omega)
    have h2 := Int.emod_lt_of_pos (ns.getD (a + 3) 0) (b := ([3, 9, 30, 1009] : List Int).getD (ns.getD (a + 4) 0 % 4).toNat 0) (by omega)
    omega
  refine jss_cons (js_if (jt_cm (jv 3 rfl) j_str cd_eqS) (fun h => ?_) (fun h => jss_nil ?_))
  · have e := of_decide_eq_true h
    refine jss_cons (js_retP (jp_tup (jap_cons (jv 2 rfl) (jap_cons (jv 3 rfl) (jap_p (jp_call cS hr (ja_cons (jv 0 rfl) (ja_cons (J.to (j_bin (jv 1 rfl) j_int od_addI) (congrArg D.int (show (a : Int) + 5 = ((a + 5 : Nat) : Int) from by omega))) ja_nil)) ⟨ns, a + 5, rfl, by omega, hb, rfl⟩) (ja_cons (j_tup (ja_cons (jv 5 rfl) ja_nil)) ja_nil)))) ?_) ?_)
    · rintro _ ⟨_, ⟨_, ⟨_, _, rfl⟩, rfl⟩, rfl⟩; exact le_size (by simp)
    · rintro _ ⟨_, ⟨_, ⟨_, ⟨_, ⟨gs, rfl, hg⟩, rfl⟩, rfl⟩, rfl⟩, rfl⟩
      exact ⟨_, gs, [.int y], rfl, by rw [e]; exact .gap hg hy0.1 (by omega)⟩
  have n1 : word ≠ "gap" := of_decide_eq_false h
  refine jss_cons (js_if (jt_cm (jv 3 rfl) j_str cd_eqS) (fun h => ?_) (fun h => jss_nil ?_))
  · have e := of_decide_eq_true h
    refine jss_cons (js_retP (jp_tup (jap_cons (jv 2 rfl) (jap_cons (jv 3 rfl) (jap_p (jp_call cS hr (ja_cons (jv 0 rfl) (ja_cons (J.to (j_bin (jv 1 rfl) j_int od_addI) (congrArg D.int (show (a : Int) + 5 = ((a + 5 : Nat) : Int) from by omega))) ja_nil)) ⟨ns, a + 5, rfl, by omega, hb, rfl⟩) (ja_cons (j_tup (ja_cons (jv 4 rfl) ja_nil)) ja_nil)))) ?_) ?_)
    · rintro _ ⟨_, ⟨_, ⟨_, _, rfl⟩, rfl⟩, rfl⟩; exact le_size (by simp)
    · rintro _ ⟨_, ⟨_, ⟨_, ⟨_, ⟨gs, rfl, hg⟩, rfl⟩, rfl⟩, rfl⟩, rfl⟩
      exact ⟨_, gs, [.int x], rfl, by rw [e]; exact .held hg hx0.1 (by omega)⟩
  have n2 : word ≠ "held" := of_decide_eq_false h
  refine jss_cons (js_if (jt_cm (jv 3 rfl) j_str cd_eqS) (fun h => ?_) (fun h => jss_nil ?_))
  · have e := of_decide_eq_true h
    refine jss_cons (js_setN (i := 6) (jn_lst ja_nil) ?_ nd)
    refine jss_cons (js_set (i := 7) (jv 4 rfl) ?_ nd)
    have g10 := gn (a + 10)
    obtain ⟨m, hm, hm3⟩ : ∃ m : Nat, 1 + ns.getD (a + 10) 0 % 3 = (m : Int) ∧ 1 ≤ m ∧ m ≤ 3 := ⟨(1 + ns.getD (a + 10) 0 % 3).toNat, by omega, by omega, by omega⟩
    have zsOk : ∀ us : List Str, us.Pairwise ltT → (∀ z, z ∈ us ↔ z ∈ (List.range m).map fun k => grpS (ns.getD (a + 5 + k) 0)) → us.length ≤ m → GoodG us ∧ 1 ≤ us.length := fun us h1 h2 h3 => by
      have al : ∀ z ∈ us, alB z = true := fun z hz => by
        obtain ⟨k, _, rfl⟩ := List.mem_map.mp ((h2 z).mp hz)
        exact grp_al (gn _).1
      refine ⟨⟨h1, fun z hz => ?_, by omega, al⟩, List.length_pos_of_mem ((h2 (grpS (ns.getD (a + 5 + 0) 0))).mpr (List.mem_map.mpr ⟨0, List.mem_range.mpr (by omega), rfl⟩))⟩
      obtain ⟨k, _, rfl⟩ := List.mem_map.mp ((h2 z).mp hz)
      exact grp_nm (gn _).1
    refine jss_cons (js_forP (pat := .nm 8) (Pd := fun ds => ∃ us : List Str, ds = us.map D.str ∧ GoodG us ∧ 1 ≤ us.length)
      (fun ds j ρ => ∃ (us : List Str) (ts : List (Str × Int × Int)) (o8 o9 : Option SV), ds = us.map D.str ∧ ρ = [some (.fz (.lst (ns.map D.int))), some (.fz (.int (a : Int))), some (.fz (.str name)), some (.fz (.str word)), some (.fz (.int x)), some (.fz (.int y)), some (.ow (.lst (ts.map shD))), some (.fz (.int (x + sumO ts))), o8, o9, none] ∧ ts.map (·.1) = us.take j ∧ (∀ t ∈ ts, okS t = true ∧ t.2.1 ≤ 3))
      (jip_call (jp_sortedSet (xs := (List.range m).map fun k => grpS (ns.getD (a + 5 + k) 0)) T (J.to (j_lcM (own := [("k", 10)]) (i := 10) (List.range m) (fun k => D.int (0 + (k : Nat))) (fun k => D.str (grpS (ns.getD (a + 5 + k) 0))) (ji_rangeN m T (J.to (j_bin j_int (j_bin (jb_int T (ja_cons (j_ix (jv 0 rfl) (j_bin (jv 1 rfl) j_int od_addI) (ix 10 (by omega))) ja_nil)) j_int (od_modI (by decide))) od_addI) (congrArg D.int hm)) rfl (by omega) (by omega)) (blkOk_by (N := nLi) (sc := defScope sLi) (by decide +kernel)) (fun _ _ _ _ _ => pg_name nd rfl (Or.inl rfl)) (by rw [List.length_range]; exact lt_size (by omega)) (fun k hk s H C cl fp => ?_) nd) (by rw [List.map_map]; rfl)) (by have : scanBound = 4096 := rfl; rw [List.length_map, List.length_range]; omega)) ?_) (pg_name nd rfl (Or.inl rfl)) ?_ ?_ ?_ PassesOwn.never)
    · have hk' := List.mem_range.mp hk
      have gk := gn (a + 5 + k)
      refine j_call cG hr (ja_cons (j_ix (jv 0 rfl) (j_bin (j_bin (jv 1 rfl) j_int od_addI) (jv 10 rfl) od_addI) (ixd_N (a + 5 + k) (by omega) (by omega))) ja_nil) ⟨_, rfl, gk.1, gk.2, rfl⟩ (fun _ h => h)
    · rintro _ ⟨us, rfl, h1, h2, h3⟩
      rw [List.length_map, List.length_range] at h3
      exact ⟨_, rfl, us, rfl, zsOk us h1 h2 h3⟩
    · rintro ds ⟨us, rfl, hu, hu1⟩
      exact ⟨us, [], _, _, rfl, by rw [show x + sumO [] = x from by unfold sumO; simp]; rfl, rfl, by simp⟩
    · rintro ds ⟨us0, rfl, hu, hu1⟩ j d ρ hd ⟨us, ts, o8, o9, hus, rfl, hts, hok⟩
      have hinj : us = us0 := by
        have : Function.Injective D.str := fun a b h => by cases h; rfl
        exact (List.map_inj_right (fun a b h => by cases h; rfl)).mp hus.symm
      subst hinj
      rw [List.getElem?_map] at hd
      cases q : us[j]? with
      | none => rw [q] at hd; cases hd
      | some z =>
        rw [q] at hd; cases hd
        refine ⟨_, rfl, ?_⟩
        have hj : j < us.length := (List.getElem?_eq_some_iff.mp q).1
        have hf := hu.few
        have htl : ts.length = j := by
          have := congrArg List.length hts
          rw [List.length_map, List.length_take] at this
          omega
        have g8 := gn (a + 8 + j)
        have g5' := gn (a + 5 + j)
        have g6' := gn (a + 5 + (j + 1))
        have lenS : lenD (.lst (ts.map shD)) = some j := by show some _ = _; rw [List.length_map, htl]
        have ixj : ∀ c : Nat, c + j < 11 → IxD (.lst (ns.map D.int)) (.int ((a : Int) + (c : Int) + (j : Int))) (.int (ns.getD (a + c + j) 0)) := fun c hc => ixd_N (a + c + j) (by omega) (by omega)
        refine jss_cons (js_setS (i := 9) (j_bin (jb_int T (ja_cons (j_ix (jv 0 rfl) (j_bin (j_bin (jv 1 rfl) j_int od_addI) (jb_len T (ja_cons (jv 6 rfl) ja_nil) lenS) od_addI) (ixj 8 (by omega))) ja_nil)) j_int (od_modI (by decide))) rfl ?_ nd)
        refine jss_cons (js_appendT (i := 6) (ds := ts.map shD) rfl ((ja_cons (jv 8 rfl) (ja_cons (jv 9 rfl) (ja_cons (j_bin (jv 9 rfl) (j_bin (jb_int T (ja_cons (j_ix (jv 0 rfl) (j_bin (j_bin (jv 1 rfl) j_int od_addI) (jb_len T (ja_cons (jv 6 rfl) ja_nil) lenS) od_addI) (ixj 5 (by omega))) ja_nil)) j_int (od_modI (by decide))) od_addI) ja_nil)))) rfl (le_size (by simp)) (by rw [List.length_map]; exact lt_size (by omega)) ?_)
        refine jss_cons (js_set (i := 7) (j_bin (jv 7 rfl) (jv 9 rfl) od_addI) (jss_nil ⟨us, ts ++ [(z, ns.getD (a + 8 + j) 0 % 4, ns.getD (a + 8 + j) 0 % 4 + ns.getD (a + 5 + j) 0 % 9)], some (.fz (.str z)), some (.fz (.int (ns.getD (a + 8 + j) 0 % 4))), rfl, ?_, ?_, ?_⟩) nd)
        · rw [sumO_snoc, List.map_append]
          rw [← Int.add_assoc]
          rfl
        · rw [List.map_append, hts, List.take_add_one, q]; rfl
        · intro t ht
          rcases List.mem_append.mp ht with ht | ht
          · exact hok t ht
          · rw [List.mem_singleton] at ht
            subst ht
            refine ⟨?_, by show ns.getD (a + 8 + j) 0 % 4 ≤ 3; omega⟩
            unfold okS
            simp only [Bool.and_eq_true, decide_eq_true_eq]
            omega
    · rintro ds ⟨us0, rfl, hu, hu1⟩ ρ ⟨us, ts, o8, o9, hus, rfl, hts, hok⟩
      have hinj : us = us0 := (List.map_inj_right (fun a b h => by cases h; rfl)).mp hus.symm
      subst hinj
      rw [List.length_map, List.take_length] at hts
      have htl : ts.length = us.length := by rw [← hts, List.length_map]
      have hf := hu.few
      have hsum : 0 ≤ sumO ts ∧ sumO ts ≤ 3 * ts.length := by
        have key : ∀ l : List (Str × Int × Int), (∀ t ∈ l, okS t = true ∧ t.2.1 ≤ 3) → 0 ≤ sumO l ∧ sumO l ≤ 3 * l.length := by
          intro l
          induction l with
          | nil => intro _; unfold sumO; simp
          | cons t l ih =>
            intro h
            have h1 := ih fun t ht => h t (List.mem_cons_of_mem _ ht)
            obtain ⟨h2, h3⟩ := h t (by simp)
            unfold okS at h2
            simp only [Bool.and_eq_true, decide_eq_true_eq] at h2
            unfold sumO at h1 ⊢
            rw [List.map_cons, List.sum_cons, List.length_cons]
            omega
        exact key ts hok
      refine jss_cons (js_ret (j_tup (ja_cons (jv 2 rfl) (ja_cons (jv 3 rfl) (ja_cons (j_tup ja_nil) (ja_cons (j_tup (ja_cons (jv 7 rfl) (ja_cons (jb_tupleL T (ja_cons (jv 6 rfl) ja_nil)) ja_nil))) ja_nil))))) ⟨_, [], [.int (x + sumO ts), .tup (ts.map shD)], rfl, ?_⟩)
      rw [e]
      exact .pool ⟨by rw [hts]; exact hu, by omega, fun t ht => (hok t ht).1, by omega, by omega, by omega⟩
  have n3 : word ≠ "pool" := of_decide_eq_false h
  refine jss_cons (js_retP (jp_tup (jap_cons (jv 2 rfl) (jap_cons (jv 3 rfl) (jap_p (jp_call cS hr (ja_cons (jv 0 rfl) (ja_cons (J.to (j_bin (jv 1 rfl) j_int od_addI) (congrArg D.int (show (a : Int) + 5 = ((a + 5 : Nat) : Int) from by omega))) ja_nil)) ⟨ns, a + 5, rfl, by omega, hb, rfl⟩) (ja_cons (j_tup (ja_cons (jv 4 rfl) (ja_cons (jv 5 rfl) ja_nil))) ja_nil)))) ?_) ?_)
  · rintro _ ⟨_, ⟨_, ⟨_, _, rfl⟩, rfl⟩, rfl⟩; exact le_size (by simp)
  · rintro _ ⟨_, ⟨_, ⟨_, ⟨_, ⟨gs, rfl, hg⟩, rfl⟩, rfl⟩, rfl⟩, rfl⟩
    refine ⟨_, gs, [.int x, .int y], rfl, .two ?_ hg hx0.1 (by omega) hy0.1 (by omega)⟩
    simp only [six, List.mem_cons, List.not_mem_nil, or_false] at hw
    rcases hw with h | h | h | h | h | h
    · exact .inl h
    · exact .inr (.inl h)
    · exact .inr (.inr h)
    · exact absurd h n1
    · exact absurd h n2
    · exact absurd h n3
end
end Toy

namespace Toy
open PySem PyProof.Rows L2 Pf
section
variable {P : Program} {w : World} {K : PySem.W.Frag} {mg : Str → Option Value} {base : Heap}
/-! ### good limits are limits -/
theorem nmH {z : Str} (h : isNm z = true) : OkH z := by
  refine ⟨?_, fun q => by rw [h] at q; cases q⟩
  unfold isNm at h
  have q := (Bool.and_eq_true_iff.mp h).1
  simp only [Bool.and_eq_true, decide_eq_true_eq] at q
  omega
theorem word_repr {z : Str} {o : Option (List Int)} (h : (z, o) ∈ leastT) : (reprText z).length ≤ 1000 := by
  simp only [leastT, List.mem_cons, List.not_mem_nil, or_false, Prod.mk.injEq] at h
  rcases h with ⟨rfl, _⟩ | ⟨rfl, _⟩ | ⟨rfl, _⟩ | ⟨rfl, _⟩ | ⟨rfl, _⟩ | ⟨rfl, _⟩ | ⟨rfl, _⟩ | ⟨rfl, _⟩ | ⟨rfl, _⟩ | ⟨rfl, _⟩ | ⟨rfl, _⟩ | ⟨rfl, _⟩ | ⟨rfl, _⟩ <;> decide +kernel
theorem pool_repr : (reprText "pool").length ≤ 1000 := by decide +kernel
theorem ascB_of {gs : List Str} (h : gs.Pairwise ltT) : ascB gs = true := by
  unfold ascB
  induction gs with
  | nil => rfl
  | cons a r ih =>
    cases r with
    | nil => rfl
    | cons b r =>
      have h2 := List.pairwise_cons.mp h
      show (decide (a.cps.toList < b.cps.toList) && ((b :: r).zip r).all _) = true
      have e := ih h2.2
      rw [show ((b :: r).zip ((b :: r).drop 1)) = (b :: r).zip r from rfl] at e
      rw [e, Bool.and_true]
      exact decide_eq_true (h2.1 b (by simp))
theorem chkN {name word : Str} {gs : List Str} {l is : List Int} (hn : isNm name = true) (hg : gs.all isNm = true) (hw : (word, some l) ∈ leastT) : chk4 name word gs (is.map D.int) = if is.length ≠ l.length then 2 else if (decide (8 < gs.length) || !ascB gs) = true then 2 else if fitN l is = false then 2 else 0 := by
  obtain ⟨lo, hp⟩ := least_mem hw
  have e : intsOf (is.map D.int) = some is := by
    have : ∀ l : List Int, intsOf (l.map D.int) = some l := by
      intro l
      induction l with
      | nil => rfl
      | cons i l ih => show (intsOf (l.map D.int)).map (i :: ·) = _; rw [ih]; rfl
    exact this is
  unfold chk4
  rw [if_neg (by rw [List.all_cons, hn, hg]; decide), if_neg hp, lo, e]
theorem chkP {name : Str} {m : Int} {ts : List (Str × Int × Int)} (hn : isNm name = true) : chk4 name "pool" [] [.int m, .tup (ts.map shD)] = if (ts.map (·.1)).all isNm = false then 1 else if ascB (ts.map (·.1)) = false then 2 else if (inD 0 1000000 (.int m) && fitS m ts) = false then 2 else 0 := by
  have e : formP [.int m, .tup (ts.map shD)] = some (m, ts) := by
    have : ∀ l : List (Str × Int × Int), shAll (l.map shD) = some l := by
      intro l
      induction l with
      | nil => rfl
      | cons t l ih => show (match sh1 (shD t), shAll (l.map shD) with | some a, some b => some (a :: b) | _, _ => none) = _; rw [ih]; rfl
    show (shAll (ts.map shD)).map (fun ts => (m, ts)) = _
    rw [this]; rfl
  unfold chk4
  rw [if_neg (by rw [List.all_cons, hn]; decide), if_pos rfl, e]
  show (if (ts.map (·.1)).all isNm = false then 1 else if ([] : List Str) ≠ [] then 2 else _) = _
  rw [if_neg (show ¬ ([] : List Str) ≠ [] by simp)]
theorem okl_N {name word : Str} {gs : List Str} {is : List Int} {o : Option (List Int)} (hw : (word, o) ∈ leastT) (hn : OkH name) (hg : ∀ g ∈ gs, OkH g) (h2 : gs.length ≤ 100) (hi : is.length ≤ 100) : OkL name word gs (is.map D.int) :=
  ⟨.inr ⟨o, hw⟩, word_repr hw, hn, hg, h2, fun d hd => by obtain ⟨i, _, rfl⟩ := List.mem_map.mp hd; exact .int i, by rw [List.length_map]; exact hi, fun m ts e => by
    match is, e with
    | [a, b], e => simp at e⟩
theorem nms_of {gs : List Str} (h : ∀ g ∈ gs, isNm g = true) : gs.all isNm = true ∧ ∀ g ∈ gs, OkH g := ⟨List.all_eq_true.mpr h, fun g hg => nmH (h g hg)⟩
structure GoodN (word : Str) (gs : List Str) (l is : List Int) : Prop where
  w : (word, some l) ∈ leastT
  g : GoodG gs
  sh : (∃ p a, l = [p] ∧ is = [a]) ∨ ∃ p q a b, l = [p, q] ∧ is = [a, b]
  lo : ∀ p ∈ l, 0 ≤ p ∧ p ≤ 1
  fit : fitN l is = true
theorem goodN_of {word : Str} {gs : List Str} {ns : List D} (h : GoodL word gs ns) (hp : word ≠ "pool") : ∃ l is, ns = is.map D.int ∧ GoodN word gs l is := by
  have f1 : ∀ {p a : Int}, p ≤ a → a ≤ 1000000 → fitN [p] [a] = true := fun h1 h2 => by simp [fitN, h1, h2]
  cases h with
  | @two _ _ a b hw hg ha ha2 hb hb2 =>
    have f2 : fitN [0, 1] [a, b] = true := by simp [fitN, ha, ha2, hb, hb2]
    refine ⟨[0, 1], [a, b], rfl, ?_, hg, .inr ⟨_, _, _, _, rfl, rfl⟩, by simp, f2⟩
    rcases hw with rfl | rfl | rfl <;> simp [leastT]
  | @gap _ b hg hb hb2 => exact ⟨[1], [b], rfl, by simp [leastT], hg, .inl ⟨_, _, rfl, rfl⟩, by simp, f1 hb hb2⟩
  | @held _ a hg ha ha2 => exact ⟨[0], [a], rfl, by simp [leastT], hg, .inl ⟨_, _, rfl, rfl⟩, by simp, f1 ha ha2⟩
  | pool _ => exact absurd rfl hp
theorem GoodN.len {word : Str} {gs : List Str} {l is : List Int} (h : GoodN word gs l is) : is.length = l.length ∧ 1 ≤ l.length ∧ l.length ≤ 2 := by
  rcases h.sh with ⟨p, a, rfl, rfl⟩ | ⟨p, q, a, b, rfl, rfl⟩ <;> simp
theorem codeN {gs : List Str} {l js : List Int} (h1 : js.length = l.length) (h2 : gs.length ≤ 8) (h3 : ascB gs = true) : (if js.length ≠ l.length then 2 else if (decide (8 < gs.length) || !ascB gs) = true then 2 else if fitN l js = false then 2 else 0) = if fitN l js = true then 0 else 2 := by
  rw [if_neg (by simpa using h1), if_neg (by rw [h3, decide_eq_false (by omega)]; decide)]
  cases fitN l js <;> rfl
abbrev shL (t : Str × Int × Int) : List D := [.str t.1, .int t.2.1, .int t.2.2]
theorem numT {m : Int} {ts : List (Str × Int × Int)} (g : GoodT m ts) : NumD (.tup (ts.map shD)) := by
  have e : ts.map shD = (ts.map shL).map D.tup := by rw [List.map_map]; rfl
  rw [e]
  refine .shs _ (fun s hs => ?_) (by have := g.g.few; rw [List.length_map] at this ⊢; omega)
  obtain ⟨t, ht, rfl⟩ := List.mem_map.mp hs
  have := (nmH (g.g.nm t.1 (List.mem_map.mpr ⟨t, ht, rfl⟩))).1
  show (decide (t.1.length ≤ 2000) && (true && (true && true))) = true
  rw [decide_eq_true (by omega)]; rfl
theorem shD_inj {ts ts' : List (Str × Int × Int)} (h : ts.map shD = ts'.map shD) : ts = ts' := by
  refine (List.map_inj_right (fun a b e => ?_)).mp h
  have e1 : [D.str a.1, .int a.2.1, .int a.2.2] = [.str b.1, .int b.2.1, .int b.2.2] := by injection e
  simp only [List.cons.injEq, D.str.injEq, D.int.injEq, and_true] at e1
  obtain ⟨a1, a2, a3⟩ := a
  obtain ⟨b1, b2, b3⟩ := b
  simp only at e1
  obtain ⟨rfl, rfl, rfl⟩ := e1
  rfl
theorem okG {word : Str} {gs : List Str} {ns : List D} (h : GoodL word gs ns) : (∀ g ∈ gs, OkH g) ∧ gs.all isNm = true ∧ gs.length ≤ 3 ∧ (∀ d ∈ ns, NumD d) ∧ ns.length ≤ 100 ∧ ∀ (m : Int) (ts : List (Str × Int × Int)), ns = [.int m, .tup (ts.map shD)] → ∀ t ∈ ts, OkH t.1 := by
  have gg : ∀ {gs : List Str}, GoodG gs → (∀ g ∈ gs, OkH g) ∧ gs.all isNm = true ∧ gs.length ≤ 3 := fun g => ⟨(nms_of g.nm).2, (nms_of g.nm).1, g.few⟩
  cases h with
  | two hw hg _ _ _ _ =>
    obtain ⟨a, b, c⟩ := gg hg
    refine ⟨a, b, c, fun d hd => ?_, by simp, fun m ts e => by simp at e⟩
    simp only [List.mem_cons, List.not_mem_nil, or_false] at hd
    rcases hd with rfl | rfl <;> exact .int _
  | gap hg _ _ =>
    obtain ⟨a, b, c⟩ := gg hg
    exact ⟨a, b, c, fun d hd => by rw [List.mem_singleton] at hd; subst hd; exact .int _, by simp, fun m ts e => by simp at e⟩
  | held hg _ _ =>
    obtain ⟨a, b, c⟩ := gg hg
    exact ⟨a, b, c, fun d hd => by rw [List.mem_singleton] at hd; subst hd; exact .int _, by simp, fun m ts e => by simp at e⟩
  | @pool m ts g =>
    refine ⟨by simp, rfl, by simp, fun d hd => ?_, by simp, fun m' ts' e t ht => ?_⟩
    · simp only [List.mem_cons, List.not_mem_nil, or_false] at hd
      rcases hd with rfl | rfl
      · exact .int m
      · exact numT g
    · have e1 : D.tup (ts.map shD) = D.tup (ts'.map shD) := (List.cons.inj (List.cons.inj e).2).1
      have e2 : ts.map shD = ts'.map shD := by injection e1
      rw [← shD_inj e2] at ht
      exact nmH (g.g.nm _ (List.mem_map.mpr ⟨t, ht, rfl⟩))
theorem okl_G {nm word word' : Str} {gs : List Str} {ns : List D} (h : GoodL word gs ns) (hn : OkH nm) (hw : okWord word') (hr : (reprText word').length ≤ 1000) : OkL nm word' gs ns := by
  obtain ⟨a, b, c, d, e, f⟩ := okG h
  exact ⟨hw, hr, hn, a, by omega, d, e, f⟩
theorem chk0 {nm word : Str} {gs : List Str} {ns : List D} (h : GoodL word gs ns) (hn : isNm nm = true) : chk4 nm word gs ns = 0 := by
  by_cases hp : word = "pool"
  · subst hp
    cases h with
    | two hw _ _ _ _ _ => rcases hw with e | e | e <;> exact absurd e (by decide +kernel)
    | @pool m ts g =>
      have aT : (ts.map (·.1)).all isNm = true := List.all_eq_true.mpr g.g.nm
      have few := g.g.few
      rw [List.length_map] at few
      have pos := g.pos
      have sm := g.sum
      have lo := g.lo
      have hi := g.hi
      rw [chkP hn, if_neg (by rw [aT]; decide), if_neg (by rw [ascB_of g.g.asc]; decide), if_neg]
      unfold fitS
      rw [show ts.all okS = true from List.all_eq_true.mpr g.ok]
      show ¬ ((decide (0 ≤ m) && decide (m ≤ 1000000)) && ((decide (1 ≤ ts.length) && decide (ts.length ≤ 8)) && (true && decide (sumO ts ≤ m)))) = false
      rw [decide_eq_true lo, decide_eq_true hi, decide_eq_true pos, decide_eq_true (by omega), decide_eq_true sm]; decide
  · obtain ⟨l, is, rfl, g⟩ := goodN_of h hp
    rw [chkN hn (nms_of g.g.nm).1 g.w]
    exact (codeN g.len.1 (by have := g.g.few; omega) (ascB_of g.g.asc)).trans (by rw [g.fit]; rfl)
theorem goodW {word : Str} {gs : List Str} {ns : List D} (h : GoodL word gs ns) : okWord word ∧ (reprText word).length ≤ 1000 ∧ PySem.PyData.strOk word = true ∧ word.length ≤ 10 := by
  cases h with
  | two hw _ _ _ _ _ =>
    rcases hw with rfl | rfl | rfl
    · exact ⟨.inr ⟨some [0, 1], by simp [leastT]⟩, by decide +kernel, by decide +kernel, by decide +kernel⟩
    · exact ⟨.inr ⟨some [0, 1], by simp [leastT]⟩, by decide +kernel, by decide +kernel, by decide +kernel⟩
    · exact ⟨.inr ⟨some [0, 1], by simp [leastT]⟩, by decide +kernel, by decide +kernel, by decide +kernel⟩
  | gap _ _ _ => exact ⟨.inr ⟨some [1], by simp [leastT]⟩, by decide +kernel, by decide +kernel, by decide +kernel⟩
  | held _ _ _ => exact ⟨.inr ⟨some [0], by simp [leastT]⟩, by decide +kernel, by decide +kernel, by decide +kernel⟩
  | pool _ => exact ⟨.inl rfl, by decide +kernel, by decide +kernel, by decide +kernel⟩
structure GoodLm (l : Lim) : Prop where
  nm : isNm l.1 = true
  g : GoodL l.2.1 l.2.2.1 l.2.2.2
theorem GoodLm.okl {l : Lim} (h : GoodLm l) : OkL l.1 l.2.1 l.2.2.1 l.2.2.2 := okl_G h.g (nmH h.nm) (goodW h.g).1 (goodW h.g).2.1
theorem GoodLm.chk {l : Lim} (h : GoodLm l) : chk4 l.1 l.2.1 l.2.2.1 l.2.2.2 = 0 := chk0 h.g h.nm
theorem fitSh {ts : List (Str × Int × Int)} (h : ∀ t ∈ ts, isNm t.1 = true) (n : Nat) : fitAllD (n + 1) (ts.map shD) = true := by
  induction ts with
  | nil => rfl
  | cons t ts ih =>
    show ((PySem.PyData.strOk t.1 && (true && (true && true))) && fitAllD (n + 1) (ts.map shD)) = true
    rw [nmS_fit (h t (by simp)), ih fun y hy => h y (by simp [hy])]; rfl
theorem fitNs {word : Str} {gs : List Str} {ns : List D} (h : GoodL word gs ns) (n : Nat) : fitAllD (n + 2) ns = true := by
  cases h with
  | two _ _ _ _ _ _ => rfl
  | gap _ _ _ => rfl
  | held _ _ _ => rfl
  | pool g =>
    show (true && (fitAllD (n + 1) _ && true)) = true
    rw [fitSh (fun t ht => g.g.nm _ (List.mem_map.mpr ⟨t, ht, rfl⟩))]; rfl
theorem GoodLm.fit {l : Lim} (h : GoodLm l) : fitD 5 (lmD l) = true := by
  show (PySem.PyData.strOk l.1 && (PySem.PyData.strOk l.2.1 && (fitAllD 3 (l.2.2.1.map D.str) && (fitAllD 3 l.2.2.2 && true)))) = true
  rw [nmS_fit h.nm, (goodW h.g).2.2.1, strs_fit 3 _ (List.all_eq_true.mp (okG h.g).2.1), fitNs h.g 1]; rfl
theorem fitLms {ls : List Lim} (h : ∀ l ∈ ls, GoodLm l) : fitAllD 5 (ls.map lmD) = true := by
  induction ls with
  | nil => rfl
  | cons l ls ih =>
    show (fitD 5 (lmD l) && fitAllD 5 (ls.map lmD)) = true
    rw [(h l (by simp)).fit, ih fun y hy => h y (by simp [hy])]; rfl
def lmT (l : Lim) : Str × List D := (l.1, [.str l.2.1, .tup (l.2.2.1.map D.str), .tup l.2.2.2])
def unT (q : Str × List D) : Lim := match q with
  | (z, [.str wd, .tup gs, .tup ns]) => (z, wd, gs.map (fun d => match d with | .str g => g | _ => ""), ns)
  | (z, _) => (z, "", [], [])
theorem unT_lmT (l : Lim) : unT (lmT l) = l := by
  obtain ⟨a, b, c, d⟩ := l
  show (a, b, (c.map D.str).map _, d) = _
  rw [List.map_map]
  congr 3
  exact List.map_id' c
theorem lmD_inj {l m : Lim} (h : lmD l = lmD m) : l = m := by
  have e : lmT l = lmT m := by
    injection h with h
    injection h with h1 h2
    injection h1 with h1
    unfold lmT
    rw [h1, h2]
  rw [← unT_lmT l, ← unT_lmT m, e]
theorem map_tup {ls : List Lim} : (ls.map lmT).map tupN = ls.map lmD := by rw [List.map_map]; rfl
theorem untup {qs : List (Str × List D)} {ls : List Lim} (h : qs.Perm (ls.map lmT)) : ∃ ms : List Lim, ms.Perm ls ∧ qs = ms.map lmT := perm_lift h rfl
end
end Toy

namespace Toy
open PySem PyProof.Rows L2 Pf
section
variable {P : Program} {w : World} {K : PySem.W.Frag} {mg : Str → Option Value} {base : Heap}
theorem formP_sh (m : Int) (ts : List (Str × Int × Int)) : formP [.int m, .tup (ts.map shD)] = some (m, ts) := by
  have : ∀ l : List (Str × Int × Int), shAll (l.map shD) = some l := by
    intro l
    induction l with
    | nil => rfl
    | cons t l ih => show (match sh1 (shD t), shAll (l.map shD) with | some a, some b => some (a :: b) | _, _ => none) = _; rw [ih]; rfl
  show (shAll (ts.map shD)).map (fun ts => (m, ts)) = _
  rw [this]; rfl
theorem pool_of {word : Str} {gs : List Str} {ns : List D} (h : GoodL word gs ns) (hp : word = "pool") : gs = [] ∧ ∃ m ts, ns = [.int m, .tup (ts.map shD)] ∧ GoodT m ts := by
  cases h with
  | two hw _ _ _ _ _ => subst hp; rcases hw with e | e | e <;> exact absurd e (by decide +kernel)
  | gap _ _ _ => exact absurd hp (by decide +kernel)
  | held _ _ _ => exact absurd hp (by decide +kernel)
  | @pool m ts g => exact ⟨rfl, m, ts, rfl, g⟩
/-! ### Book -/
structure Bk (K : PySem.W.Frag) (mg : Str → Option Value) (C : Addr) : Prop where
  cl : Cls K C
  n0 : NoAttr K C "_limits"
  mgC : mg "Book" = some (.ref C)
  ml : ∃ t, mg "MOST_LIMITS" = some (.int 8 t)
abbrev bkD (C : Addr) (ls : List Lim) : D := .ins C [("_limits", .lst (ls.map lmD))]
theorem lkL {v : D} : List.lookup ("_limits" : Str) [(("_limits" : Str), v)] = some v := by
  rw [List.lookup_cons, show (("_limits" : Str) == "_limits") = true by decide +kernel]
theorem lkN {m : Str} {v : D} (h : (m == ("_limits" : Str)) = false := by decide +kernel) : List.lookup m [(("_limits" : Str), v)] = none := by
  rw [List.lookup_cons, h]; rfl
/-- what a book of limits holds: they, in order -/
structure BkOf (ms : List Lim) (ls : List Lim) : Prop where
  pm : ms.Perm ls
  asc : (ms.map (·.1)).Pairwise ltT
abbrev sInit : Stmt := inClass (top 24) 0
theorem scInit : FnScope ["self", "limits", "limit"] ["self", "limits"] (defScope sInit) := ⟨rfl, rfl, rfl, by decide +kernel, rfl, by decide +kernel, by decide +kernel⟩
def gInit (C : Addr) : D → List D → (D → D → Prop) → Prop := fun d ds P => ∃ ls : List Lim, d = .ins C [] ∧ ds = [.lst (ls.map lmD)] ∧ (∀ l ∈ ls, GoodLm l) ∧ (ls.map (·.1)).Nodup ∧ 1 ≤ ls.length ∧ ls.length ≤ 8 ∧ P = fun r d' => r = .non ∧ ∃ ms, BkOf ms ls ∧ d' = bkD C ms
theorem scanE : scanBound = 4096 := rfl
theorem ok_init {C N L : Addr} {f : Addr} {fd : FuncData} (F : Fun K "__init__" "Book.__init__" sInit f fd) (T : Bt mg) (X : Bk K mg C) (cCl : EFn P w K mg base 3 "check_limit" 1 (gCl N L)) : FnOk P w K mg base CX0 4 f fd ["self", "limits"] (spM K 2 (gInit C)) := by
  refine fn_meth F scInit (by rintro d ds Pd ⟨_, _, rfl, _⟩; rfl) fun cdv A outer s H E d ds Pd hr hG => ?_
  obtain ⟨ls, rfl, rfl, hg, hn, h1, h8, rfl⟩ := hG
  have nd := scInit.nd
  have lenL : lenD (.lst (ls.map lmD)) = some ls.length := by show some _ = _; rw [List.length_map]
  refine jss_cons (js_each (i := 2) ls lmD (fun k ρ => ∃ o2, ρ = [some (.ow (.ins C [])), some (.fz (.lst (ls.map lmD))), o2]) (ji_list (jv 1 rfl)) nd ⟨_, rfl⟩ ?_ ?_)
  · rintro k l _ hk ⟨o2, rfl⟩
    have gl := hg l (List.mem_of_getElem? hk)
    refine jss_cons (js_exX (jx_call cCl hr (ja_cons (jv 2 rfl) ja_nil) (.inr ⟨l.1, l.2.1, l.2.2.1, l.2.2.2, rfl, gl.okl, rfl, rfl⟩)) (fun d hd => jss_nil ⟨_, rfl⟩) (fun er hR => ?_))
    rcases hR with ⟨e, _⟩ | ⟨e, _⟩ <;> rw [gl.chk] at e <;> cases e
  rintro _ ⟨o2, rfl⟩
  refine jss_cons (js_ifF (JT.to (jt_not (jt_ch j_int (jb_len T (ja_cons (jv 1 rfl) ja_nil) lenL) (j_gI X.ml) cd_leI cd_leI)) ?_) (jss_nil ?_))
  · rw [decide_eq_true (by omega), decide_eq_true (by omega)]; rfl
  refine jss_cons (js_ifF (JT.to (jt_cm (jb_lenSet T (xs := ls.map (·.1)) (J.to (j_lcM (own := [("limit", 2)]) (i := 2) ls lmD (fun l => D.str l.1) (ji_list (jv 1 rfl)) (blkOk_by (N := ["self", "limits", "limit"]) (sc := defScope sInit) (by decide +kernel)) (fun _ _ _ _ _ => pg_name nd rfl (Or.inl rfl)) (lt_size (by omega)) (fun l hl s0 H C cl fp => j_ix (jv 2 rfl) j_int (ixd_T rfl)) nd) (by rw [List.map_map]; rfl)) (by rw [scanE, List.length_map]; omega)) (jb_len T (ja_cons (jv 1 rfl) ja_nil) lenL) cd_neI) ?_) (jss_nil ?_))
  · rw [ddL_all.mpr hn, List.length_map]; simp
  refine jss_cons (js_fldNP (i := 0) rfl (jnp_sortedT T (ls := ls.map lmT) (J.to (jv 1 rfl) (by rw [map_tup])) (by rw [List.map_map]; exact hn)) X.cl X.n0 (ble rfl) ?_)
  rintro _ ⟨qs, rfl, hp, ha⟩
  obtain ⟨ms, hm, rfl⟩ := untup hp
  rw [map_tup]
  exact jss_nil ⟨_, rfl, rfl, ms, ⟨hm, by rw [List.map_map] at ha; exact ha⟩, rfl⟩
end
end Toy

namespace Toy
open PySem PyProof.Rows L2 Pf
section
variable {P : Program} {w : World} {K : PySem.W.Frag} {mg : Str → Option Value} {base : Heap}
/-! ### _law_limits -/
def nmK (k c : Nat) : Str := tx (108 :: List.replicate c (109 + k))
theorem nmK_inj {k c k' c' : Nat} (h : nmK k c = nmK k' c') (h1 : 1 ≤ c) (h2 : 1 ≤ c') : k = k' := by
  have e := tx_inj h
  obtain ⟨a, rfl⟩ : ∃ a, c = a + 1 := ⟨c - 1, by omega⟩
  obtain ⟨b, rfl⟩ : ∃ b, c' = b + 1 := ⟨c' - 1, by omega⟩
  rw [List.replicate_succ, List.replicate_succ] at e
  injection e with _ e
  injection e with e _
  omega
theorem nmK_ok : ∀ k : Nat, k < 5 → ∀ c : Nat, 1 ≤ c → c ≤ 3 → isNm (nmK k c) = true ∧ (MulOk (⟨#[109 + k]⟩ : Str) (c : Int) ∧ Txt.mul (⟨#[109 + k]⟩ : Str) (c : Int) = tx (List.replicate c (109 + k))) ∧ (nmK k c).length ≤ 4 := by
  intro k hk c h1 h3
  have e : k = 0 ∨ k = 1 ∨ k = 2 ∨ k = 3 ∨ k = 4 := by omega
  have e2 : c = 1 ∨ c = 2 ∨ c = 3 := by omega
  rcases e with rfl | rfl | rfl | rfl | rfl <;> rcases e2 with rfl | rfl | rfl <;> exact ⟨by decide +kernel, ⟨⟨by decide, fun _ _ => by decide +kernel, fun _ _ => by decide +kernel⟩, by decide +kernel⟩, by decide +kernel⟩
theorem mnopq : ∀ k : Nat, k < 5 → atI ("mnopq" : Str).cps.toList (k : Int) = some (109 + k) := by decide +kernel
structure LawLims (ls : List Lim) : Prop where
  g : ∀ l ∈ ls, GoodLm l
  nd : (ls.map (·.1)).Nodup
  h1 : 1 ≤ ls.length
  h5 : ls.length ≤ 5
  nm : ∀ l ∈ ls, ∃ k c, k < 5 ∧ 1 ≤ c ∧ c ≤ 3 ∧ l.1 = nmK k c
def isLims (d : D) : Prop := ∃ ls : List Lim, d = .lst (ls.map lmD) ∧ LawLims ls
abbrev sLs : Stmt := top 42
abbrev nLs : List Str := ["numbers", "at", "names", "many", "k"]
theorem scLs : FnScope nLs ["numbers", "at"] (defScope sLs) := ⟨rfl, rfl, rfl, by decide +kernel, rfl, by decide +kernel, by decide +kernel⟩
def gLs : List D → (D → Prop) → Prop := fun ds P => ∃ (ns : List Int) (a : Nat), ds = [.lst (ns.map D.int), .int (a : Int)] ∧ a + 65 ≤ ns.length ∧ (∀ n ∈ ns, 0 ≤ n ∧ n < 1009) ∧ P = isLims
theorem jp_imp {X : Cx} {e : Expr} {ρ : Rho} {P1 P2 : D → Prop} (h : JP X e ρ P1) (k : ∀ d, P1 d → P2 d) : JP X e ρ P2 := ⟨fun W σ H ex hV Q g => h.run W σ H ex hV Q fun d hd => g d (k d hd)⟩
theorem ok_ls {f : Addr} {fd : FuncData} (F : Fun K "_law_limits" "_law_limits" sLs f fd) (T : Bt mg) (cL : PFn P w K mg base 3 "_law_limit" 3 gLi) : FnOk P w K mg base CX0 4 f fd ["numbers", "at"] (spP K 2 gLs) := by
  refine fn_pure F scLs (by rintro ds Pd ⟨_, _, rfl, _⟩; rfl) fun cdv A outer s H E0 ds Pd hr hG => ?_
  obtain ⟨ns, a, rfl, hl, hb, rfl⟩ := hG
  have nd := scLs.nd
  have gn : ∀ i : Nat, 0 ≤ ns.getD i 0 ∧ ns.getD i 0 < 1009 := getD_in hb
  have cK : ∀ k : Nat, ∃ c : Nat, 1 + ns.getD (a + k) 0 % 3 = (c : Int) ∧ 1 ≤ c ∧ c ≤ 3 := fun k => ⟨(1 + ns.getD (a + k) 0 % 3).toNat, by have := gn (a + k); omega, by have := gn (a + k); omega, by have := gn (a + k); omega⟩
  refine jss_cons (js_set (i := 2) (j_lcM (own := [("k", 4)]) (i := 4) (List.range 5) (fun k => D.int (0 + (k : Nat))) (fun k => D.str (nmK k (1 + ns.getD (a + k) 0 % 3).toNat)) (ji_rangeN 5 T j_int rfl (by omega) (by omega)) (blkOk_by (N := nLs) (sc := defScope sLs) (by decide +kernel)) (fun _ _ _ _ _ => pg_name nd rfl (Or.inl rfl)) (by decide) (fun k hk s H C cl fp => ?_) nd) ?_ nd)
  · have hk' := List.mem_range.mp hk
    obtain ⟨c, hc, c1, c3⟩ := cK k
    have hc' : (1 + ns.getD (a + k) 0 % 3).toNat = c := by omega
    obtain ⟨n1, ⟨n2, n3⟩, n4⟩ := nmK_ok k hk' c c1 c3
    rw [hc']
    refine J.to (j_bin j_str (j_bin (j_ix j_str (jv 4 rfl) (.inr (.inr ⟨_, _, 109 + k, rfl, rfl, by decide +kernel, by rw [Int.zero_add]; exact mnopq k hk', rfl⟩))) (J.to (j_bin j_int (j_bin (jb_int T (ja_cons (j_ix (jv 0 rfl) (j_bin (jv 1 rfl) (jv 4 rfl) od_addI) (ixd_N (a + k) (by omega) (by omega))) ja_nil)) j_int (od_modI (by decide))) od_addI) (congrArg D.int hc)) (od_mulS n2 n3)) (od_addS (s' := tx (List.replicate c (109 + k))) ?_)) (congrArg D.str ?_)
    · rw [tx_len, List.length_replicate]
      have : ("l" : Str).length ≤ 10 := by decide +kernel
      exact le_size (by omega)
    · have e : ("l" : Str) = tx [108] := by decide +kernel
      rw [e, tx_app]; rfl
  obtain ⟨m, hm, m1, m5⟩ : ∃ m : Nat, 1 + ns.getD a 0 / 3 % 5 = (m : Int) ∧ 1 ≤ m ∧ m ≤ 5 := ⟨(1 + ns.getD a 0 / 3 % 5).toNat, by omega, by omega, by omega⟩
  refine jss_cons (js_set (i := 3) (J.to (j_bin j_int (j_bin (j_bin (jb_int T (ja_cons (j_ix (jv 0 rfl) (jv 1 rfl) (ixd_N a rfl (by omega))) ja_nil)) j_int (od_fdivI ⟨by decide, by decide⟩)) j_int (od_modI (by decide))) od_addI) (congrArg D.int hm)) ?_ nd)
  refine jss_cons (js_retP (jp_N (jnp_lcP (pat := .nm 4) (own := [("k", 4)]) (List.range m) (fun k => D.int (0 + (k : Nat))) (fun k d => ∃ l : Lim, d = lmD l ∧ GoodLm l ∧ l.1 = nmK k (1 + ns.getD (a + k) 0 % 3).toNat) (ji_rangeN m T (jv 3 rfl) (by omega) (by omega) (by omega)) (blkOk_by (N := nLs) (sc := defScope sLs) (by decide +kernel)) (fun _ _ _ _ _ => pg_name nd rfl (Or.inl rfl)) (by decide) (by rw [List.length_range]; exact lt_size (by omega)) (fun k hk => ⟨_, rfl, fun s H C cl fp => ?_⟩) nd)) ?_)
  · have hk' := List.mem_range.mp hk
    obtain ⟨c, hc, c1, c3⟩ := cK k
    have hc' : (1 + ns.getD (a + k) 0 % 3).toNat = c := by omega
    obtain ⟨n1, ⟨n2, n3⟩, n4⟩ := nmK_ok k (by omega) c c1 c3
    refine jp_imp (jp_call cL hr (ja_cons (jv 0 rfl) (ja_cons (J.to (j_bin (j_bin (jv 1 rfl) j_int od_addI) (j_bin j_int (jv 4 rfl) (od_mulI cmulL)) od_addI) (congrArg D.int (show (a : Int) + 5 + 12 * (0 + (k : Nat)) = ((a + 5 + 12 * k : Nat) : Int) from by omega))) (ja_cons (j_ix (jv 2 rfl) (jv 4 rfl) (ixd_L (d := D.str (nmK k c)) ?_)) ja_nil))) ⟨ns, a + 5 + 12 * k, nmK k c, rfl, by omega, hb, rfl⟩) ?_
    · rw [Int.zero_add, atI_N D.non k rfl (by rw [List.length_map, List.length_range]; omega), List.getD_eq_getElem?_getD, List.getElem?_map, List.getElem?_range (by omega)]
      show some (D.str _) = _
      rw [hc']
    · rintro _ ⟨wd, gs, nsl, rfl, g⟩
      exact ⟨(nmK k c, wd, gs, nsl), rfl, ⟨n1, g⟩, by rw [hc']⟩
  · rintro _ ⟨l, hl2, rfl⟩
    obtain ⟨ls, rfl, h2⟩ := hl2.pull (f := lmD) (Q := fun k l => GoodLm l ∧ l.1 = nmK k (1 + ns.getD (a + k) 0 % 3).toNat) fun k hk d ⟨l, e, h⟩ => ⟨l, e, h⟩
    have hlen := h2.len
    rw [List.length_range] at hlen
    have c1 : ∀ k, 1 ≤ (1 + ns.getD (a + k) 0 % 3).toNat := fun k => by obtain ⟨c, hc, c1, c3⟩ := cK k; omega
    have c3 : ∀ k, (1 + ns.getD (a + k) 0 % 3).toNat ≤ 3 := fun k => by obtain ⟨c, hc, c1, c3⟩ := cK k; omega
    refine ⟨ls, rfl, h2.right fun _ _ _ h => h.1, ?_, by omega, by omega, h2.right fun k hk l h => ⟨k, _, by have := List.mem_range.mp hk; omega, c1 k, c3 k, h.2⟩⟩
    rw [← h2.map_eq (f := fun k => nmK k (1 + ns.getD (a + k) 0 % 3).toNat) (g := fun l : Lim => l.1) fun k _ l h => h.2.symm]
    exact List.pairwise_map.mpr (List.pairwise_lt_range.imp fun h e => by have := nmK_inj e (c1 _) (c1 _); omega)
end
end Toy

namespace Toy
open PySem PyProof.Rows L2 Pf
open PySem.NumText (AllDigits digitsVal)
section
variable {P : Program} {w : World} {K : PySem.W.Frag} {mg : Str → Option Value} {base : Heap}
/-! ### the words of a limit -/
def nT (i : Int) : Str := ((toString i : String) : Str)
def shS (t : Str × Int × Int) : Str := Txt.join ":" [t.1, nT t.2.1, nT t.2.2]
def numW (ns : List D) : List Str := match formP ns with
  | some p => nT p.1 :: p.2.map shS
  | none => match intsOf ns with
    | some is => is.map nT
    | none => []
def sufG (gs : List Str) : List Str := if gs = [] then [] else "for" :: gs
def wdsL (l : Lim) : List Str := [l.1, l.2.1] ++ numW l.2.2.2 ++ sufG l.2.2.1
def lnL (l : Lim) : Str := Txt.join " " (wdsL l)
def txL (ls : List Lim) : Str := Txt.join "\n" (ls.map lnL)
theorem numW_pool (m : Int) (ts : List (Str × Int × Int)) : numW [.int m, .tup (ts.map shD)] = nT m :: ts.map shS := by unfold numW; rw [formP_sh]
theorem numW_int {is : List Int} (h : is.length ≤ 2) (h0 : 1 ≤ is.length) : numW (is.map D.int) = is.map nT := by
  match is, h, h0 with
  | [a], _, _ => rfl
  | [a, b], _, _ => rfl
/-- a small number's word -/
theorem numT_ok {i : Int} (h0 : 0 ≤ i) (h1 : i ≤ 1000000) : (nT i).length ≤ 10 ∧ (nT i).cps.toList.all isDg = true ∧ i.natAbs.log2 < 1920 ∧ pNum (nT i).cps.toList 7 = some i.toNat := by
  obtain ⟨n, rfl⟩ : ∃ n : Nat, i = (n : Int) := ⟨i.toNat, by omega⟩
  have hn : n < 10 ^ 7 := by omega
  have hl := numS_le (n := n) (k := 7) (by decide) hn
  refine ⟨by rw [← len_of]; exact Nat.le_trans hl (by decide), ?_, ?_, ?_⟩
  · refine List.all_eq_true.mpr fun c hc => ?_
    have := numS_dig n c hc
    unfold isDg
    rw [Bool.and_eq_true, decide_eq_true_iff, decide_eq_true_iff]
    exact this
  · rw [Int.natAbs_natCast]
    rcases Nat.eq_zero_or_pos n with h | h
    · rw [h]; decide
    · exact (Nat.log2_lt (by omega)).mpr (Nat.lt_of_lt_of_le (by omega : n < 2 ^ 34) (Nat.pow_le_pow_right (by decide) (by decide)))
  · rw [Int.toNat_natCast]
    exact pNum_num (by decide) hn
/-- a sign of a word: of a name, or a colon -/
def wSign (c : Nat) : Bool := nmSign c || decide (c = 58)
theorem nm_len {z : Str} (h : isNm z = true) : z.length ≤ 12 := by
  unfold isNm at h
  have q := (Bool.and_eq_true_iff.mp h).1
  simp only [Bool.and_eq_true, decide_eq_true_eq] at q
  exact q.2
theorem dg_nm {c : Nat} (h : isDg c = true) : nmSign c = true := by
  unfold isDg at h
  unfold nmSign
  simp only [Bool.and_eq_true, Bool.or_eq_true, decide_eq_true_eq] at h ⊢
  omega
structure OkWd (z : Str) : Prop where
  len : z.length ≤ 40
  sg : z.cps.toList.all wSign = true
theorem okWd_nms {z : Str} (h : z.cps.toList.all nmSign = true) (hl : z.length ≤ 40) : OkWd z := ⟨hl, List.all_eq_true.mpr fun c hc => by unfold wSign; rw [List.all_eq_true.mp h c hc]; rfl⟩
theorem nm_all {z : Str} (h : isNm z = true) : z.cps.toList.all nmSign = true := by
  unfold isNm at h; exact (Bool.and_eq_true_iff.mp h).2
theorem okWd_nm {z : Str} (h : isNm z = true) : OkWd z := okWd_nms (nm_all h) (by have := nm_len h; omega)
theorem num_nms {i : Int} (h0 : 0 ≤ i) (h1 : i ≤ 1000000) : (nT i).cps.toList.all nmSign = true := List.all_eq_true.mpr fun c hc => dg_nm (List.all_eq_true.mp (numT_ok h0 h1).2.1 c hc)
theorem okWd_num {i : Int} (h0 : 0 ≤ i) (h1 : i ≤ 1000000) : OkWd (nT i) := okWd_nms (num_nms h0 h1) (by have := (numT_ok h0 h1).1; omega)
structure OkSh (t : Str × Int × Int) : Prop where
  nm : isNm t.1 = true
  o0 : 0 ≤ t.2.1
  o1 : t.2.1 ≤ 1000000
  c0 : 0 ≤ t.2.2
  c1 : t.2.2 ≤ 1000000
theorem okSh_of {m : Int} {ts : List (Str × Int × Int)} (g : GoodT m ts) : ∀ t ∈ ts, OkSh t := fun t ht => by
  have h := g.ok t ht
  unfold okS at h
  simp only [Bool.and_eq_true, decide_eq_true_eq] at h
  exact ⟨g.g.nm _ (List.mem_map.mpr ⟨t, ht, rfl⟩), h.1, by omega, by omega, h.2.2⟩
theorem colon : (":" : Str).cps.toList = [58] := by decide +kernel
theorem sh_parts {t : Str × Int × Int} (h : OkSh t) : ∀ p ∈ [t.1, nT t.2.1, nT t.2.2], p.cps.toList.all nmSign = true ∧ p.length ≤ 12 := fun p hp => by
  simp only [List.mem_cons, List.not_mem_nil, or_false] at hp
  rcases hp with rfl | rfl | rfl
  · exact ⟨nm_all h.nm, nm_len h.nm⟩
  · exact ⟨num_nms h.o0 h.o1, by have := (numT_ok h.o0 h.o1).1; omega⟩
  · exact ⟨num_nms h.c0 h.c1, by have := (numT_ok h.c0 h.c1).1; omega⟩
theorem nm_no {z : Str} {n : Nat} (h : z.cps.toList.all nmSign = true) (hn : nmSign n = false) : n ∉ z.cps.toList := fun hm => by
  rw [List.all_eq_true.mp h n hm] at hn; cases hn
theorem sh_split {t : Str × Int × Int} (h : OkSh t) : Txt.split (shS t) ":" = [t.1, nT t.2.1, nT t.2.2] :=
  TL.split_join (s := 58) (S := []) (by decide +kernel) (by decide +kernel) (fun e => by cases e) fun p hp => nm_no (sh_parts h p hp).1 (by decide)
theorem sh_len {t : Str × Int × Int} (h : OkSh t) : (shS t).length ≤ 40 := by
  have q := join_len ":" [t.1, nT t.2.1, nT t.2.2]
  have s := sum_le (xs := [t.1, nT t.2.1, nT t.2.2]) (m := 12) fun p hp => (sh_parts h p hp).2
  have e : (":" : Str).length = 1 := by decide +kernel
  rw [e] at q
  simp only [List.length_cons, List.length_nil] at q s
  unfold shS
  omega
theorem okWd_sh {t : Str × Int × Int} (h : OkSh t) : OkWd (shS t) := ⟨sh_len h, List.all_eq_true.mpr fun c hc => by
  unfold wSign
  rcases mem_join hc with q | ⟨x, hx, q⟩
  · rw [colon, List.mem_singleton] at q
    rw [q]; rfl
  · rw [List.all_eq_true.mp (sh_parts h x hx).1 c q]; rfl⟩
theorem okWd_for : OkWd "for" := ⟨by decide +kernel, by decide +kernel⟩
theorem word_wd {word : Str} {gs : List Str} {ns : List D} (h : GoodL word gs ns) : OkWd word := by
  cases h with
  | two hw _ _ _ _ _ => rcases hw with rfl | rfl | rfl <;> exact ⟨by decide +kernel, by decide +kernel⟩
  | gap _ _ _ => exact ⟨by decide +kernel, by decide +kernel⟩
  | held _ _ _ => exact ⟨by decide +kernel, by decide +kernel⟩
  | pool _ => exact ⟨by decide +kernel, by decide +kernel⟩
theorem numW_wd {word : Str} {gs : List Str} {ns : List D} (h : GoodL word gs ns) : (∀ z ∈ numW ns, OkWd z) ∧ (numW ns).length ≤ 4 ∧ 1 ≤ (numW ns).length := by
  cases h with
  | @two _ _ a b hw _ a0 a1 b0 b1 =>
    rw [show ([.int a, .int b] : List D) = [a, b].map D.int from rfl, numW_int (by simp) (by simp)]
    refine ⟨fun z hz => ?_, by simp, by simp⟩
    simp only [List.map_cons, List.map_nil, List.mem_cons, List.not_mem_nil, or_false] at hz
    rcases hz with rfl | rfl
    · exact okWd_num a0 a1
    · exact okWd_num (by omega) b1
  | @gap _ b _ b0 b1 =>
    rw [show ([.int b] : List D) = [b].map D.int from rfl, numW_int (by simp) (by simp)]
    exact ⟨fun z hz => by
      simp only [List.map_cons, List.map_nil, List.mem_cons, List.not_mem_nil, or_false] at hz
      subst hz; exact okWd_num (by omega) b1, by simp, by simp⟩
  | @held _ a _ a0 a1 =>
    rw [show ([.int a] : List D) = [a].map D.int from rfl, numW_int (by simp) (by simp)]
    exact ⟨fun z hz => by
      simp only [List.map_cons, List.map_nil, List.mem_cons, List.not_mem_nil, or_false] at hz
      subst hz; exact okWd_num a0 a1, by simp, by simp⟩
  | @pool m ts g =>
    rw [numW_pool]
    have few := g.g.few
    rw [List.length_map] at few
    refine ⟨fun z hz => ?_, by simp; omega, by simp⟩
    rcases List.mem_cons.mp hz with rfl | hz
    · exact okWd_num g.lo g.hi
    · obtain ⟨t, ht, rfl⟩ := List.mem_map.mp hz
      exact okWd_sh (okSh_of g t ht)
theorem suf_wd {gs : List Str} (h : GoodG gs) : (∀ z ∈ sufG gs, OkWd z) ∧ (sufG gs).length ≤ 4 := by
  unfold sufG
  split
  · exact ⟨by simp, by simp⟩
  · have := h.few
    refine ⟨fun z hz => ?_, by simp; omega⟩
    rcases List.mem_cons.mp hz with rfl | hz
    · exact okWd_for
    · exact okWd_nm (h.nm z hz)
theorem goodGs {word : Str} {gs : List Str} {ns : List D} (h : GoodL word gs ns) : GoodG gs := by
  cases h with
  | two _ g _ _ _ _ => exact g
  | gap g _ _ => exact g
  | held g _ _ => exact g
  | pool _ => exact ⟨.nil, by simp, by simp, by simp⟩
theorem wds_ok {l : Lim} (h : GoodLm l) : (∀ z ∈ wdsL l, OkWd z) ∧ (wdsL l).length ≤ 10 ∧ 3 ≤ (wdsL l).length := by
  obtain ⟨a, b, b2⟩ := numW_wd h.g
  obtain ⟨c, d⟩ := suf_wd (goodGs h.g)
  unfold wdsL
  refine ⟨fun z hz => ?_, by simp only [List.length_append, List.length_cons, List.length_nil]; omega, by simp only [List.length_append, List.length_cons, List.length_nil]; omega⟩
  rcases List.mem_append.mp hz with hz | hz
  · rcases List.mem_append.mp hz with hz | hz
    · simp only [List.mem_cons, List.not_mem_nil, or_false] at hz
      rcases hz with rfl | rfl
      · exact okWd_nm h.nm
      · exact word_wd h.g
    · exact a z hz
  · exact c z hz
theorem wd_no {z : Str} {n : Nat} (h : OkWd z) (hn : wSign n = false) : n ∉ z.cps.toList := fun hm => by
  rw [List.all_eq_true.mp h.sg n hm] at hn; cases hn
theorem ln_len {l : Lim} (h : GoodLm l) : (lnL l).length ≤ 420 := by
  obtain ⟨h1, h2, h3⟩ := wds_ok h
  have q := join_len " " (wdsL l)
  have s := sum_le (xs := wdsL l) (m := 40) fun x hx => (h1 x hx).len
  have e : (" " : Str).length = 1 := by decide +kernel
  rw [e] at q
  unfold lnL
  omega
theorem ln_split {l : Lim} (h : GoodLm l) : Txt.split (lnL l) " " = wdsL l := by
  obtain ⟨h1, h2, h3⟩ := wds_ok h
  exact TL.split_join (s := 32) (S := []) (by decide +kernel) (by decide +kernel) (fun e => by rw [e] at h3; simp at h3) fun p hp => wd_no (h1 p hp) (by decide)
theorem ln_signs {l : Lim} (h : GoodLm l) : ∀ c ∈ (lnL l).cps.toList, c = 32 ∨ wSign c = true := fun c hc => by
  rcases mem_join hc with q | ⟨x, hx, q⟩
  · rw [show (" " : Str).cps.toList = [32] from by decide +kernel, List.mem_singleton] at q
    exact .inl q
  · exact .inr (List.all_eq_true.mp ((wds_ok h).1 x hx).sg c q)
theorem tx_split {ls : List Lim} (h : ∀ l ∈ ls, GoodLm l) (hne : ls ≠ []) : Txt.split (txL ls) "\n" = ls.map lnL := by
  refine TL.split_join (s := 10) (S := []) (by decide +kernel) (by decide +kernel) (fun e => hne (List.map_eq_nil_iff.mp e)) fun p hp hm => ?_
  obtain ⟨e, he, rfl⟩ := List.mem_map.mp hp
  rcases ln_signs (h e he) 10 hm with q | q
  · cases q
  · exact absurd q (by decide)
theorem tx_len2 {ls : List Lim} (h : ∀ l ∈ ls, GoodLm l) : (txL ls).length ≤ ls.length * 421 := by
  have q := join_len "\n" (ls.map lnL)
  have s := sum_le (xs := ls.map lnL) (m := 420) (by
    intro x hx
    obtain ⟨d, hd, rfl⟩ := List.mem_map.mp hx
    exact ln_len (h d hd))
  have e : ("\n" : Str).length = 1 := by decide +kernel
  rw [List.length_map] at s q
  rw [e] at q
  unfold txL
  omega
end
end Toy

namespace Toy
open PySem PyProof.Rows L2 Pf
section
variable {P : Program} {w : World} {K : PySem.W.Frag} {mg : Str → Option Value} {base : Heap}
/-! ### format_limit, _law_line -/
theorem ns_shape {wd : Str} {gs : List Str} {ns : List D} (h : GoodL wd gs ns) : (wd = "pool" ∧ gs = [] ∧ ∃ m ts, ns = [.int m, .tup (ts.map shD)] ∧ GoodT m ts) ∨ (wd ≠ "pool" ∧ ∃ i0 is, ns = (i0 :: is).map D.int ∧ is.length ≤ 1 ∧ (∀ i ∈ i0 :: is, 0 ≤ i ∧ i ≤ 1000000) ∧ numW ns = (i0 :: is).map nT) := by
  cases h with
  | @two _ _ a b hw _ a0 a1 b0 b1 =>
    refine .inr ⟨by rcases hw with rfl | rfl | rfl <;> decide +kernel, a, [b], rfl, by simp, fun i hi => ?_, numW_int (is := [a, b]) (by simp) (by simp)⟩
    simp only [List.mem_cons, List.not_mem_nil, or_false] at hi
    rcases hi with rfl | rfl <;> omega
  | @gap _ b _ b0 b1 =>
    refine .inr ⟨by decide +kernel, b, [], rfl, by simp, fun i hi => ?_, numW_int (is := [b]) (by simp) (by simp)⟩
    simp only [List.mem_cons, List.not_mem_nil, or_false] at hi
    subst hi; omega
  | @held _ a _ a0 a1 =>
    refine .inr ⟨by decide +kernel, a, [], rfl, by simp, fun i hi => ?_, numW_int (is := [a]) (by simp) (by simp)⟩
    simp only [List.mem_cons, List.not_mem_nil, or_false] at hi
    subst hi; omega
  | @pool m ts g => exact .inl ⟨rfl, rfl, m, ts, rfl, g⟩
theorem empty_app (a : Str) : Str.empty ++ a = a := by
  obtain ⟨cs, rfl⟩ : ∃ cs, a = tx cs := ⟨_, (tx_of a).symm⟩
  rw [show Str.empty = tx [] from rfl, tx_app]; rfl
theorem join3 (y a b c : Str) : Txt.join y [a, b, c] = a ++ y ++ b ++ y ++ c := by rw [← join_fold]; rfl
theorem sh_fs (t : Str × Int × Int) : joinS Str.empty [t.1, ":", nT t.2.1, ":", nT t.2.2] = shS t := by
  unfold shS
  rw [join3]
  show ((((Str.empty ++ t.1) ++ ":") ++ nT t.2.1) ++ ":") ++ nT t.2.2 = _
  rw [empty_app]
theorem j_joinW {X : Cx} {ρ : Rho} {o a : Expr} {apos pos : Pos} {l : Lim} (h : GoodLm l) (ho : J X o ρ (.str " ")) (ha : J X a ρ (.lst ((wdsL l).map D.str))) (hs : starEach [a] X.env = [(false, eval a X.env)] := by rfl) (hbase : attributeBase o "join" X.env (eval o X.env) = eval o X.env := by rfl) (hline : (apos.endLine == pos.line) = true := by rfl) :
    J X (.Call (.Attribute o "join" apos) [a] [] pos) ρ (.str (lnL l)) := by
  obtain ⟨h1, h2, h3⟩ := wds_ok h
  have s := sum_le (xs := wdsL l) (m := 40) fun x hx => (h1 x hx).len
  have e : (" " : Str).length = 1 := by decide +kernel
  exact j_join ho ha (by rw [e]; omega) rfl hs hbase hline
abbrev sFl : Stmt := top 28
abbrev nFl : List Str := ["limit", "name", "word", "groups", "numbers", "words", "group", "own", "ceiling", "number"]
theorem scFl : FnScope nFl ["limit"] (defScope sFl) := ⟨rfl, rfl, rfl, by decide +kernel, rfl, by decide +kernel, by decide +kernel⟩
def gFl : List D → (D → Prop) → Prop := fun ds P => ∃ l : Lim, ds = [lmD l] ∧ GoodLm l ∧ P = fun d => d = .str (lnL l)
theorem truthG (gs : List Str) : truth (.tup (gs.map D.str)) = some (!decide (gs = [])) := by cases gs <;> rfl
theorem wdsL_pool (nm : Str) (m : Int) (ts : List (Str × Int × Int)) : wdsL (nm, "pool", [], [.int m, .tup (ts.map shD)]) = [nm, "pool", nT m] ++ ts.map shS := by
  show [nm, "pool"] ++ numW _ ++ [] = _
  rw [numW_pool]; simp
theorem ok_fl {f : Addr} {fd : FuncData} (F : Fun K "format_limit" "format_limit" sFl f fd) (T : Bt mg) : FnOk P w K mg base CX0 1 f fd ["limit"] (spP K 1 gFl) := by
  refine fn_pure F scFl (by rintro ds Pd ⟨_, rfl, _⟩; rfl) fun cdv A outer s H E0 ds Pd hr hG => ?_
  obtain ⟨⟨nm, wd, gs, ns⟩, rfl, g, rfl⟩ := hG
  have nd := scFl.nd
  refine jss_cons (js_pat (pat := .tp [1, 2, 3, 4]) (jv 0 rfl) rfl ?_ (pg_tup rfl (pgs_cons (pg_name nd rfl (Or.inl rfl)) (pgs_cons (pg_name nd rfl (Or.inl rfl)) (pgs_cons (pg_name nd rfl (Or.inl rfl)) (pgs_cons (pg_name nd rfl (Or.inl rfl)) pgs_nil))))))
  rcases ns_shape g.g with ⟨rfl, rfl, m, ts, rfl, gt⟩ | ⟨hp, i0, is, rfl, hl, hi, hnw⟩
  · have few := gt.g.few
    rw [List.length_map] at few
    have hsh := okSh_of gt
    refine jss_cons (js_setN (i := 5) (jn_lst (ja_cons (jv 1 rfl) (ja_cons (jv 2 rfl) (ja_cons (jb_str T (ja_cons (j_ix (jv 4 rfl) j_int (ixd_T rfl)) ja_nil) (numT_ok gt.lo gt.hi).2.2.1) ja_nil)))) ?_ nd)
    refine jss_cons (js_ifT (JT.to (jt_cm (jv 2 rfl) j_str cd_eqS) (decide_eq_true rfl)) (jss_cons (js_extendL (i := 5) (ds := [.str nm, .str "pool", .str (nT m)]) (es := (ts.map shS).map D.str) rfl (J.to (j_lc (own := [("group", 6), ("own", 7), ("ceiling", 8)]) (pat := .tp [6, 7, 8]) (its := ts.map fun t => (shD t, some (D.str (shS t)))) (by rw [fst_map]; exact ji_tup (j_ix (jv 4 rfl) j_int (ixd_T rfl))) (blkOk_by (N := nFl) (sc := defScope sFl) (by decide +kernel)) (fun _ _ _ _ _ => pg_tup rfl (pgs_cons (pg_name nd rfl (Or.inl rfl)) (pgs_cons (pg_name nd rfl (Or.inl rfl)) (pgs_cons (pg_name nd rfl (Or.inl rfl)) pgs_nil)))) (by decide) (by rw [List.length_map]; exact lt_size (by omega)) (fun q hq => ?_) nd) ?_) (le_size (by simp; omega)) (jss_nil ?_))))
    · obtain ⟨t, ht, rfl⟩ := List.mem_map.mp hq
      have ok := hsh t ht
      exact ⟨_, rfl, fun _ _ _ _ _ => ⟨jts_nil, j_fs (.cons (j_fmtS (jv 6 rfl) (le_size (by have := nm_len ok.nm; omega))) (.cons j_str (.cons (j_fmtI (jv 7 rfl) (numT_ok ok.o0 ok.o1).2.2.1) (.cons j_str (.cons (j_fmtI (jv 8 rfl) (numT_ok ok.c0 ok.c1).2.2.1) .nil))))) (sh_fs t) (le_size (by have := sh_len ok; omega))⟩⟩
    · rw [List.filterMap_map, List.map_map]
      exact congrArg D.lst (List.filterMap_eq_map (f := fun t => D.str (shS t)) ▸ rfl)
    refine jss_cons (js_ifF (jt_truth (jv 3 rfl) rfl) (jss_nil (jss_cons (js_ret (j_joinW g j_str (J.to (jv 5 rfl) ?_)) rfl))))
    rw [wdsL_pool, List.map_append]; rfl
  · have h0 := hi i0 (by simp)
    refine jss_cons (js_setN (i := 5) (jn_lst (ja_cons (jv 1 rfl) (ja_cons (jv 2 rfl) (ja_cons (jb_str T (ja_cons (j_ix (jv 4 rfl) j_int (ixd_T (atI_N D.non 0 rfl (by simp)))) ja_nil) (numT_ok h0.1 h0.2).2.2.1) ja_nil)))) ?_ nd)
    refine jss_cons (js_ifF (JT.to (jt_cm (jv 2 rfl) j_str cd_eqS) (decide_eq_false hp)) (jss_cons (js_extendL (i := 5) (ds := [.str nm, .str wd, .str (nT i0)]) (es := (is.map nT).map D.str) rfl (J.to (j_lcM (own := [("number", 9)]) (i := 9) is D.int (fun i => D.str (nT i)) (ji_tup (J.to (j_sl (jv 4 rfl) (jo_some j_int) jo_none sld_T) (congrArg D.tup (cut_one ((i0 :: is).map D.int))))) (blkOk_by (N := nFl) (sc := defScope sFl) (by decide +kernel)) (fun _ _ _ _ _ => pg_name nd rfl (Or.inl rfl)) (lt_size (by omega)) (fun i hm s0 H C cl fp => jb_str T (ja_cons (jv 9 rfl) ja_nil) (numT_ok (hi i (by simp [hm])).1 (hi i (by simp [hm])).2).2.2.1) nd) (by rw [List.map_map]; rfl)) (le_size (by simp; omega)) (jss_nil ?_))))
    have hw : (wdsL (nm, wd, gs, (i0 :: is).map D.int)).map D.str = ([.str nm, .str wd, .str (nT i0)] ++ (is.map nT).map D.str) ++ (sufG gs).map D.str := by
      show ([nm, wd] ++ numW _ ++ sufG gs).map D.str = _
      rw [hnw, List.map_append]; rfl
    refine jss_cons (js_if (jt_truth (jv 3 rfl) (truthG gs)) (fun h => ?_) (fun h => jss_nil ?_))
    · have hg0 : ¬ gs = [] := by simpa using h
      have few : gs.length ≤ 3 := (goodGs g.g).few
      refine jss_cons (js_append (i := 5) (ds := [.str nm, .str wd, .str (nT i0)] ++ (is.map nT).map D.str) rfl j_str (lt_size (by simp; omega)) ?_)
      refine jss_cons (js_extendT (i := 5) (ds := ([.str nm, .str wd, .str (nT i0)] ++ (is.map nT).map D.str) ++ [.str "for"]) (es := gs.map D.str) rfl (jv 3 rfl) (le_size (by simp; omega)) (jss_nil (jss_cons (js_ret (j_joinW g j_str (J.to (jv 5 rfl) ?_)) rfl))))
      rw [hw]
      unfold sufG
      rw [if_neg hg0]
      show D.lst ((_ ++ [.str "for"]) ++ gs.map D.str) = D.lst (_ ++ (D.str "for" :: gs.map D.str))
      rw [List.append_assoc]; rfl
    · have hg0 : gs = [] := by simpa using h
      refine jss_cons (js_ret (j_joinW g j_str (J.to (jv 5 rfl) ?_)) rfl)
      rw [hw, hg0]
      show _ = D.lst (_ ++ [])
      rw [List.append_nil]; rfl
end
end Toy

namespace Toy
open PySem PyProof.Rows L2 Pf
open PySem.NumText (AllDigits digitsVal)
section
variable {P : Program} {w : World} {K : PySem.W.Frag} {mg : Str → Option Value} {base : Heap}
/-! ### Book.limits, Book.same_as, format_book -/
abbrev sLims : Stmt := inClass (top 24) 1
theorem scLims : FnScope ["self"] ["self"] (defScope sLims) := ⟨rfl, rfl, rfl, by decide +kernel, rfl, by decide +kernel, by decide +kernel⟩
def gLims (C : Addr) : List D → (List D → Prop) → Prop := fun ds P => ∃ ms : List Lim, ds = [bkD C ms] ∧ P = fun r => r = ms.map lmD
theorem ok_lims {C : Addr} {f : Addr} {fd : FuncData} (F : Fun K "limits" "Book.limits" sLims f fd) (T : Bt mg) (X : Bk K mg C) : FnOk P w K mg base CX0 1 f fd ["self"] (spN K 1 (gLims C)) := by
  refine fn_new F scLims (by rintro ds Pd ⟨_, rfl, _⟩; rfl) rfl fun cdv A outer s H E ds Pd hr hG => ?_
  obtain ⟨ms, rfl, rfl⟩ := hG
  exact jnp_of (jn_listL T.list (by decide +kernel) (j_fld (jv 0 rfl) lkL X.cl X.n0))
abbrev sFb : Stmt := top 29
theorem scFb : FnScope ["book", "limit"] ["book"] (defScope sFb) := ⟨rfl, rfl, rfl, by decide +kernel, rfl, by decide +kernel, by decide +kernel⟩
def gFb (C : Addr) : List D → (D → Prop) → Prop := fun ds P => ∃ ms : List Lim, ds = [bkD C ms] ∧ (∀ l ∈ ms, GoodLm l) ∧ ms.length ≤ 8 ∧ P = fun r => r = .str (txL ms)
theorem j_joinN {X : Cx} {ρ : Rho} {o a : Expr} {apos pos : Pos} {ls : List Lim} (h : ∀ l ∈ ls, GoodLm l) (h8 : ls.length ≤ 8) (ho : J X o ρ (.str "\n")) (ha : J X a ρ (.lst ((ls.map lnL).map D.str))) (hs : starEach [a] X.env = [(false, eval a X.env)] := by rfl) (hbase : attributeBase o "join" X.env (eval o X.env) = eval o X.env := by rfl) (hline : (apos.endLine == pos.line) = true := by rfl) :
    J X (.Call (.Attribute o "join" apos) [a] [] pos) ρ (.str (txL ls)) := by
  have s := sum_le (xs := ls.map lnL) (m := 420) (by
    intro x hx
    obtain ⟨d, hd, rfl⟩ := List.mem_map.mp hx
    exact ln_len (h d hd))
  have e : ("\n" : Str).length = 1 := by decide +kernel
  rw [List.length_map] at s
  exact j_join ho ha (by rw [e, List.length_map]; omega) rfl hs hbase hline
theorem ok_fb {C : Addr} {f : Addr} {fd : FuncData} (F : Fun K "format_book" "format_book" sFb f fd) (X : Bk K mg C) (cL : NProp P w K mg base 1 C "limits" (gLims C)) (cF : PFn P w K mg base 1 "format_limit" 1 gFl) : FnOk P w K mg base CX0 3 f fd ["book"] (spP K 1 (gFb C)) := by
  refine fn_pure F scFb (by rintro ds Pd ⟨_, rfl, _⟩; rfl) fun cdv A outer s H E ds Pd hr hG => ?_
  obtain ⟨ms, rfl, h1, h8, rfl⟩ := hG
  have nd := scFb.nd
  exact jss_cons (js_ret (j_joinN h1 h8 j_str (J.to (j_lcM (own := [("limit", 1)]) (i := 1) ms lmD (fun l => D.str (lnL l)) (ji_list (j_N (jn_of (ds := ms.map lmD) (jnp_prop cL X.cl hr (jv 0 rfl) ⟨ms, rfl, rfl⟩) fun _ h => h))) (blkOk_by (N := ["book", "limit"]) (sc := defScope sFb) (by decide +kernel)) (fun _ _ _ _ _ => pg_name nd rfl (Or.inl rfl)) (lt_size (by omega)) (fun l hl s0 H C cl fp => j_call cF hr (ja_cons (jv 1 rfl) ja_nil) ⟨l, rfl, h1 l hl, rfl⟩ (fun _ h => h)) nd) (by rw [List.map_map]; rfl))) rfl)
structure Gd (mg : Str → Option Value) : Prop where
  digs : ∃ t, mg "DIGITS" = some (.str "0123456789" t)
  n7 : ∃ t, mg "NUMBER_DIGITS" = some (.int 7 t)
/-! ### parse_number -/
abbrev sNum : Stmt := top 30
theorem scNum : FnScope ["word", "digits", "sign"] ["word", "digits"] (defScope sNum) := ⟨rfl, rfl, rfl, by decide +kernel, rfl, by decide +kernel, by decide +kernel⟩
def gNum : List D → (D → Prop) → Prop := fun ds P => ∃ (z : Str) (k : Nat), ds = [.str z, .int k] ∧ z.length ≤ 2000 ∧ k ≤ 600 ∧ P = fun d => d = optN (pNum z.cps.toList k)
theorem ok_num {f : Addr} {fd : FuncData} (F : Fun K "parse_number" "parse_number" sNum f fd) (T : Bt mg) (G : Gd mg) : FnOk P w K mg base CX0 1 f fd ["word", "digits"] (spP K 2 gNum) := by
  refine fn_pure F scNum (by rintro ds Pd ⟨_, _, rfl, _⟩; rfl) fun cdv A outer s H E ds Pd hr hG => ?_
  obtain ⟨z, k, rfl, hl, hk, rfl⟩ := hG
  obtain ⟨cs, rfl⟩ : ∃ cs, z = tx cs := ⟨_, (tx_of z).symm⟩
  rw [tx_len] at hl
  rw [tx_cps]
  have nd := scNum.nd
  have e1 : (decide ((1 : Int) ≤ ((tx cs).length : Int)) && decide (((tx cs).length : Int) ≤ (k : Int))) = (decide (1 ≤ cs.length) && decide (cs.length ≤ k)) := by
    rw [tx_len]
    congr 1 <;> exact decide_eq_decide.mpr (by omega)
  have hz : (tx cs).length ≤ sizeLine := by rw [tx_len]; exact le_size (by omega)
  refine jss_cons (js_if (t := !okNum cs k) (JT.to (jt_w (jw_or (jt_not (jt_ch j_int (jb_len T (ja_cons (jv 0 rfl) ja_nil) (lenS hz)) (jv 1 rfl) cd_leI cd_leI)) (fun _ => jw_or1 (jt_not (jt_val (jb_all T (bs := cs.map isDg) (ja_cons (J.to (j_lcM (own := [("sign", 2)]) (i := 2) cs (fun c : Nat => D.str ⟨#[c]⟩) (fun c => D.bl (isDg c)) (ji_tx (jv 0 rfl)) (blkOk_by (N := ["word", "digits", "sign"]) (sc := defScope sNum) (by decide +kernel)) (fun _ _ _ _ _ => pg_name nd rfl (Or.inl rfl)) (lt_size (by omega)) (fun c hc s H C cl fp => J.to (j_cm (jv 2 rfl) (j_gS G.digs) cd_inSign) (congrArg D.bl (dg_mem c))) nd) (by rw [List.map_map]; rfl)) ja_nil))))))) ?_) (fun h => ?_) (fun h => jss_nil ?_))
  · rw [e1, List.all_map]
    show (!(decide (1 ≤ cs.length) && decide (cs.length ≤ k)) || !cs.all isDg) = !((decide (1 ≤ cs.length) && decide (cs.length ≤ k)) && cs.all isDg)
    cases (decide (1 ≤ cs.length) && decide (cs.length ≤ k)) <;> cases cs.all isDg <;> rfl
  · refine jss_cons (js_ret j_non ?_)
    show D.non = optN (pNum cs k)
    unfold pNum
    rw [if_neg (by rw [Bool.not_eq_true'] at h; rw [h]; decide)]
    rfl
  have hok : okNum cs k = true := by rw [Bool.not_eq_false'] at h; exact h
  have hparts := hok
  unfold okNum at hparts
  rw [Bool.and_eq_true, Bool.and_eq_true, decide_eq_true_iff, decide_eq_true_iff] at hparts
  obtain ⟨⟨hl1, hl2⟩, hd⟩ := hparts
  have hAll : AllDigits cs := by
    intro c hc
    have := List.all_eq_true.mp hd c hc
    unfold isDg at this
    rw [Bool.and_eq_true, decide_eq_true_iff, decide_eq_true_iff] at this
    exact this
  have hread : PySem.intText? (tx cs) = some ((digitsVal cs : Nat) : Int) := intText_digits (x := tx cs) hAll (by intro q; rw [tx_cps] at q; rw [q] at hl1; simp at hl1) (by rw [tx_len]; omega)
  refine jss_cons (js_if (t := zeroed cs) (JT.to (jt_w (jw_and (jt_cm (j_ixS (n := cs.getD 0 0) (jv 0 rfl) j_int hz (atI_N 0 0 rfl (by rw [tx_cps]; omega))) j_str cd_eqS) (fun _ => jw_and1 (jt_cm (jv 0 rfl) j_str cd_neS)))) ?_) (fun h => ?_) (fun h => jss_nil ?_))
  · rw [show ("0" : Str) = tx [48] from by decide +kernel]
    unfold zeroed
    congr 1
    · exact decide_eq_decide.mpr ⟨fun q => by have := tx_inj (a := [cs.getD 0 0]) (b := [48]) q; simpa using this, fun q => by rw [q]; rfl⟩
    · congr 1
      exact decide_eq_decide.mpr ⟨fun q => tx_inj q, fun q => by rw [q]⟩
  · refine jss_cons (js_ret j_non ?_)
    show D.non = optN (pNum cs k)
    unfold pNum
    rw [if_pos hok, if_pos h]
    rfl
  · refine jss_cons (js_ret (jb_intS T (ja_cons (jv 0 rfl) ja_nil) hread (by rw [tx_len]; omega)) ?_)
    show _ = optN (pNum cs k)
    unfold pNum
    rw [if_pos hok, if_neg (by rw [h]; decide)]
    rfl
/-! ### parse_share, parse_groups, of any words -/
def numD7 (z : Str) : D := optN (pNum z.cps.toList 7)
def shW (z : Str) : List D := .str ((Txt.split z ":").headD "") :: ((Txt.split z ":").drop 1).map numD7
abbrev sPs : Stmt := top 31
theorem scPs : FnScope ["word", "parts", "part"] ["word"] (defScope sPs) := ⟨rfl, rfl, rfl, by decide +kernel, rfl, by decide +kernel, by decide +kernel⟩
def gPs : List D → (D → Prop) → Prop := fun ds P => ∃ z : Str, ds = [.str z] ∧ z.length ≤ 1000 ∧ P = fun d => d = .tup (shW z)
theorem ok_ps {f : Addr} {fd : FuncData} (F : Fun K "parse_share" "parse_share" sPs f fd) (T : Bt mg) (G : Gd mg) (cN : PFn P w K mg base 1 "parse_number" 2 gNum) : FnOk P w K mg base CX0 2 f fd ["word"] (spP K 1 gPs) := by
  refine fn_pure F scPs (by rintro ds Pd ⟨_, rfl, _⟩; rfl) fun cdv A outer s H E ds Pd hr hG => ?_
  obtain ⟨z, rfl, hl, rfl⟩ := hG
  have nd := scPs.nd
  have hin : ∀ x ∈ Txt.split z ":", x.length ≤ 1000 := fun x hx => Nat.le_trans (split_in hx) hl
  have hne : Txt.split z ":" ≠ [] := split_ne (by decide +kernel)
  have hn : (Txt.split z ":").length ≤ 1002 := by have := PyProof.Rows.split_le z ":"; omega
  refine jss_cons (js_set (i := 1) (j_split (jv 0 rfl) (ja_cons j_str ja_nil) (by decide +kernel) (le_size (by omega))) ?_ nd)
  show JSs _ [] _ [some (.fz (.str z)), some (.fz (.lst ((Txt.split z ":").map D.str))), none] _
  unfold shW
  generalize Txt.split z ":" = ps at hin hne hn
  cases ps with
  | nil => exact absurd rfl hne
  | cons p r =>
    have hr2 : r.length ≤ 1001 := by simpa using hn
    refine jss_cons (js_ret (jb_tupleL T (ja_cons (J.to (j_bin (j_lst (ja_cons (j_ix (jv 1 rfl) j_int (ixd_L (d := D.str p) (atI_N D.non 0 rfl (by simp)))) ja_nil)) (j_lcM (own := [("part", 2)]) (i := 2) r D.str numD7 (ji_list (J.to (j_sl (jv 1 rfl) (jo_some j_int) jo_none sld_L) (congrArg D.lst (cut_one ((p :: r).map D.str))))) (blkOk_by (N := ["word", "parts", "part"]) (sc := defScope sPs) (by decide +kernel)) (fun _ _ _ _ _ => pg_name nd rfl (Or.inl rfl)) (lt_size (by omega)) (fun x hx s0 H C cl fp => j_call cN hr (ja_cons (jv 2 rfl) (ja_cons (j_gI G.n7) ja_nil)) ⟨x, 7, rfl, by have := hin x (List.mem_cons_of_mem _ hx); omega, by omega, rfl⟩ (fun _ h => h)) nd) (od_addL (by rw [List.length_map]; show 1 + r.length ≤ sizeLine; exact le_size (by omega)))) (show _ = D.lst (.str p :: r.map numD7) from rfl)) ja_nil)) rfl)
def grW : List Str → Option (List Str)
  | [] => some []
  | a :: r => if a = "for" ∧ r ≠ [] then some r else none
def grD : Option (List Str) → D
  | some gs => .tup (gs.map D.str)
  | none => .non
abbrev sPg : Stmt := top 32
theorem scPg : FnScope ["words"] ["words"] (defScope sPg) := ⟨rfl, rfl, rfl, by decide +kernel, rfl, by decide +kernel, by decide +kernel⟩
def gPg : List D → (D → Prop) → Prop := fun ds P => ∃ ws : List Str, ds = [.lst (ws.map D.str)] ∧ ws.length ≤ 1000 ∧ P = fun d => d = grD (grW ws)
theorem ok_pg {f : Addr} {fd : FuncData} (F : Fun K "parse_groups" "parse_groups" sPg f fd) (T : Bt mg) : FnOk P w K mg base CX0 1 f fd ["words"] (spP K 1 gPg) := by
  refine fn_pure F scPg (by rintro ds Pd ⟨_, rfl, _⟩; rfl) fun cdv A outer s H E ds Pd hr hG => ?_
  obtain ⟨ws, rfl, hl, rfl⟩ := hG
  cases ws with
  | nil => exact jss_cons (js_ifT (jt_not (jt_truth (t := false) (jv 0 rfl) rfl)) (jss_cons (js_ret (j_tup ja_nil) rfl)))
  | cons z gs =>
    refine jss_cons (js_ifF (JT.to (jt_not (jt_truth (t := true) (jv 0 rfl) rfl)) rfl) (jss_nil ?_))
    refine jss_cons (js_if (t := !decide (z = "for") || decide (gs.length = 0)) (JT.to (jt_w (jw_or (jt_cm (j_ix (jv 0 rfl) j_int (ixd_L (d := D.str z) (atI_N D.non 0 rfl (by simp)))) j_str cd_neS) (fun _ => jw_or1 (jt_cm (jb_len T (n := gs.length + 1) (ja_cons (jv 0 rfl) ja_nil) (show some ((z :: gs).map D.str).length = _ from by simp)) j_int cd_eqI)))) ?_) (fun h => ?_) (fun h => jss_nil ?_))
    · congr 1
      exact decide_eq_decide.mpr (by omega)
    · refine jss_cons (js_ret j_non ?_)
      show D.non = grD (if z = "for" ∧ gs ≠ [] then some gs else none)
      rw [if_neg]
      · rfl
      · rintro ⟨h1, h2⟩
        rw [decide_eq_true h1, decide_eq_false (fun q => h2 (List.length_eq_zero_iff.mp q))] at h
        cases h
    · refine jss_cons (js_ret (jb_tupleL T (ja_cons (J.to (j_sl (jv 0 rfl) (jo_some j_int) jo_none sld_L) (congrArg D.lst (cut_one ((z :: gs).map D.str)))) ja_nil)) ?_)
      show D.tup (gs.map D.str) = grD (if z = "for" ∧ gs ≠ [] then some gs else none)
      rw [Bool.or_eq_false_iff] at h
      rw [if_pos ⟨by simpa using h.1, fun q => by rw [q] at h; simp at h⟩]
      rfl
end
end Toy

namespace Toy
open PySem PyProof.Rows L2 Pf
section
variable {P : Program} {w : World} {K : PySem.W.Frag} {mg : Str → Option Value} {base : Heap}
/-! ### read_limit, of any words -/
def rdL (ws : List Str) : Option Lim :=
  if ws.getD 1 "" = "pool" then some (ws.getD 0 "", ws.getD 1 "", [], [numD7 (ws.getD 2 ""), .tup ((ws.drop 3).map fun z => .tup (shW z))])
  else match leastOf (ws.getD 1 "") with
    | none => none
    | some l => match grW (ws.drop (2 + l.length)) with
      | none => none
      | some gs => some (ws.getD 0 "", ws.getD 1 "", gs, ((ws.drop 2).take l.length).map numD7)
def limO : Option Lim → D
  | some l => lmD l
  | none => .non
theorem least_some {z : Str} {l : List Int} (h : leastOf z = some l) : (z, some l) ∈ leastT := by
  unfold leastOf at h
  cases q : leastT.find? (fun q => decide (q.1 = z)) with
  | none => rw [q] at h; cases h
  | some p =>
    rw [q] at h
    have h1 := List.find?_some q
    have h2 := List.mem_of_find?_eq_some q
    have e : p = (z, some l) := by
      obtain ⟨a, b⟩ := p
      have ha : a = z := of_decide_eq_true h1
      have hb : b = some l := h
      rw [ha, hb]
    rw [← e]; exact h2
theorem least_none {z : Str} (h : leastOf z = none) : z ∉ (["window", "span", "bucket", "gap", "held"] : List Str) := fun hm => by
  simp only [List.mem_cons, List.not_mem_nil, or_false] at hm
  rcases hm with rfl | rfl | rfl | rfl | rfl <;> revert h <;> decide +kernel
theorem cut_two {α : Type} (xs : List α) (k : Nat) (h : 2 ≤ xs.length) : cut xs (some 2) (some ((2 + k : Nat) : Int)) = (xs.drop 2).take k := by
  unfold cut
  rw [show (2 : Int) = ((2 : Nat) : Int) from rfl, HT.sIx_nat, HT.sIx_nat, Nat.min_eq_left h]
  by_cases q : 2 + k ≤ xs.length
  · rw [Nat.min_eq_left q, Nat.add_sub_cancel_left]
  · rw [Nat.min_eq_right (by omega), List.take_of_length_le (by rw [List.length_drop]; omega), List.take_of_length_le (by rw [List.length_drop]; omega)]
theorem cut_from {α : Type} (xs : List α) (k : Nat) : cut xs (some (k : Int)) none = xs.drop k := by
  by_cases q : k ≤ xs.length
  · exact cut_drop xs k q
  · unfold cut
    rw [HT.sIx_nat, HT.sIx_none, Nat.min_eq_right (by omega), List.drop_length, List.drop_of_length_le (by omega)]
    simp
abbrev sRl : Stmt := top 33
abbrev nRl : List Str := ["words", "name", "word", "shares", "end", "groups", "share", "number"]
theorem scRl : FnScope nRl ["words"] (defScope sRl) := ⟨rfl, rfl, rfl, by decide +kernel, rfl, by decide +kernel, by decide +kernel⟩
def gRl : List D → (D → Prop) → Prop := fun ds P => ∃ ws : List Str, ds = [.lst (ws.map D.str)] ∧ 3 ≤ ws.length ∧ ws.length ≤ 900 ∧ (∀ z ∈ ws, z.length ≤ 1000) ∧ P = fun d => d = limO (rdL ws)
theorem least_len {z : Str} {l : List Int} (h : (z, some l) ∈ leastT) : l.length ≤ 2 := by
  simp only [leastT, List.mem_cons, List.not_mem_nil, or_false, Prod.mk.injEq] at h
  rcases h with ⟨_, h⟩ | ⟨_, h⟩ | ⟨_, h⟩ | ⟨_, h⟩ | ⟨_, h⟩ | ⟨_, h⟩ | ⟨_, h⟩ | ⟨_, h⟩ | ⟨_, h⟩ | ⟨_, h⟩ | ⟨_, h⟩ | ⟨_, h⟩ | ⟨_, h⟩ <;> first | (cases h; done) | (cases h; decide)
theorem ok_rl {f : Addr} {fd : FuncData} (F : Fun K "read_limit" "read_limit" sRl f fd) (T : Bt mg) (G : Gb K w mg) (GD : Gd mg) (cN : PFn P w K mg base 1 "parse_number" 2 gNum) (cS : PFn P w K mg base 2 "parse_share" 1 gPs) (cG : PFn P w K mg base 1 "parse_groups" 1 gPg) : FnOk P w K mg base CX0 3 f fd ["words"] (spP K 1 gRl) := by
  refine fn_pure F scRl (by rintro ds Pd ⟨_, rfl, _⟩; rfl) fun cdv A outer s H E ds Pd hr hG => ?_
  obtain ⟨ws, rfl, h3, hmany, hw, rfl⟩ := hG
  have nd := scRl.nd
  obtain ⟨nm, wd, r, rfl⟩ : ∃ nm wd r, ws = nm :: wd :: r := by
    match ws, h3 with
    | a :: b :: r, _ => exact ⟨a, b, r, rfl⟩
  have hrl : 1 ≤ r.length ∧ r.length ≤ 898 := by simp at h3 hmany; omega
  have gl : ∀ z ∈ r, z.length ≤ 1000 := fun z hz => hw z (List.mem_cons_of_mem _ (List.mem_cons_of_mem _ hz))
  refine jss_cons (js_patL (is := [1, 2]) (J.to (j_sl (jv 0 rfl) jo_none (jo_some j_int) sld_L) (show _ = D.lst [.str nm, .str wd] from congrArg D.lst (cut_takeN _ 2))) rfl ?_ (pg_lst rfl (pgs_cons (pg_name nd rfl (Or.inl rfl)) (pgs_cons (pg_name nd rfl (Or.inl rfl)) pgs_nil))))
  by_cases hp : wd = "pool"
  · have e : rdL (nm :: wd :: r) = some (nm, wd, [], [numD7 (r.getD 0 ""), .tup ((r.drop 1).map fun z => .tup (shW z))]) := if_pos hp
    rw [e]
    refine jss_cons (js_ifT (JT.to (jt_cm (jv 2 rfl) j_str cd_eqS) (decide_eq_true hp)) (jss_cons (js_set (i := 3) (jb_tupleL T (ja_cons (j_lcM (own := [("share", 6)]) (i := 6) (r.drop 1) D.str (fun z => D.tup (shW z)) (ji_list (J.to (j_sl (jv 0 rfl) (jo_some j_int) jo_none sld_L) (show _ = D.lst ((r.drop 1).map D.str) from ?_))) (blkOk_by (N := nRl) (sc := defScope sRl) (by decide +kernel)) (fun _ _ _ _ _ => pg_name nd rfl (Or.inl rfl)) (by rw [List.length_drop]; exact lt_size (by omega)) (fun z hz s0 H C cl fp => j_call cS hr (ja_cons (jv 6 rfl) ja_nil) ⟨z, rfl, gl z (List.mem_of_mem_drop hz), rfl⟩ (fun _ h => h)) nd) ja_nil)) ?_ nd)))
    · refine congrArg D.lst ((cut_drop ((nm :: wd :: r).map D.str) 3 (by simp; omega)).trans ?_)
      rw [← List.map_drop]; rfl
    have hz0 : (r.getD 0 "").length ≤ 1000 := by
      rw [List.getD_eq_getElem?_getD]
      cases q : r[0]? with
      | none => decide +kernel
      | some z => exact gl z (List.mem_of_getElem? q)
    refine jss_cons (js_ret (j_tup (ja_cons (jv 1 rfl) (ja_cons (jv 2 rfl) (ja_cons (j_tup ja_nil) (ja_cons (j_tup (ja_cons (j_call cN hr (ja_cons (j_ix (jv 0 rfl) j_int (ixd_L (d := D.str (r.getD 0 "")) ?_)) (ja_cons (j_gI GD.n7) ja_nil)) ⟨r.getD 0 "", 7, rfl, by omega, by omega, rfl⟩ (fun _ h => h)) (ja_cons (jv 3 rfl) ja_nil))) ja_nil))))) rfl)
    rw [strs_at (by decide) (by simp; omega)]
    rfl
  · refine jss_cons (js_ifF (JT.to (jt_cm (jv 2 rfl) j_str cd_eqS) (decide_eq_false hp)) (jss_nil ?_))
    cases hl : leastOf wd with
    | none =>
      have e : rdL (nm :: wd :: r) = none := by
        unfold rdL
        rw [show (nm :: wd :: r).getD 1 "" = wd from rfl, if_neg hp, hl]
      rw [e]
      exact jss_cons (js_ifT (JT.to (jt_ninTab (G.miss wd (least_none hl)) none (by simp) (jv 2 rfl)) rfl) (jss_cons (js_ret j_non rfl)))
    | some l =>
      have ho := least_some hl
      have hl2 := least_len ho
      have e : rdL (nm :: wd :: r) = match grW (r.drop l.length) with | none => none | some gs => some (nm, wd, gs, (r.take l.length).map numD7) := by
        unfold rdL
        rw [show (nm :: wd :: r).getD 1 "" = wd from rfl, if_neg hp, hl]
        show (match grW ((nm :: wd :: r).drop (2 + l.length)) with | none => none | some gs => some (nm, wd, gs, (((nm :: wd :: r).drop 2).take l.length).map numD7)) = _
        rw [Nat.add_comm 2 l.length]; rfl
      have lenT : lenD (.tup (l.map D.int)) = some l.length := by show some _ = _; rw [List.length_map]
      refine jss_cons (js_ifF (JT.to (jt_ninTab G.tb (some l) ho (jv 2 rfl)) rfl) (jss_nil ?_))
      refine jss_cons (js_set (i := 4) (J.to (j_bin j_int (jb_len T (ja_cons (j_ixTab G.tb ho (jv 2 rfl)) ja_nil) lenT) od_addI) (congrArg D.int (show (2 : Int) + (l.length : Nat) = ((2 + l.length : Nat) : Int) from by omega))) ?_ nd)
      refine jss_cons (js_set (i := 5) (j_call cG hr (ja_cons (J.to (j_sl (jv 0 rfl) (jo_some (jv 4 rfl)) jo_none sld_L) (show _ = D.lst ((r.drop l.length).map D.str) from ?_)) ja_nil) ⟨_, rfl, by rw [List.length_drop]; omega, rfl⟩ (fun _ h => h)) ?_ nd)
      · rw [cut_from, ← List.map_drop, Nat.add_comm 2 l.length]; rfl
      rw [e]
      cases hg : grW (r.drop l.length) with
      | none => exact jss_cons (js_ifT (jt_cm (jv 5 rfl) j_non cd_isN) (jss_cons (js_ret j_non rfl)))
      | some gs =>
        refine jss_cons (js_ifF (jt_cm (jv 5 rfl) j_non cd_isN) (jss_nil ?_))
        refine jss_cons (js_ret (j_tup (ja_cons (jv 1 rfl) (ja_cons (jv 2 rfl) (ja_cons (jv 5 rfl) (ja_cons (jb_tupleL T (ja_cons (j_lcM (own := [("number", 7)]) (i := 7) (r.take l.length) D.str numD7 (ji_list (J.to (j_sl (jv 0 rfl) (jo_some j_int) (jo_some (jv 4 rfl)) sld_L) (show _ = D.lst ((r.take l.length).map D.str) from ?_))) (blkOk_by (N := nRl) (sc := defScope sRl) (by decide +kernel)) (fun _ _ _ _ _ => pg_name nd rfl (Or.inl rfl)) (by rw [List.length_take]; exact lt_size (by omega)) (fun z hz s0 H C cl fp => j_call cN hr (ja_cons (jv 7 rfl) (ja_cons (j_gI GD.n7) ja_nil)) ⟨z, 7, rfl, by have := gl z (List.mem_of_mem_take hz); omega, by omega, rfl⟩ (fun _ h => h)) nd) ja_nil)) ja_nil))))) rfl)
        rw [cut_two _ _ (by simp), ← List.map_drop, ← List.map_take]; rfl
/-! ### parse_limit, of any line -/
structure OkLine (z : Str) : Prop where
  len : z.length ≤ 1000
  few : (Txt.split z " ").length ≤ 900
  ok : ∀ l, rdL (Txt.split z " ") = some l → OkL l.1 l.2.1 l.2.2.1 l.2.2.2
def okC (l : Lim) : Bool := decide (chk4 l.1 l.2.1 l.2.2.1 l.2.2.2 = 0)
def parW (ws : List Str) : Option Lim := if ws.length < 3 then none else match rdL ws with
  | none => none
  | some l => if okC l = true then some l else none
def parL (z : Str) : Option Lim := parW (Txt.split z " ")
/-- what K tells of the two errors that check_limit raises -/
structure Cc (K : PySem.W.Frag) (mg : Str → Option Value) (N L : Addr) : Prop where
  gN : mg "InvalidName" = some (.ref N)
  gL : mg "InvalidLimit" = some (.ref L)
  nn : PySem.W.exmOne K (.ref N) (.ref N) = some true
  nl : PySem.W.exmOne K (.ref N) (.ref L) = some false
  ln : PySem.W.exmOne K (.ref L) (.ref N) = some false
  ll : PySem.W.exmOne K (.ref L) (.ref L) = some true
theorem any_two {c a b : Value} {x y : Bool} (h1 : PySem.W.exmOne K c a = some x) (h2 : PySem.W.exmOne K c b = some y) (h : (x || y) = true) : PySem.W.exmAny K c [a, b] = some true := by
  unfold PySem.W.exmAny PySem.W.exmAny PySem.W.exmAny
  rw [h1, h2]
  show some (x || (y || false)) = _
  rw [Bool.or_false, h]
abbrev sPl : Stmt := top 34
theorem scPl : FnScope ["line", "words", "limit"] ["line"] (defScope sPl) := ⟨rfl, rfl, rfl, by decide +kernel, rfl, by decide +kernel, by decide +kernel⟩
def gPl : List D → (D → Prop) → Prop := fun ds P => ∃ z : Str, ds = [.str z] ∧ OkLine z ∧ P = fun d => d = limO (parL z)
theorem chk_three (nm wd : Str) (gs : List Str) (ns : List D) : chk4 nm wd gs ns = 0 ∨ chk4 nm wd gs ns = 1 ∨ chk4 nm wd gs ns = 2 := by
  unfold chk4
  repeat (first | (exact .inl rfl) | (exact .inr (.inl rfl)) | (exact .inr (.inr rfl)) | split)
theorem ok_pl {N L : Addr} {f : Addr} {fd : FuncData} (F : Fun K "parse_limit" "parse_limit" sPl f fd) (T : Bt mg) (c : Cc K mg N L) (cR : PFn P w K mg base 3 "read_limit" 1 gRl) (cCl : EFn P w K mg base 3 "check_limit" 1 (gCl N L)) : FnOk P w K mg base CX0 4 f fd ["line"] (spP K 1 gPl) := by
  refine fn_pure F scPl (by rintro ds Pd ⟨_, rfl, _⟩; rfl) fun cdv A outer s H E ds Pd hr hG => ?_
  obtain ⟨z, rfl, ok, rfl⟩ := hG
  have nd := scPl.nd
  have hl := ok.len
  have hin : ∀ x ∈ Txt.split z " ", x.length ≤ 1000 := fun x hx => Nat.le_trans (split_in hx) hl
  have hfew := ok.few
  have hok := ok.ok
  refine jss_cons (js_set (i := 1) (j_split (jv 0 rfl) (ja_cons j_str ja_nil) (by decide +kernel) (le_size (by omega))) ?_ nd)
  unfold parL
  show JSs _ [] _ [some (.fz (.str z)), some (.fz (.lst ((Txt.split z " ").map D.str))), none] _
  generalize Txt.split z " " = ws at hin hfew hok
  refine jss_cons (js_if (t := decide (ws.length < 3)) (JT.to (jt_cm (jb_len T (n := ws.length) (ja_cons (jv 1 rfl) ja_nil) (by show some _ = _; rw [List.length_map])) j_int cd_ltI) (decide_eq_decide.mpr (show _ ↔ ws.length < 3 from ⟨fun q => by omega, fun q => by omega⟩))) (fun h => ?_) (fun h => jss_nil ?_))
  · have h3 : ws.length < 3 := of_decide_eq_true h
    exact jss_cons (js_ret j_non (show D.non = limO (parW ws) from by unfold parW; rw [if_pos h3]; rfl))
  have h3 : ¬ ws.length < 3 := of_decide_eq_false h
  have e : parW ws = match rdL ws with | none => none | some l => if okC l = true then some l else none := if_neg h3
  refine jss_cons (js_set (i := 2) (j_call cR hr (ja_cons (jv 1 rfl) ja_nil) ⟨ws, rfl, by omega, hfew, hin, rfl⟩ (fun _ h => h)) ?_ nd)
  rw [e]
  cases hrd : rdL ws with
  | none => exact jss_cons (js_ifT (jt_cm (jv 2 rfl) j_non cd_isN) (jss_cons (js_ret j_non rfl)))
  | some l =>
    refine jss_cons (js_ifF (jt_cm (jv 2 rfl) j_non cd_isN) (jss_nil ?_))
    refine jss_cons (js_tryT (c1 := .ref N) (c2 := .ref L) ⟨rfl, by decide, .inl c.gN⟩ ⟨rfl, by decide, .inl c.gL⟩ (fun pn xe ps => ?_))
    refine jss_cons (js_exX (jx_call cCl hr (ja_cons (jv 2 rfl) ja_nil) (.inr ⟨l.1, l.2.1, l.2.2.1, l.2.2.2, rfl, hok l hrd, rfl, rfl⟩)) (fun d hd => jss_nil ?_) (fun er hR => ?_))
    · have hc : okC l = true := decide_eq_true hd.1
      exact jss_cons (js_ret (jv 2 rfl) (show lmD l = limO (if okC l = true then some l else none) from by rw [if_pos hc]; rfl))
    · have hn : ¬ okC l = true := fun q => by
        have q0 : chk4 l.1 l.2.1 l.2.2.1 l.2.2.2 = 0 := of_decide_eq_true q
        rcases hR with ⟨h1, _⟩ | ⟨h1, _⟩ <;> rw [q0] at h1 <;> cases h1
      refine ⟨?_, fun a oe d pn2 hz hf => jss_cons (js_ret j_non (show D.non = limO (if okC l = true then some l else none) from by rw [if_neg hn]; rfl))⟩
      rcases hR with ⟨_, rfl⟩ | ⟨_, rfl⟩
      · exact any_two c.nn c.nl rfl
      · exact any_two c.ln c.ll rfl
end
end Toy

namespace Toy
open PySem PyProof.Rows L2 Pf
section
variable {P : Program} {w : World} {K : PySem.W.Frag} {mg : Str → Option Value} {base : Heap}
/-! ### parse_book, of any text -/
/-- the number of the first wrong line: the lines, the limits ahead, the next line's number -/
def errB : List Str → List Lim → Nat → Option Nat
  | [], _, _ => none
  | z :: r, ls, k => match parL z with
    | none => some k
    | some l => if 8 < k ∨ l.1 ∈ ls.map (·.1) then some k else errB r (ls ++ [l]) (k + 1)
def GNum (d : D) : Prop := ∃ i : Int, d = .int i ∧ 0 ≤ i ∧ i < 1000000
abbrev eLine (C : Addr) (k : Nat) : Er := ⟨.ref C, some [("line", .int (k : Int))]⟩
structure OkT (z : Str) : Prop where
  len : z.length ≤ 9000
  few : (Txt.split z "\n").length ≤ 1000
  all : ∀ x ∈ Txt.split z "\n", OkLine x
  good : errB (Txt.split z "\n") [] 1 = none → ∀ l ∈ (Txt.split z "\n").filterMap parL, GoodLm l
abbrev sPb : Stmt := top 35
abbrev nPb : List Str := ["text", "limits", "number", "line", "limit", "known"]
theorem scPb : FnScope nPb ["text"] (defScope sPb) := ⟨rfl, rfl, rfl, by decide +kernel, rfl, by decide +kernel, by decide +kernel⟩
def gPb (C CN : Addr) : List D → (D → Prop) → (Er → Prop) → Prop := fun ds P R => ∃ z : Str, ds = [.str z] ∧ OkT z ∧
  (P = fun d => errB (Txt.split z "\n") [] 1 = none ∧ ∃ ms, BkOf ms ((Txt.split z "\n").filterMap parL) ∧ d = bkD C ms) ∧ R = fun er => ∃ k, k ≤ 1001 ∧ errB (Txt.split z "\n") [] 1 = some k ∧ er = eLine CN k
theorem ok_pb {C CN : Addr} {f : Addr} {fd : FuncData} (F : Fun K "parse_book" "parse_book" sPb f fd) (T : Bt mg) (X : Bk K mg C) (cP : PFn P w K mg base 4 "parse_limit" 1 gPl) (mI : MMake P w K mg base 4 "Book" C 2 (gInit C)) (sN : SupErr P w K mg base 1 "InvalidNotation" CN "line" GNum) : FnOk P w K mg base (L2.CX P w) 6 f fd ["text"] (spE K 1 (gPb C CN)) := by
  refine fn_err F scPb (by rintro ds Pd R ⟨_, rfl, _⟩; rfl) fun cdv A outer s H E ds Pd R hr hG ps => ?_
  obtain ⟨z, rfl, ok, rfl, rfl⟩ := hG
  have nd := scPb.nd
  have hlen := ok.len
  have hfew := ok.few
  have hall := ok.all
  have hgood := ok.good
  have hne : Txt.split z "\n" ≠ [] := split_ne (by decide +kernel)
  refine jss_cons (js_setN (i := 1) (jn_lst ja_nil) ?_ nd)
  generalize hzs : Txt.split z "\n" = zs at hfew hall hgood hne
  refine jss_cons (js_for (pat := .tp [2, 3]) (fun k ρ => ∃ (acc : List Lim) (o2 o3 o4 : Option SV), ρ = [some (.fz (.str z)), some (.ow (.lst (acc.map lmD))), o2, o3, o4, none] ∧ acc = (zs.take k).filterMap parL ∧ acc.length = k ∧ k ≤ 8 ∧ (acc.map (·.1)).Nodup ∧ errB zs [] 1 = errB (zs.drop k) acc (k + 1))
    (ji_enumLs T (J.to (j_split (jv 0 rfl) (ja_cons j_str ja_nil) (by decide +kernel) (le_size (by omega))) (show _ = D.lst (zs.map D.str) from by rw [hzs])) (by omega) (by omega)) (pg_tup rfl (pgs_cons (pg_name nd rfl (Or.inl rfl)) (pgs_cons (pg_name nd rfl (Or.inl rfl)) pgs_nil))) ⟨[], _, _, _, rfl, rfl, rfl, by omega, List.nodup_nil, rfl⟩ ?_ ?_ ps)
  · rintro k d ρ hd ⟨acc, o2, o3, o4, rfl, ha, hak, hk8, hnd, he⟩
    obtain ⟨x, hx, rfl⟩ := enumLD_get hd
    rw [List.getElem?_map] at hx
    cases q : zs[k]? with
    | none => rw [q] at hx; cases hx
    | some y =>
      rw [q] at hx; cases hx
      obtain ⟨hkl, hke⟩ := List.getElem?_eq_some_iff.mp q
      have hdr : zs.drop k = y :: zs.drop (k + 1) := by rw [List.drop_eq_getElem_cons hkl, hke]
      rw [hdr] at he
      have oy := hall y (List.mem_of_getElem? q)
      refine ⟨_, rfl, ?_⟩
      have k1 : ((1 : Int) + (k : Nat)) = ((k + 1 : Nat) : Int) := by omega
      refine jss_cons (js_set (i := 4) (j_call cP hr (ja_cons (jv 3 rfl) ja_nil) ⟨y, rfl, oy, rfl⟩ (fun _ h => h)) ?_ nd)
      have rz : errB zs [] 1 = some (k + 1) → ∃ m, m ≤ 1001 ∧ errB zs [] 1 = some m ∧ eLine CN (k + 1) = eLine CN m := fun h => ⟨k + 1, by omega, h, rfl⟩
      cases hp : parL y with
      | none =>
        have e1 : errB zs [] 1 = some (k + 1) := by rw [he]; show (match parL y with | none => some (k + 1) | some l => _) = _; rw [hp]
        refine jss_cons (js_ifT (JT.to (jt_w (jw_or (t := true) (u := true) (jt_cm (jv 4 rfl) j_non cd_isN) (fun z => by cases z))) rfl) ?_)
        refine jss_cons (js_raise (jmk_sup sN hr (ja_cons (jv 2 rfl) ja_nil) ⟨_, rfl, by omega, by omega⟩ rfl) ?_)
        rw [k1]
        exact rz e1
      | some l =>
        have e2 : errB (y :: zs.drop (k + 1)) acc (k + 1) = if 8 < k + 1 ∨ l.1 ∈ acc.map (fun l : Lim => l.1) then some (k + 1) else errB (zs.drop (k + 1)) (acc ++ [l]) (k + 2) := by
          show (match parL y with | none => some (k + 1) | some l => if 8 < k + 1 ∨ l.1 ∈ acc.map (fun l : Lim => l.1) then some (k + 1) else errB (zs.drop (k + 1)) (acc ++ [l]) (k + 1 + 1)) = _
          rw [hp]
        by_cases h8 : 8 < k + 1
        · have e1 : errB zs [] 1 = some (k + 1) := by rw [he, e2, if_pos (.inl h8)]
          refine jss_cons (js_ifT (JT.to (jt_w (jw_or (t := false) (u := true) (jt_cm (jv 4 rfl) j_non cd_isN) (fun _ => jw_or (t := true) (u := true) (JT.to (jt_cm (jv 2 rfl) (j_gI X.ml) cd_gtI) (decide_eq_true (by omega))) (fun z => by cases z)))) rfl) ?_)
          refine jss_cons (js_raise (jmk_sup sN hr (ja_cons (jv 2 rfl) ja_nil) ⟨_, rfl, by omega, by omega⟩ rfl) ?_)
          rw [k1]
          exact rz e1
        · have hin : ∀ (b : Bool), decide (l.1 ∈ acc.map (·.1)) = b → (b = true → errB zs [] 1 = some (k + 1)) ∧ (b = false → errB zs [] 1 = errB (zs.drop (k + 1)) (acc ++ [l]) (k + 2)) := fun b hb => ⟨fun q => by
              subst q
              rw [he, e2, if_pos (.inr (of_decide_eq_true hb))], fun q => by
              subst q
              rw [he, e2, if_neg (by
                rintro (h | h)
                · exact h8 h
                · exact (of_decide_eq_false hb) h)]⟩
          refine jss_cons (js_if (t := decide (l.1 ∈ acc.map (·.1))) (JT.to (jt_w (jw_or (t := false) (jt_cm (jv 4 rfl) j_non cd_isN) (fun _ => jw_or (t := false) (JT.to (jt_cm (jv 2 rfl) (j_gI X.ml) cd_gtI) (decide_eq_false (by omega))) (fun _ => jw_or1 (jt_cm (j_ix (jv 4 rfl) j_int (ixd_T rfl)) (J.to (j_lcM (own := [("known", 5)]) (i := 5) acc lmD (fun l => D.str l.1) (ji_list (jv 1 rfl)) (blkOk_by (N := nPb) (sc := defScope sPb) (by decide +kernel)) (fun _ _ _ _ _ => pg_name nd rfl (Or.inl rfl)) (lt_size (by omega)) (fun l hl s0 H C cl fp => j_ix (jv 5 rfl) j_int (ixd_T rfl)) nd) (show _ = D.lst ((acc.map (fun l : Lim => l.1)).map D.str) from by rw [List.map_map]; rfl)) cd_inStrL))))) ?_) (fun h => ?_) (fun h => jss_nil ?_))
          · rw [Bool.false_or, Bool.false_or]
          · refine jss_cons (js_raise (jmk_sup sN hr (ja_cons (jv 2 rfl) ja_nil) ⟨_, rfl, by omega, by omega⟩ rfl) ?_)
            rw [k1]
            exact rz ((hin true h).1 rfl)
          · refine jss_cons (js_append (i := 1) (ds := acc.map lmD) rfl (jv 4 rfl) (by rw [List.length_map]; exact lt_size (by omega)) (jss_nil ⟨acc ++ [l], some (.fz (.int (1 + (k : Nat)))), some (.fz (.str y)), some (.fz (lmD l)), ?_, ?_, ?_, by omega, ?_, (hin false h).2 rfl⟩))
            · rw [List.map_append]; rfl
            · rw [List.take_add_one, q, List.filterMap_append, ← ha]
              rw [show (some y).toList = [y] from rfl, List.filterMap_cons, hp, List.filterMap_nil]
            · rw [List.length_append, hak]; rfl
            · rw [List.map_append]
              refine List.nodup_append.mpr ⟨hnd, by simp, fun a ha b hb => ?_⟩
              rw [List.map_cons, List.map_nil, List.mem_singleton] at hb
              subst hb
              intro q
              subst q
              exact (of_decide_eq_false h) ha
  · rintro ρ ⟨acc, o2, o3, o4, rfl, ha, hak, hk8, hnd, he⟩
    rw [enumLD_length, List.length_map] at hak hk8 he ha
    rw [List.take_length] at ha
    rw [List.drop_length] at he
    have he' : errB zs [] 1 = none := he
    have hg := hgood he'
    rw [← ha] at hg
    have h1 : 1 ≤ acc.length := by rw [hak]; exact List.length_pos_iff.mpr hne
    refine jss_cons (js_retP (jp_O (jo_make mI hr (ja_cons (jv 1 rfl) ja_nil) ⟨acc, rfl, rfl, hg, hnd, h1, by omega, rfl⟩ (fun r d' h => h.1))) ?_)
    rintro _ ⟨_, _, ms, hm, rfl⟩
    exact ⟨he', ms, ha ▸ hm, rfl⟩
end
end Toy

namespace Toy
open PySem PyProof.Rows L2 Pf
section
variable {P : Program} {w : World} {K : PySem.W.Frag} {mg : Str → Option Value} {base : Heap}
/-! ### _law_told -/
abbrev sTo : Stmt := top 43
theorem scTo : FnScope ["text", "error"] ["text"] (defScope sTo) := ⟨rfl, rfl, rfl, by decide +kernel, rfl, by decide +kernel, by decide +kernel⟩
def toldT : Option Nat → Int
  | none => 0
  | some k => k
def errT (z : Str) : Option Nat := errB (Txt.split z "\n") [] 1
def gTo : List D → (D → Prop) → Prop := fun ds P => ∃ z : Str, ds = [.str z] ∧ OkT z ∧ P = fun d => d = .int (toldT (errT z))
theorem rep_ad_eq {K : PySem.W.Frag} {W : Hp} {a : Addr} {v : V} (h : Rep K W (adD a) v) : v = .ref a := by cases h; rfl
/-- what K tells of the errors -/
structure Cn (K : PySem.W.Frag) (mg : Str → Option Value) (CN N L LE : Addr) : Prop where
  g : mg "InvalidNotation" = some (.ref CN)
  ex : PySem.W.exmOne K (.ref CN) (.ref CN) = some true
  xf : XfC K CN
  no : PySem.W.findIn K (.ref CN) "line" = some none
  x : ExcC K CN
  gN : mg "InvalidName" = some (.ref N)
  gL : mg "InvalidLimit" = some (.ref L)
  gE : mg "LimitError" = some (.ref LE)
  kN : PySem.W.kitOne K (.ref CN) (.ref N) = some false
  kL : PySem.W.kitOne K (.ref CN) (.ref L) = some false
  kE : PySem.W.kitOne K (.ref CN) (.ref LE) = some true
theorem ok_to {C CN N L LE : Addr} {f : Addr} {fd : FuncData} (F : Fun K "_law_told" "_law_told" sTo f fd) (T : Bt mg) (cP : EFn P w K mg base 6 "parse_book" 1 (gPb C CN)) (c : Cn K mg CN N L LE) : FnOk P w K mg base CX0 7 f fd ["text"] (spP K 1 gTo) := by
  refine fn_pure F scTo (by rintro ds Pd ⟨_, rfl, _⟩; rfl) fun cdv A outer s H X ds Pd hr hG => ?_
  obtain ⟨z, rfl, hz, rfl⟩ := hG
  have nd := scTo.nd
  refine jss_cons (js_try (HdJ.named (c := .ref CN) (i := 1) ⟨rfl, by decide, .inl c.g⟩ rfl rfl .nil) (fun pn xe ps => ?_) nd)
  refine jss_cons (js_exX (jx_call cP hr (ja_cons (jv 0 rfl) ja_nil) ⟨z, rfl, hz, rfl, rfl⟩) (fun d hd => ?_) (fun er hR => ?_))
  · have he : errT z = none := hd.1
    refine jss_cons (js_ret j_int ?_)
    show D.int 0 = D.int (toldT (errT z))
    rw [he]; rfl
  · obtain ⟨k, hk, he0, rfl⟩ := hR
    have he : errT z = some k := he0
    refine ⟨true, c.ex, fun _ => ⟨by simp, fun a oe d pn2 hz2 hf hd => ?_⟩, fun h => by cases h⟩
    obtain ⟨dd, rfl⟩ := hd rfl
    refine jss_cons (js_ifF (JT.to (jt_w (jw_or (t := false) (u := false) (jt_val (jb_isi (b := false) T (ja_cons (j_excA c.xf c.no hz2 hf (jv 1 rfl) rfl) (ja_cons (j_ty (T := "bool") T.bool (by decide +kernel)) ja_nil)) rfl (by rfl)))
      (fun _ => jw_or (t := false) (u := false) (jt_val (j_isX T c.x hz2 hf (jv 1 rfl) (j_glob (v := .ref L) c.gL rfl (fun H => rep_ad)) (fun W v h => rep_ad_eq h) (fun u h => h) c.kL))
      (fun _ => jw_or (t := false) (u := false) (jt_val (j_isX T c.x hz2 hf (jv 1 rfl) (j_glob (v := .ref N) c.gN rfl (fun H => rep_ad)) (fun W v h => rep_ad_eq h) (fun u h => h) c.kN))
      (fun _ => jw_or1 (JT.to (jt_not (jt_val (j_isX T c.x hz2 hf (jv 1 rfl) (j_glob (v := .ref LE) c.gE rfl (fun H => rep_ad)) (fun W v h => rep_ad_eq h) (fun u h => h) c.kE))) rfl)))))) rfl) (jss_nil ?_))
    refine jss_cons (js_ret (j_excA c.xf c.no hz2 hf (jv 1 rfl) rfl) ?_)
    show D.int (k : Int) = D.int (toldT (errT z))
    rw [he]; rfl
end
end Toy

namespace Toy
open PySem PyProof.Rows L2 Pf
section
variable {P : Program} {w : World} {K : PySem.W.Frag} {mg : Str → Option Value} {base : Heap}
/-! ### joined words -/
theorem jn_cons (a b : Str) (r : List Str) : Txt.join " " (a :: b :: r) = a ++ " " ++ Txt.join " " (b :: r) := by rw [TL.join_eq, TL.join_eq]; rfl
theorem jn_one (a : Str) : Txt.join " " [a] = a := by rw [TL.join_eq]; rfl
theorem jn_snoc (x : Str) (ys : List Str) (z : Str) : Txt.join " " (x :: (ys ++ [z])) = Txt.join " " (x :: ys) ++ " " ++ z := by
  rw [← join_fold, ← join_fold, List.foldl_append]; rfl
theorem emp_app (a : Str) : ("" : Str) ++ a = a := by
  show (⟨#[] ++ a.cps⟩ : Str) = a
  rw [Array.empty_append]
theorem app_emp (a : Str) : a ++ ("" : Str) = a := by
  show (⟨a.cps ++ #[]⟩ : Str) = a
  rw [Array.append_empty]
theorem jn_two (x : Str) (ys zs : List Str) (h : zs ≠ []) : Txt.join " " ((x :: ys) ++ zs) = Txt.join " " (x :: ys) ++ " " ++ Txt.join " " zs := by
  cases zs with
  | nil => exact absurd rfl h
  | cons z zs =>
    rw [List.cons_append, ← join_fold, List.foldl_append, join_fold]
    rw [join_fold, jn_cons]
/-! ### _law_spoilt -/
def spWd (n : Str) (k : Nat) : Str := (["0" ++ n, "-" ++ n, n ++ "x", "12345678", "+" ++ n, "1000001"] : List Str).getD (k % 6) ""
/-- the words of the spoilt line -/
def spV (ws : List Str) (a : Nat) (b : Bool) : Nat → List Str
  | 0 => [""]
  | 1 => "" :: ws
  | 2 => ws ++ ([""] : List Str)
  | 3 => ws.getD 0 "" :: "" :: ws.drop 1
  | 4 => ws ++ (["1"] : List Str)
  | 5 => ws.take 2
  | 6 => ws.getD 0 "" :: (ws.getD 1 "" ++ "s") :: ws.drop 2
  | 7 => ("A" ++ ws.getD 0 "") :: ws.drop 1
  | 8 => ws ++ (["for", "b", "a"] : List Str)
  | 9 => ws ++ [if b = true then ("0" : Str) else "for"]
  | 10 => ws.dropLast ++ [ws.getLastD "" ++ ":"]
  | 11 => ws.drop 1
  | k + 12 => ws.take a ++ [spWd (ws.getD a "") (k + 12)] ++ ws.drop (a + 1)
/-- the number that is changed -/
structure SpAt (ws : List Str) (a : Nat) : Prop where
  lo : 2 ≤ a
  hi : a < ws.length
  pool : ws.getD 1 "" = "pool" → a = 2
  grp : ("for" : Str) ∈ ws → a = 2
def forB (z : Str) : Bool := !(Builtin.Str.occurrences z " for " 0 z.length 1).isEmpty
def raws (ws : List Str) (z : Str) : List Str := ["", " " ++ z, z ++ " ", (ws.getD 0 "" ++ "  ") ++ Txt.join " " (ws.drop 1), z ++ " 1", Txt.join " " (ws.take 2), Txt.join " " (ws.getD 0 "" :: (ws.getD 1 "" ++ "s") :: ws.drop 2), Txt.join " " (("A" ++ ws.getD 0 "") :: ws.drop 1), z ++ " for b a", z ++ " for", z ++ ":", Txt.join " " (ws.drop 1)]
theorem raw_is {ws : List Str} (h3 : 3 ≤ ws.length) (a : Nat) {k : Nat} (hk : k < 12) : (raws ws (Txt.join " " ws)).getD k "" = Txt.join " " (spV ws a false k) := by
  obtain ⟨w0, w1, w2, r, rfl⟩ : ∃ w0 w1 w2 r, ws = w0 :: w1 :: w2 :: r := by
    match ws, h3 with
    | a :: b :: c :: r, _ => exact ⟨a, b, c, r, rfl⟩
  match k, hk with
  | 0, _ => exact (jn_one "").symm
  | 1, _ =>
    show " " ++ Txt.join " " (w0 :: w1 :: w2 :: r) = Txt.join " " ("" :: w0 :: w1 :: w2 :: r)
    rw [jn_cons "" w0, emp_app]
  | 2, _ =>
    show Txt.join " " (w0 :: w1 :: w2 :: r) ++ " " = Txt.join " " (w0 :: ((w1 :: w2 :: r) ++ ([""] : List Str)))
    rw [jn_snoc, app_emp]
  | 3, _ =>
    show (w0 ++ "  ") ++ Txt.join " " (w1 :: w2 :: r) = Txt.join " " (w0 :: "" :: w1 :: w2 :: r)
    rw [jn_cons w0 "", jn_cons "" w1, emp_app, show ("  " : Str) = " " ++ " " from by decide +kernel]
    simp only [sapp_assoc]
  | 4, _ =>
    show Txt.join " " (w0 :: w1 :: w2 :: r) ++ " 1" = Txt.join " " (w0 :: ((w1 :: w2 :: r) ++ (["1"] : List Str)))
    rw [jn_snoc, show (" 1" : Str) = " " ++ "1" from by decide +kernel, sapp_assoc]
  | 5, _ => rfl
  | 6, _ => rfl
  | 7, _ => rfl
  | 8, _ =>
    show Txt.join " " (w0 :: w1 :: w2 :: r) ++ " for b a" = Txt.join " " ((w0 :: w1 :: w2 :: r) ++ (["for", "b", "a"] : List Str))
    rw [jn_two _ _ _ (by simp)]
    generalize Txt.join " " (w0 :: w1 :: w2 :: r) = z
    rw [jn_cons, jn_cons, jn_one, show (" for b a" : Str) = " " ++ ("for" ++ (" " ++ ("b" ++ (" " ++ "a")))) from by decide +kernel]
    simp only [sapp_assoc]
  | 9, _ =>
    show Txt.join " " (w0 :: w1 :: w2 :: r) ++ " for" = Txt.join " " (w0 :: ((w1 :: w2 :: r) ++ (["for"] : List Str)))
    rw [jn_snoc, show (" for" : Str) = " " ++ "for" from by decide +kernel, sapp_assoc]
  | 10, _ =>
    show Txt.join " " (w0 :: w1 :: w2 :: r) ++ ":" = Txt.join " " ((w0 :: w1 :: (w2 :: r).dropLast) ++ [(w2 :: r).getLastD "" ++ ":"])
    have e : w2 :: r = (w2 :: r).dropLast ++ [(w2 :: r).getLastD ""] := by
      have q := List.dropLast_concat_getLast (l := w2 :: r) (by simp)
      rw [List.getLastD_eq_getLast?, List.getLast?_eq_some_getLast (by simp)]
      exact q.symm
    have s1 : ∀ x : Str, Txt.join " " (w0 :: ((w1 :: (w2 :: r).dropLast) ++ [x])) = Txt.join " " (w0 :: (w1 :: (w2 :: r).dropLast)) ++ " " ++ x := fun x => jn_snoc w0 _ x
    have s2 := s1 ((w2 :: r).getLastD "")
    rw [List.cons_append, ← e] at s2
    rw [s2, List.cons_append, s1]
    simp only [sapp_assoc]
  | 11, _ => rfl
theorem raw_nine {ws : List Str} (h3 : 3 ≤ ws.length) (a : Nat) : Txt.join " " ws ++ " 0" = Txt.join " " (spV ws a true 9) := by
  obtain ⟨w0, r, rfl⟩ : ∃ w0 r, ws = w0 :: r := by
    match ws, h3 with
    | a :: r, _ => exact ⟨a, r, rfl⟩
  show Txt.join " " (w0 :: r) ++ " 0" = Txt.join " " (w0 :: (r ++ (["0"] : List Str)))
  rw [jn_snoc, show (" 0" : Str) = " " ++ "0" from by decide +kernel, sapp_assoc]
theorem get12 {r0 r1 r2 r3 r4 r5 r6 r7 r8 r9 r10 r11 : Str} {k : Nat} (hk : k < 12) : getD ([(0, D.str r0), (1, .str r1), (2, .str r2), (3, .str r3), (4, .str r4), (5, .str r5), (6, .str r6), (7, .str r7), (8, .str r8), (9, .str r9), (10, .str r10), (11, .str r11)].map fun q : Int × D => ((.inl q.1 : Key), q.2)) (.inl (k : Int)) = some (.str (([r0, r1, r2, r3, r4, r5, r6, r7, r8, r9, r10, r11] : List Str).getD k "")) := by
  match k, hk with
  | 0, _ => rfl
  | 1, _ => rfl
  | 2, _ => rfl
  | 3, _ => rfl
  | 4, _ => rfl
  | 5, _ => rfl
  | 6, _ => rfl
  | 7, _ => rfl
  | 8, _ => rfl
  | 9, _ => rfl
  | 10, _ => rfl
  | 11, _ => rfl
theorem join_fits {v : List Str} (h : ∀ x ∈ v, x.length ≤ 100) (hl : v.length ≤ 20) : (v.map (·.length)).sum + v.length * (" " : Str).length ≤ 16777216 ∧ (Txt.join " " v).length ≤ 2020 := by
  have s := sum_le (xs := v) (m := 100) h
  have e : (" " : Str).length = 1 := by decide +kernel
  have q := join_len " " v
  rw [e] at q ⊢
  have := Nat.mul_le_mul_right 100 hl
  omega
abbrev sSp : Stmt := top 44
def atF (ws : List Str) (n : Int) : Nat := if ws.getD 1 "" = "pool" then 2 else if ("for" : Str) ∈ ws then 2 else (2 + n % ((ws.length : Int) - 2)).toNat
theorem scSp : FnScope ["line", "kind", "number", "parts", "at", "number_of", "bad", "word"] ["line", "kind", "number"] (defScope sSp) := ⟨rfl, rfl, rfl, by decide +kernel, rfl, by decide +kernel, by decide +kernel⟩
def gSp : List D → (D → Prop) → Prop := fun ds P => ∃ (ws : List Str) (k : Nat) (n : Int), ds = [.str (Txt.join " " ws), .int k, .int n] ∧ (∀ x ∈ ws, OkWd x) ∧ 3 ≤ ws.length ∧ ws.length ≤ 10 ∧ k < 18 ∧ 0 ≤ n ∧ P = fun d => ∃ a, a = atF ws n ∧ SpAt ws a ∧ d = .str (Txt.join " " (spV ws a (forB (Txt.join " " ws)) k))
theorem ok_sp {f : Addr} {fd : FuncData} (F : Fun K "_law_spoilt" "_law_spoilt" sSp f fd) (T : Bt mg) : FnOk P w K mg base CX0 1 f fd ["line", "kind", "number"] (spP K 3 gSp) := by
  refine fn_pure F scSp (by rintro ds Pd ⟨_, _, _, rfl, _⟩; rfl) fun cdv A outer s H X ds Pd hr hG => ?_
  obtain ⟨ws, kd, n, rfl, hw, h3, h10, hk, hn, rfl⟩ := hG
  have nd := scSp.nd
  have hu := Nat.lt_of_le_of_lt (Nat.add_le_add_left (by decide : 1 ≤ 64) _) hr.units
  have hw100 : ∀ x ∈ ws, x.length ≤ 100 := fun x hx => by have := (hw x hx).len; omega
  have w40 : ∀ i, (ws.getD i "").length ≤ 40 := fun i => by
    rw [List.getD_eq_getElem?_getD]
    cases q : ws[i]? with
    | none => decide +kernel
    | some z => exact (hw z (List.mem_of_getElem? q)).len
  have hzl := (join_fits hw100 (by omega)).2
  have hdl := (join_fits (v := ws.drop 1) (fun x hx => hw100 x (List.mem_of_mem_drop hx)) (by rw [List.length_drop]; omega))
  have htl := (join_fits (v := ws.take 2) (fun x hx => hw100 x (List.mem_of_mem_take hx)) (by rw [List.length_take]; omega))
  have hsp : Txt.split (Txt.join " " ws) " " = ws := TL.split_join (s := 32) (S := []) (by decide +kernel) (by decide +kernel) (fun e => by rw [e] at h3; simp at h3) fun p hp => wd_no (hw p hp) (by decide)
  have hraw := fun a k (h : k < 12) => raw_is h3 a h
  have hnine := raw_nine h3
  refine jss_cons (js_set (i := 3) (J.to (j_split (jv 0 rfl) (ja_cons j_str ja_nil) (by decide +kernel) (le_size (by omega))) (show _ = D.lst (ws.map D.str) from by rw [hsp])) ?_ nd)
  generalize hz : Txt.join " " ws = z at hzl hraw hnine
  have lenW : lenD (.lst (ws.map D.str)) = some ws.length := by show some _ = _; rw [List.length_map]
  obtain ⟨a0, ha0, hlo0, hhi0⟩ : ∃ a0 : Nat, 2 + n % ((ws.length : Int) - 2) = (a0 : Int) ∧ 2 ≤ a0 ∧ a0 < ws.length := by
    have q0 := Int.emod_nonneg n (b := (ws.length : Int) - 2) (by omega)
    have q1 := Int.emod_lt_of_pos n (b := (ws.length : Int) - 2) (by omega)
    exact ⟨(2 + n % ((ws.length : Int) - 2)).toNat, by omega, by omega, by omega⟩
  refine jss_cons (js_set (i := 4) (J.to (j_bin j_int (j_bin (jb_int T (ja_cons (jv 2 rfl) ja_nil)) (j_bin (jb_len T (ja_cons (jv 3 rfl) ja_nil) lenW) j_int od_subI) (od_modI (by omega))) od_addI) (congrArg D.int ha0)) ?_ nd)
  have ix1 : IxD (.lst (ws.map D.str)) (.int 1) (.str (ws.getD 1 "")) := ixd_L (strs_at (by decide) (by omega))
  refine jss_mid (fun ρ => ∃ a : Nat, ρ = [some (.fz (.str z)), some (.fz (.int (kd : Int))), some (.fz (.int n)), some (.fz (.lst (ws.map D.str))), some (.fz (.int (a : Int))), none, none, none] ∧ 2 ≤ a ∧ a < ws.length ∧ (ws.getD 1 "" ≠ "pool" → ("for" : Str) ∈ ws → a = 2) ∧ (ws.getD 1 "" ≠ "pool" → ("for" : Str) ∉ ws → a = a0))
    (js_if (t := !decide (ws.getD 1 "" = "pool") && decide (("for" : Str) ∈ ws)) (jt_w (jw_and (jt_cm (j_ix (jv 3 rfl) j_int ix1) j_str cd_neS) (fun _ => jw_and1 (jt_cm j_str (jv 3 rfl) cd_inStrL)))) (fun h => jss_cons (js_set (i := 4) j_int (jss_nil ⟨_, rfl, 2, rfl, by omega, by omega, fun _ _ => rfl, fun _ q2 => by rw [decide_eq_false q2, Bool.and_false] at h; cases h⟩) nd)) (fun h => jss_nil ⟨_, rfl, a0, rfl, hlo0, hhi0, fun h1 h2 => ?_, fun _ _ => rfl⟩)) ?_
  · rw [decide_eq_false h1, decide_eq_true h2] at h; cases h
  rintro _ ⟨a1, rfl, hlo1, hhi1, hg1, hf1⟩
  refine jss_mid (fun ρ => ∃ a : Nat, ρ = [some (.fz (.str z)), some (.fz (.int (kd : Int))), some (.fz (.int n)), some (.fz (.lst (ws.map D.str))), some (.fz (.int (a : Int))), none, none, none] ∧ SpAt ws a ∧ a = atF ws n)
    (js_if (jt_cm (j_ix (jv 3 rfl) j_int ix1) j_str cd_eqS) (fun h => jss_cons (js_set (i := 4) j_int (jss_nil ⟨_, rfl, 2, rfl, ⟨by omega, by omega, fun _ => rfl, fun _ => rfl⟩, by unfold atF; rw [if_pos (of_decide_eq_true h)]⟩) nd)) (fun h => jss_nil ⟨_, rfl, a1, rfl, ⟨hlo1, hhi1, fun q => absurd q (of_decide_eq_false h), fun q => hg1 (of_decide_eq_false h) q⟩, ?_⟩)) ?_
  · unfold atF
    rw [if_neg (of_decide_eq_false h)]
    by_cases q : ("for" : Str) ∈ ws
    · rw [if_pos q]; exact hg1 (of_decide_eq_false h) q
    · rw [if_neg q, hf1 (of_decide_eq_false h) q]; omega
  rintro _ ⟨a, rfl, sa, haF⟩
  have hlo := sa.lo
  have hhi := sa.hi
  have ix0 : IxD (.lst (ws.map D.str)) (.int 0) (.str (ws.getD 0 "")) := ixd_L (strs_at (by decide) (by omega))
  have ixa : IxD (.lst (ws.map D.str)) (.int (a : Int)) (.str (ws.getD a "")) := ixd_L (by have := strs_at (hs := ws) (i := (a : Int)) (by omega) (by omega); rwa [Int.toNat_natCast] at this)
  have w0 := w40 0
  have w1 := w40 1
  have wa := w40 a
  have sl1 : ∀ {X : Cx} {ρ : Rho} {e i : Expr} {p : Pos}, J X e ρ (.lst (ws.map D.str)) → J X i ρ (.int 1) → J X (.Subscript e (.Slice (some i) none none p) p) ρ (.lst ((ws.drop 1).map D.str)) → True := fun _ _ _ => trivial
  have c1 : cut (ws.map D.str) (some (1 : Int)) none = (ws.drop 1).map D.str := by rw [show (1 : Int) = ((1 : Nat) : Int) from rfl, cut_from, ← List.map_drop]
  have c2 : cut (ws.map D.str) (some (2 : Int)) none = (ws.drop 2).map D.str := by rw [show (2 : Int) = ((2 : Nat) : Int) from rfl, cut_from, ← List.map_drop]
  have c3 : cut (ws.map D.str) none (some (2 : Int)) = (ws.take 2).map D.str := by rw [show (2 : Int) = ((2 : Nat) : Int) from rfl, cut_takeN, ← List.map_take]
  have s1 : (" " : Str).length = 1 := by decide +kernel
  have s2 : ("  " : Str).length = 2 := by decide +kernel
  have s3 : (" 1" : Str).length = 2 := by decide +kernel
  have s4 : ("s" : Str).length = 1 := by decide +kernel
  have s5 : ("A" : Str).length = 1 := by decide +kernel
  have s6 : (" for b a" : Str).length = 8 := by decide +kernel
  have s7 : (" for" : Str).length = 4 := by decide +kernel
  have s8 : (":" : Str).length = 1 := by decide +kernel
  have s9 : (" 0" : Str).length = 2 := by decide +kernel
  have d1l : (ws.drop 1).length ≤ 9 := by rw [List.length_drop]; omega
  have d2l : (ws.drop 2).length ≤ 8 := by rw [List.length_drop]; omega
  have j6 := (join_fits (v := ws.getD 0 "" :: (ws.getD 1 "" ++ "s") :: ws.drop 2) (fun x hx => by
    rcases List.mem_cons.mp hx with rfl | hx
    · omega
    rcases List.mem_cons.mp hx with rfl | hx
    · rw [app_len, s4]; omega
    · exact hw100 x (List.mem_of_mem_drop hx)) (by simp only [List.length_cons]; omega)).1
  have j7 := (join_fits (v := ("A" ++ ws.getD 0 "") :: ws.drop 1) (fun x hx => by
    rcases List.mem_cons.mp hx with rfl | hx
    · rw [app_len, s5]; omega
    · exact hw100 x (List.mem_of_mem_drop hx)) (by simp only [List.length_cons]; omega)).1
  refine jss_cons (js_set (i := 5) (j_ix (jv 3 rfl) (jv 4 rfl) ixa) ?_ nd)
  refine jss_cons (js_set (i := 6) (j_dispI (r := [(0, D.str ""), (1, .str (" " ++ z)), (2, .str (z ++ " ")), (3, .str ((ws.getD 0 "" ++ "  ") ++ Txt.join " " (ws.drop 1))), (4, .str (z ++ " 1")), (5, .str (Txt.join " " (ws.take 2))), (6, .str (Txt.join " " (ws.getD 0 "" :: (ws.getD 1 "" ++ "s") :: ws.drop 2))), (7, .str (Txt.join " " (("A" ++ ws.getD 0 "") :: ws.drop 1))), (8, .str (z ++ " for b a")), (9, .str (z ++ " for")), (10, .str (z ++ ":")), (11, .str (Txt.join " " (ws.drop 1)))])
    (.cons j_int j_str (.cons j_int (j_bin j_str (jv 0 rfl) (od_addS (le_size (by rw [s1]; omega)))) (.cons j_int (j_bin (jv 0 rfl) j_str (od_addS (le_size (by rw [s1]; omega))))
    (.cons j_int (j_bin (j_bin (j_ix (jv 3 rfl) j_int ix0) j_str (od_addS (le_size (by rw [s2]; omega)))) (j_join j_str (J.to (j_sl (jv 3 rfl) (jo_some j_int) jo_none sld_L) (congrArg D.lst c1)) hdl.1 rfl) (od_addS (le_size (by rw [app_len, s2]; have := hdl.2; omega))))
    (.cons j_int (j_bin (jv 0 rfl) j_str (od_addS (le_size (by rw [s3]; omega))))
    (.cons j_int (j_join j_str (J.to (j_sl (jv 3 rfl) jo_none (jo_some j_int) sld_L) (congrArg D.lst c3)) htl.1 rfl)
    (.cons j_int (j_join j_str (J.to (j_bin (j_lst (ja_cons (j_ix (jv 3 rfl) j_int ix0) (ja_cons (j_bin (j_ix (jv 3 rfl) j_int ix1) j_str (od_addS (le_size (by rw [s4]; omega)))) ja_nil))) (J.to (j_sl (jv 3 rfl) (jo_some j_int) jo_none sld_L) (congrArg D.lst c2)) (od_addL (by rw [List.length_map]; show 2 + (ws.drop 2).length ≤ sizeLine; exact le_size (by omega)))) (show _ = D.lst ((ws.getD 0 "" :: (ws.getD 1 "" ++ "s") :: ws.drop 2).map D.str) from rfl)) j6 rfl)
    (.cons j_int (j_join j_str (J.to (j_bin (j_lst (ja_cons (j_bin j_str (j_ix (jv 3 rfl) j_int ix0) (od_addS (le_size (by rw [s5]; omega)))) ja_nil)) (J.to (j_sl (jv 3 rfl) (jo_some j_int) jo_none sld_L) (congrArg D.lst c1)) (od_addL (by rw [List.length_map]; show 1 + (ws.drop 1).length ≤ sizeLine; exact le_size (by omega)))) (show _ = D.lst ((("A" ++ ws.getD 0 "") :: ws.drop 1).map D.str) from rfl)) j7 rfl)
    (.cons j_int (j_bin (jv 0 rfl) j_str (od_addS (le_size (by rw [s6]; omega))))
    (.cons j_int (j_bin (jv 0 rfl) j_str (od_addS (le_size (by rw [s7]; omega))))
    (.cons j_int (j_bin (jv 0 rfl) j_str (od_addS (le_size (by rw [s8]; omega))))
    (.cons j_int (j_join j_str (J.to (j_sl (jv 3 rfl) (jo_some j_int) jo_none sld_L) (congrArg D.lst c1)) hdl.1 rfl) .nil)))))))))))) (by simp) (by decide) (by show (([0, 1, 2, 3, 4, 5, 6, 7, 8, 9, 10, 11] : List Int).map fun i => (Sum.inl i : Key)).Nodup; decide)) ?_ nd)
  refine jss_cons (js_if (t := decide ((kd : Int) = 9) && forB z) (jt_w (jw_and (jt_cm (jv 1 rfl) j_int cd_eqI) (fun _ => jw_and1 (jt_cm j_str (jv 0 rfl) cd_inText)))) (fun h => ?_) (fun h => jss_nil ?_))
  · rw [Bool.and_eq_true, decide_eq_true_iff] at h
    have hk9 : kd = 9 := by have := h.1; omega
    refine jss_cons (js_ret (j_bin (jv 0 rfl) j_str (od_addS (le_size (by rw [s9]; omega)))) ⟨a, haF, sa, ?_⟩)
    rw [hk9, h.2, ← hnine a]
  refine jss_cons (js_if (t := decide (kd < 12)) (JT.to (jt_cm (jv 1 rfl) j_int cd_ltI) (decide_eq_decide.mpr (show _ ↔ kd < 12 from ⟨fun q => by omega, fun q => by omega⟩))) (fun h12 => ?_) (fun h12 => jss_nil ?_))
  · have hk12 : kd < 12 := of_decide_eq_true h12
    refine jss_cons (js_ret (j_dgetI hu (jv 6 rfl) (jv 1 rfl) (get12 hk12)) ⟨a, haF, sa, ?_⟩)
    have e1 := hraw a kd hk12
    have hb : spV ws a (forB z) kd = spV ws a false kd := by
      by_cases q : kd = 9
      · subst q
        have hf : forB z = false := by simpa using h
        rw [hf]
      · match kd, q with
        | 0, _ => rfl
        | 1, _ => rfl
        | 2, _ => rfl
        | 3, _ => rfl
        | 4, _ => rfl
        | 5, _ => rfl
        | 6, _ => rfl
        | 7, _ => rfl
        | 8, _ => rfl
        | 10, _ => rfl
        | 11, _ => rfl
        | k + 12, _ => rfl
    rw [hb, ← e1]
    rfl
  · have hk12 : ¬ kd < 12 := of_decide_eq_false h12
    obtain ⟨k', rfl⟩ : ∃ k', kd = k' + 12 := ⟨kd - 12, by omega⟩
    have hm6 : ((k' + 12 : Nat) : Int) % 6 = (((k' + 12) % 6 : Nat) : Int) := by omega
    have l6 : (k' + 12) % 6 < 6 := Nat.mod_lt _ (by decide)
    have o0 : ("0" : Str).length = 1 := by decide +kernel
    have o1 : ("-" : Str).length = 1 := by decide +kernel
    have o2 : ("x" : Str).length = 1 := by decide +kernel
    have o4 : ("+" : Str).length = 1 := by decide +kernel
    refine jss_cons (js_set (i := 7) (j_ix (J.to (j_lst (ja_cons (j_bin j_str (jv 5 rfl) (od_addS (le_size (by rw [o0]; omega)))) (ja_cons (j_bin j_str (jv 5 rfl) (od_addS (le_size (by rw [o1]; omega)))) (ja_cons (j_bin (jv 5 rfl) j_str (od_addS (le_size (by rw [o2]; omega)))) (ja_cons j_str (ja_cons (j_bin j_str (jv 5 rfl) (od_addS (le_size (by rw [o4]; omega)))) (ja_cons j_str ja_nil))))))) (show _ = D.lst ((["0" ++ ws.getD a "", "-" ++ ws.getD a "", ws.getD a "" ++ "x", "12345678", "+" ++ ws.getD a "", "1000001"] : List Str).map D.str) from rfl)) (J.to (j_bin (jb_int T (ja_cons (jv 1 rfl) ja_nil)) j_int (od_modI (by decide))) (congrArg D.int hm6)) (ixd_L (d := D.str (spWd (ws.getD a "") (k' + 12))) (by have := strs_at (hs := (["0" ++ ws.getD a "", "-" ++ ws.getD a "", ws.getD a "" ++ "x", "12345678", "+" ++ ws.getD a "", "1000001"] : List Str)) (i := (((k' + 12) % 6 : Nat) : Int)) (by omega) (by show _ < (6 : Int); omega); rwa [Int.toNat_natCast] at this))) ?_ nd)
    have hwl : (spWd (ws.getD a "") (k' + 12)).length ≤ 100 := by
      unfold spWd
      generalize (k' + 12) % 6 = q at l6
      have b3 : ("12345678" : Str).length ≤ 100 := by decide +kernel
      have b5 : ("1000001" : Str).length ≤ 100 := by decide +kernel
      match q, l6 with
      | 0, _ => show ("0" ++ ws.getD a "" : Str).length ≤ 100; rw [app_len, o0]; omega
      | 1, _ => show ("-" ++ ws.getD a "" : Str).length ≤ 100; rw [app_len, o1]; omega
      | 2, _ => show (ws.getD a "" ++ "x" : Str).length ≤ 100; rw [app_len, o2]; omega
      | 3, _ => exact b3
      | 4, _ => show ("+" ++ ws.getD a "" : Str).length ≤ 100; rw [app_len, o4]; omega
      | 5, _ => exact b5
    have tl : (ws.take a).length ≤ 10 := by rw [List.length_take]; omega
    have dl : (ws.drop (a + 1)).length ≤ 10 := by rw [List.length_drop]; omega
    have jl := (join_fits (v := ws.take a ++ [spWd (ws.getD a "") (k' + 12)] ++ ws.drop (a + 1)) (fun x hx => by
      rcases List.mem_append.mp hx with hx | hx
      · rcases List.mem_append.mp hx with hx | hx
        · exact hw100 x (List.mem_of_mem_take hx)
        · rw [List.mem_singleton] at hx; subst hx; exact hwl
      · exact hw100 x (List.mem_of_mem_drop hx)) (by rw [List.length_append, List.length_append, List.length_singleton, List.length_take, List.length_drop]; omega)).1
    refine jss_cons (js_ret (j_join j_str (J.to (j_bin (j_bin (J.to (j_sl (jv 3 rfl) jo_none (jo_some (jv 4 rfl)) sld_L) (show _ = D.lst ((ws.take a).map D.str) from by rw [cut_takeN, ← List.map_take])) (j_lst (ja_cons (jv 7 rfl) ja_nil)) (od_addL (by rw [List.length_map]; show (ws.take a).length + 1 ≤ sizeLine; exact le_size (by omega)))) (J.to (j_sl (jv 3 rfl) (jo_some (j_bin (jv 4 rfl) j_int od_addI)) jo_none sld_L) (show _ = D.lst ((ws.drop (a + 1)).map D.str) from by rw [show ((a : Int) + 1) = ((a + 1 : Nat) : Int) from by omega, cut_from, ← List.map_drop])) (od_addL (by rw [List.length_append, List.length_map, List.length_map]; show (ws.take a).length + 1 + (ws.drop (a + 1)).length ≤ sizeLine; exact le_size (by omega))))
      (show _ = D.lst ((ws.take a ++ [spWd (ws.getD a "") (k' + 12)] ++ ws.drop (a + 1)).map D.str) from by rw [List.map_append, List.map_append]; rfl)) jl rfl) ⟨a, haF, sa, rfl⟩)
end
end Toy

namespace Toy
open PySem PyProof.Rows L2 Pf
/-! ### words, and what is asked of a line -/
def wdB (x : Str) : Bool := x.cps.toList.all (fun c => !decide (c = 32) && (!decide (c = 10) && decide (c < 200))) && decide (x.length ≤ 45)
theorem wdB_is {x : Str} : wdB x = true ↔ (∀ c ∈ x.cps.toList, c ≠ 32 ∧ c ≠ 10 ∧ c < 200) ∧ x.length ≤ 45 := by
  unfold wdB
  rw [Bool.and_eq_true, List.all_eq_true, decide_eq_true_iff]
  simp only [Bool.and_eq_true, Bool.not_eq_true', decide_eq_false_iff_not, decide_eq_true_eq]
theorem wdB_of {x : Str} (h : OkWd x) : wdB x = true := wdB_is.mpr ⟨fun c hc => by
  have q := List.all_eq_true.mp h.sg c hc
  unfold wSign nmSign at q
  simp only [Bool.or_eq_true, Bool.and_eq_true, decide_eq_true_eq] at q
  omega, by have := h.len; omega⟩
theorem app_cps (a b : Str) : (a ++ b).cps.toList = a.cps.toList ++ b.cps.toList := by
  show (a.cps ++ b.cps).toList = _
  rw [Array.toList_append]
theorem wdB_app {a b : Str} (ha : wdB a = true) (hb : wdB b = true) (hl : a.length + b.length ≤ 45) : wdB (a ++ b) = true := by
  rw [wdB_is] at ha hb ⊢
  rw [app_cps, app_len]
  exact ⟨fun c hc => (List.mem_append.mp hc).elim (ha.1 c) (hb.1 c), hl⟩
theorem okH_wd {x : Str} (h : wdB x = true) : OkH x := by
  have h' := wdB_is.mp h
  refine ⟨by omega, fun _ => ?_⟩
  have q := PySem.StrLaws.reprText_len x fun c hc => Nat.lt_trans (h'.1 c hc).2.2 (by decide)
  omega
theorem mem_join_of {c : Nat} {y p : Str} : ∀ {xs : List Str}, p ∈ xs → c ∈ p.cps.toList → c ∈ (Txt.join y xs).cps.toList
  | [], h, _ => by cases h
  | [a], h, hc => by
    rw [List.mem_singleton] at h; subst h
    rw [TL.join_eq]; exact hc
  | a :: b :: r, h, hc => by
    have e : Txt.join y (a :: b :: r) = a ++ y ++ Txt.join y (b :: r) := by rw [TL.join_eq, TL.join_eq]; rfl
    rw [e, app_cps, app_cps]
    rcases List.mem_cons.mp h with rfl | h
    · exact List.mem_append_left _ (List.mem_append_left _ hc)
    · exact List.mem_append_right _ (mem_join_of h hc)
theorem wd_part {x y p : Str} (h : wdB x = true) (hp : p ∈ Txt.split x y) : wdB p = true := by
  rw [wdB_is] at h ⊢
  refine ⟨fun c hc => h.1 c ?_, Nat.le_trans (split_in hp) h.2⟩
  have q := mem_join_of (y := y) hp hc
  rw [TL.join_eq, PySem.StrLaws.join_split] at q
  exact q
theorem wd_getD {v : List Str} (h : ∀ x ∈ v, wdB x = true) (i : Nat) : wdB (v.getD i "") = true := by
  rw [List.getD_eq_getElem?_getD]
  cases q : v[i]? with
  | none => decide +kernel
  | some z => exact h z (List.mem_of_getElem? q)
theorem numD7_ok (z : Str) : NumD (numD7 z) := by
  unfold numD7
  cases pNum z.cps.toList 7 with
  | none => exact .non
  | some n => exact .int _
theorem numD7_prt (z : Str) : prt (numD7 z) = true := by
  unfold numD7
  cases pNum z.cps.toList 7 <;> rfl
theorem gr_sub {ws gs : List Str} (h : grW ws = some gs) : ∀ g ∈ gs, g ∈ ws := by
  cases ws with
  | nil => cases h; simp
  | cons a r =>
    have h' : (if a = "for" ∧ r ≠ [] then some r else none) = some gs := h
    split at h'
    · cases h'; exact fun g hg => List.mem_cons_of_mem _ hg
    · cases h'
theorem shW_prt {z : Str} (h : wdB z = true) : (shW z).all prt = true := by
  unfold shW
  rw [List.all_cons, List.all_map]
  have h1 : ((Txt.split z ":").headD "").length ≤ 45 := by
    cases q : Txt.split z ":" with
    | nil => decide +kernel
    | cons p r => exact (wdB_is.mp (wd_part (y := ":") h (by rw [q]; simp))).2
  rw [show prt (.str ((Txt.split z ":").headD "")) = true from decide_eq_true (by omega), Bool.true_and]
  exact List.all_eq_true.mpr fun x _ => numD7_prt x
theorem rd_ok {v : List Str} (hw : ∀ x ∈ v, wdB x = true) (hl : v.length ≤ 14) (l : Lim) (h : rdL v = some l) : OkL l.1 l.2.1 l.2.2.1 l.2.2.2 := by
  have rp : ∀ {z : Str}, wdB z = true → (reprText z).length ≤ 1000 := fun {z} hz => by
    have h' := wdB_is.mp hz
    have q := PySem.StrLaws.reprText_len z fun c hc => Nat.lt_trans (h'.1 c hc).2.2 (by decide)
    omega
  unfold rdL at h
  split at h
  · rename_i hp
    cases h
    have e : ((v.drop 3).map fun z => D.tup (shW z)) = ((v.drop 3).map shW).map D.tup := by rw [List.map_map]; rfl
    refine ⟨.inl hp, rp (wd_getD hw 1), okH_wd (wd_getD hw 0), by simp, by simp, fun d hd => ?_, by simp, fun m ts he t ht => ?_⟩
    · simp only [List.mem_cons, List.not_mem_nil, or_false] at hd
      rcases hd with rfl | rfl
      · exact numD7_ok _
      · rw [e]
        refine .shs _ (fun s hs => ?_) (by rw [List.length_map, List.length_drop]; omega)
        obtain ⟨z, hz, rfl⟩ := List.mem_map.mp hs
        exact shW_prt (hw z (List.mem_of_mem_drop hz))
    · have e2 : ((v.drop 3).map fun z => D.tup (shW z)) = ts.map shD := by
        have q : [numD7 (v.getD 2 ""), D.tup ((v.drop 3).map fun z => D.tup (shW z))] = [D.int m, D.tup (ts.map shD)] := he
        injection q with _ q
        injection q with q _
        injection q
      have hm : shD t ∈ (v.drop 3).map fun z => D.tup (shW z) := by rw [e2]; exact List.mem_map.mpr ⟨t, ht, rfl⟩
      obtain ⟨z, hz, q⟩ := List.mem_map.mp hm
      have q1 : shW z = [.str t.1, .int t.2.1, .int t.2.2] := by injection q
      have q2 : (Txt.split z ":").headD "" = t.1 := by
        unfold shW at q1
        injection q1 with q1 _
        injection q1
      rw [← q2]
      cases q3 : Txt.split z ":" with
      | nil => exact okH_wd (by decide +kernel)
      | cons p r => exact okH_wd (wd_part (y := ":") (hw z (List.mem_of_mem_drop hz)) (by rw [q3]; simp))
  · rename_i hp
    cases hle : leastOf (v.getD 1 "") with
    | none => rw [hle] at h; cases h
    | some lst =>
      rw [hle] at h
      cases hg : grW (v.drop (2 + lst.length)) with
      | none => simp only [hg] at h; cases h
      | some gs =>
        simp only [hg] at h
        cases h
        have hgs : ∀ g ∈ gs, g ∈ v := fun g hg' => List.mem_of_mem_drop (gr_sub hg g hg')
        have hgl : gs.length ≤ 14 := by
          have q : gs.length ≤ (v.drop (2 + lst.length)).length := by
            cases hd : v.drop (2 + lst.length) with
            | nil => rw [hd] at hg; cases hg; simp
            | cons a r =>
              rw [hd] at hg
              have h' : (if a = "for" ∧ r ≠ [] then some r else none) = some gs := hg
              split at h'
              · cases h'; simp
              · cases h'
          rw [List.length_drop] at q; omega
        refine ⟨.inr ⟨_, least_some hle⟩, rp (wd_getD hw 1), okH_wd (wd_getD hw 0), fun g hg' => okH_wd (hw g (hgs g hg')), by show gs.length ≤ 100; omega, fun d hd => ?_, by rw [List.length_map, List.length_take, List.length_drop]; omega, fun m ts he t ht => ?_⟩
        · obtain ⟨z, _, rfl⟩ := List.mem_map.mp hd
          exact numD7_ok z
        · exfalso
          have hm : D.tup (ts.map shD) ∈ ((v.drop 2).take lst.length).map numD7 := by
            rw [show ((v.drop 2).take lst.length).map numD7 = [.int m, .tup (ts.map shD)] from he]; simp
          obtain ⟨z, _, q⟩ := List.mem_map.mp hm
          unfold numD7 at q
          cases q4 : pNum z.cps.toList 7 <;> rw [q4] at q <;> cases q
theorem jn_split {v : List Str} (hne : v ≠ []) (hw : ∀ x ∈ v, wdB x = true) : Txt.split (Txt.join " " v) " " = v :=
  TL.split_join (s := 32) (S := []) (by decide +kernel) (by decide +kernel) hne fun p hp hm => ((wdB_is.mp (hw p hp)).1 32 hm).1 rfl
theorem line_ok {v : List Str} (hne : v ≠ []) (hw : ∀ x ∈ v, wdB x = true) (hl : v.length ≤ 14) : OkLine (Txt.join " " v) where
  len := by
    have q := join_len " " v
    have s := sum_le (xs := v) (m := 45) fun x hx => (wdB_is.mp (hw x hx)).2
    have e : (" " : Str).length = 1 := by decide +kernel
    rw [e] at q
    have := Nat.mul_le_mul_right 45 hl
    omega
  few := by rw [jn_split hne hw]; omega
  ok := fun l h => rd_ok hw hl l (by rw [jn_split hne hw] at h; exact h)
theorem par_line {v : List Str} (hne : v ≠ []) (hw : ∀ x ∈ v, wdB x = true) : parL (Txt.join " " v) = parW v := by
  unfold parL
  rw [jn_split hne hw]
/-! ### when a limit is none -/
theorem par_no {v : List Str} (h : ∀ l, rdL v = some l → okC l = false) : parW v = none := by
  unfold parW
  split
  · rfl
  · cases q : rdL v with
    | none => rfl
    | some l =>
      show (if okC l = true then some l else none) = none
      rw [h l q]; rfl
theorem par_len {v : List Str} (h : v.length < 3) : parW v = none := if_pos h
theorem okC_N {nm wd : Str} {gs : List Str} {ns : List D} {lst : List Int} (hp : wd ≠ "pool") (hl : leastOf wd = some lst) (h : okC (nm, wd, gs, ns) = true) : (nm :: gs).all isNm = true ∧ ∃ is, intsOf ns = some is ∧ is.length = lst.length ∧ ascB gs = true ∧ fitN lst is = true := by
  have h0 : chk4 nm wd gs ns = 0 := of_decide_eq_true h
  unfold chk4 at h0
  by_cases h1 : (nm :: gs).all isNm = false
  · rw [if_pos h1] at h0; cases h0
  rw [if_neg h1, if_neg hp, hl] at h0
  refine ⟨by simpa using h1, ?_⟩
  cases q : intsOf ns with
  | none => rw [q] at h0; cases h0
  | some is =>
    rw [q] at h0
    have h2 : (if is.length ≠ lst.length then 2 else if (decide (8 < gs.length) || !ascB gs) = true then 2 else if fitN lst is = false then 2 else 0) = 0 := h0
    by_cases a : is.length ≠ lst.length
    · rw [if_pos a] at h2; cases h2
    rw [if_neg a] at h2
    by_cases b : (decide (8 < gs.length) || !ascB gs) = true
    · rw [if_pos b] at h2; cases h2
    rw [if_neg b] at h2
    by_cases c : fitN lst is = false
    · rw [if_pos c] at h2; cases h2
    have b' : (decide (8 < gs.length) || !ascB gs) = false := by simpa using b
    rw [Bool.or_eq_false_iff] at b'
    exact ⟨is, rfl, by simpa using a, by simpa using b'.2, by simpa using c⟩
theorem okC_P {nm : Str} {gs : List Str} {ns : List D} (h : okC (nm, "pool", gs, ns) = true) : isNm nm = true ∧ ∃ m ts, formP ns = some (m, ts) ∧ inD 0 1000000 (.int m) = true := by
  have h0 : chk4 nm "pool" gs ns = 0 := of_decide_eq_true h
  unfold chk4 at h0
  by_cases h1 : (nm :: gs).all isNm = false
  · rw [if_pos h1] at h0; cases h0
  rw [if_neg h1, if_pos rfl] at h0
  have h1' : (nm :: gs).all isNm = true := by simpa using h1
  rw [List.all_cons, Bool.and_eq_true] at h1'
  refine ⟨h1'.1, ?_⟩
  cases q : formP ns with
  | none => rw [q] at h0; cases h0
  | some p =>
    obtain ⟨m, ts⟩ := p
    rw [q] at h0
    refine ⟨m, ts, rfl, ?_⟩
    have h2 : (if (ts.map (·.1)).all isNm = false then 1 else if gs ≠ [] then 2 else if ascB (ts.map (·.1)) = false then 2 else if (inD 0 1000000 (.int m) && fitS m ts) = false then 2 else 0) = 0 := h0
    cases hi : inD 0 1000000 (.int m) with
    | true => rfl
    | false =>
      rw [hi, Bool.false_and, if_pos rfl] at h2
      split at h2
      · cases h2
      · split at h2
        · cases h2
        · split at h2 <;> cases h2
theorem rd_pool (a : Str) (r : List Str) : rdL (a :: "pool" :: r) = (some (a, ("pool" : Str), [], [numD7 (r.getD 0 ""), .tup ((r.drop 1).map fun z => .tup (shW z))]) : Option Lim) := if_pos rfl
theorem rd_none {a b : Str} {r : List Str} (hp : b ≠ "pool") (hl : leastOf b = none) : rdL (a :: b :: r) = none := by
  unfold rdL
  rw [show (a :: b :: r).getD 1 "" = b from rfl, if_neg hp, hl]
theorem rd_N {a b : Str} {lst : List Int} {ns rest : List Str} (hp : b ≠ "pool") (hl : leastOf b = some lst) (hlen : ns.length = lst.length) : rdL (a :: b :: (ns ++ rest)) = match grW rest with | none => none | some gs => some (a, b, gs, ns.map numD7) := by
  unfold rdL
  rw [show (a :: b :: (ns ++ rest)).getD 1 "" = b from rfl, if_neg hp, hl]
  show (match grW ((a :: b :: (ns ++ rest)).drop (2 + lst.length)) with | none => none | some gs => some (a, b, gs, (((a :: b :: (ns ++ rest)).drop 2).take lst.length).map numD7)) = _
  rw [← hlen, Nat.add_comm 2 ns.length, show (a :: b :: (ns ++ rest)).drop (ns.length + 2) = (ns ++ rest).drop ns.length from rfl, List.drop_left, show (a :: b :: (ns ++ rest)).drop 2 = ns ++ rest from rfl, List.take_left]
theorem asc_pair : ∀ {A B : List Str} {g x : Str}, ascB (A ++ g :: x :: B) = true → g.cps.toList < x.cps.toList
  | [], B, g, x, h => by
    have h' : (decide (g.cps.toList < x.cps.toList) && ascB (x :: B)) = true := h
    rw [Bool.and_eq_true, decide_eq_true_iff] at h'
    exact h'.1
  | [a], B, g, x, h => by
    have h' : (decide (a.cps.toList < g.cps.toList) && ascB ([] ++ g :: x :: B)) = true := h
    rw [Bool.and_eq_true] at h'
    exact asc_pair h'.2
  | a :: b :: A, B, g, x, h => by
    have h' : (decide (a.cps.toList < b.cps.toList) && ascB ((b :: A) ++ g :: x :: B)) = true := h
    rw [Bool.and_eq_true] at h'
    exact asc_pair h'.2
theorem al_lt {g : Str} (h : alB g = true) {c : Nat} (hc : c < 97) : ¬ g.cps.toList < [c] := by
  unfold alB at h
  rw [decide_eq_true_iff] at h
  cases q : g.cps.toList with
  | nil => rw [q] at h; simp at h
  | cons a r =>
    rw [q] at h
    have h' : 97 ≤ a := h
    intro hlt
    rw [List.cons_lt_cons_iff] at hlt
    rcases hlt with hlt | ⟨hlt, _⟩ <;> omega
theorem fit_le : ∀ {lst is : List Int}, is.length = lst.length → fitN lst is = true → ∀ i ∈ is, i ≤ 1000000
  | [], [], _, _, i, hi => by cases hi
  | [], _ :: _, h, _, _, _ => by cases h
  | _ :: _, [], h, _, _, _ => by cases h
  | a :: l, b :: r, h, hf, i, hi => by
    have hf' : ((decide (a ≤ b) && decide (b ≤ 1000000)) && fitN l r) = true := hf
    rw [Bool.and_eq_true, Bool.and_eq_true, decide_eq_true_iff, decide_eq_true_iff] at hf'
    rcases List.mem_cons.mp hi with rfl | hi
    · exact hf'.1.2
    · exact fit_le (by simpa using h) hf'.2 i hi
theorem ints_no {ds : List D} {is : List Int} (h : intsOf ds = some is) : D.non ∉ ds := fun hm => by
  have q := ints_is ds
  rw [h] at q
  have := List.all_eq_true.mp q.symm .non hm
  cases this
/-! ### the changed number -/
theorem pn_zero {cs : List Nat} {k : Nat} (h : cs ≠ []) : pNum (48 :: cs) k = none := by
  unfold pNum
  split
  · rw [if_pos]
    unfold zeroed
    rw [show (48 :: cs).getD 0 0 = 48 from rfl, decide_eq_true rfl, Bool.true_and, Bool.not_eq_true', decide_eq_false_iff_not]
    intro q
    exact h (List.cons.inj q).2
  · rfl
theorem pn_bad {cs : List Nat} {k c : Nat} (h : c ∈ cs) (hc : isDg c = false) : pNum cs k = none := by
  unfold pNum
  rw [if_neg]
  unfold okNum
  rw [Bool.and_eq_true, not_and]
  intro _ q
  rw [List.all_eq_true.mp q c h] at hc
  cases hc
theorem sp_num {x : Str} (hx : 1 ≤ x.length) (k : Nat) : numD7 (spWd x k) = .non ∨ numD7 (spWd x k) = .int 1000001 := by
  have l6 : k % 6 < 6 := Nat.mod_lt _ (by decide)
  unfold spWd
  generalize k % 6 = q at l6
  have non : ∀ {z : Str}, pNum z.cps.toList 7 = none → numD7 z = .non := fun {z} h => by unfold numD7; rw [h]; rfl
  match q, l6 with
  | 0, _ =>
    refine .inl (non ?_)
    show pNum ("0" ++ x : Str).cps.toList 7 = none
    rw [app_cps, show ("0" : Str).cps.toList ++ x.cps.toList = 48 :: x.cps.toList from rfl]
    exact pn_zero fun q => by rw [← len_of, q] at hx; simp at hx
  | 1, _ =>
    refine .inl (non ?_)
    show pNum ("-" ++ x : Str).cps.toList 7 = none
    rw [app_cps]
    exact pn_bad (c := 45) (by rw [show ("-" : Str).cps.toList = [45] from by decide +kernel]; simp) (by decide)
  | 2, _ =>
    refine .inl (non ?_)
    show pNum (x ++ "x" : Str).cps.toList 7 = none
    rw [app_cps]
    exact pn_bad (c := 120) (by rw [show ("x" : Str).cps.toList = [120] from by decide +kernel]; simp) (by decide)
  | 3, _ => exact .inl (by show numD7 "12345678" = .non; exact non (by decide +kernel))
  | 4, _ =>
    refine .inl (non ?_)
    show pNum ("+" ++ x : Str).cps.toList 7 = none
    rw [app_cps]
    exact pn_bad (c := 43) (by rw [show ("+" : Str).cps.toList = [43] from by decide +kernel]; simp) (by decide)
  | 5, _ => exact .inr (by show optN (pNum ("1000001" : Str).cps.toList 7) = .int 1000001; rw [show pNum ("1000001" : Str).cps.toList 7 = some 1000001 from by decide +kernel]; rfl)
theorem num_colon (x : Str) : numD7 (x ++ ":") = .non := by
  unfold numD7
  rw [app_cps, pn_bad (c := 58) (by rw [colon]; simp) (by decide)]
  rfl
theorem nm_colon (x : Str) : isNm (x ++ ":") = false := by
  unfold isNm
  rw [app_cps, Bool.and_eq_false_iff]
  right
  rw [List.all_eq_false]
  exact ⟨58, by rw [colon]; simp, by decide⟩
end Toy

namespace Toy
open PySem PyProof.Rows L2 Pf
/-! ### the spoilt lines make no limit -/
theorem par_N {a b : Str} {lst : List Int} {ns rest : List Str} (hp : b ≠ "pool") (hl : leastOf b = some lst) (hlen : ns.length = lst.length) (h : ∀ gs, grW rest = some gs → okC (a, b, gs, ns.map numD7) = true → False) : parW (a :: b :: (ns ++ rest)) = none := par_no fun l hr => by
  rw [rd_N hp hl hlen] at hr
  cases q : grW rest with
  | none => rw [q] at hr; cases hr
  | some gs =>
    rw [q] at hr; cases hr
    cases q2 : okC (a, b, gs, ns.map numD7) with
    | false => rfl
    | true => exact (h gs q q2).elim
theorem par_0 {a b : Str} {r : List Str} (hp : b ≠ "pool") (hl : leastOf b = none) : parW (a :: b :: r) = none := par_no fun l hr => by rw [rd_none hp hl] at hr; cases hr
theorem gr_app {gs xs : List Str} (h : gs ≠ []) : grW (sufG gs ++ xs) = some (gs ++ xs) := by
  unfold sufG
  rw [if_neg h]
  show (if ("for" : Str) = "for" ∧ gs ++ xs ≠ [] then some (gs ++ xs) else none) = _
  rw [if_pos ⟨rfl, fun q => h (List.append_eq_nil_iff.mp q).1⟩]
theorem last_colon (X : List Str) (y : Str) : (X ++ [y]).dropLast ++ [(X ++ [y]).getLastD "" ++ ":"] = X ++ [y ++ ":"] := by
  rw [List.dropLast_concat, List.getLastD_concat]
theorem c_b_a : ¬ (("b" : Str).cps.toList < ("a" : Str).cps.toList) := by decide +kernel
theorem c_one : ("1" : Str).cps.toList = [49] := by decide +kernel
theorem c_zero : ("0" : Str).cps.toList = [48] := by decide +kernel
structure FormN (nm wd : Str) (ns gs : List Str) (lst : List Int) : Prop where
  hnm : leastOf nm = none
  hnp : nm ≠ "pool"
  hA : isNm ("A" ++ nm) = false
  hp : wd ≠ "pool"
  hl : leastOf wd = some lst
  hls : leastOf (wd ++ "s") = none
  hps : wd ++ "s" ≠ "pool"
  len : ns.length = lst.length
  n1 : 1 ≤ ns.length
  hx : ∀ x ∈ ns, 1 ≤ x.length ∧ leastOf x = none ∧ x ≠ "pool"
  al : ∀ g ∈ gs, alB g = true
theorem bad_N {nm wd : Str} {ns gs : List Str} {lst : List Int} (f : FormN nm wd ns gs lst) {a : Nat} (sa : SpAt (nm :: wd :: (ns ++ sufG gs)) a) {b : Bool} (hb : gs ≠ [] → b = true) {k : Nat} (hk : k < 18) : parW (spV (nm :: wd :: (ns ++ sufG gs)) a b k) = none := by
  have asc1 : ∀ {X : List Str} {g x : Str}, ascB (X ++ [g] ++ [x]) = true → g.cps.toList < x.cps.toList := fun {X g x} h => asc_pair (A := X) (B := []) (by rw [List.append_assoc] at h; exact h)
  match k, hk with
  | 0, _ => exact par_len (v := [""]) (by simp)
  | 1, _ => exact par_0 (a := "") f.hnp f.hnm
  | 2, _ =>
    have e : spV (nm :: wd :: (ns ++ sufG gs)) a b 2 = nm :: wd :: (ns ++ (sufG gs ++ ([""] : List Str))) := by show (nm :: wd :: (ns ++ sufG gs)) ++ ([""] : List Str) = _; simp
    rw [e]
    refine par_N f.hp f.hl f.len fun gs' hg ho => ?_
    have hall := (okC_N f.hp f.hl ho).1
    by_cases q : gs = []
    · subst q
      have : grW [""] = none := by decide +kernel
      rw [show sufG [] ++ [("" : Str)] = ([""] : List Str) from rfl, this] at hg; cases hg
    · rw [gr_app q] at hg; cases hg
      rw [List.all_cons, List.all_append, Bool.and_eq_true, Bool.and_eq_true] at hall
      have h2 := hall.2.2
      rw [show ([""] : List Str).all isNm = false from by decide +kernel] at h2
      cases h2
  | 3, _ => exact par_0 (a := nm) (b := "") (by decide +kernel) (by decide +kernel)
  | 4, _ =>
    have e : spV (nm :: wd :: (ns ++ sufG gs)) a b 4 = nm :: wd :: (ns ++ (sufG gs ++ (["1"] : List Str))) := by show (nm :: wd :: (ns ++ sufG gs)) ++ (["1"] : List Str) = _; simp
    rw [e]
    refine par_N f.hp f.hl f.len fun gs' hg ho => ?_
    obtain ⟨_, is, _, _, hasc, _⟩ := okC_N f.hp f.hl ho
    rcases List.eq_nil_or_concat gs with q | ⟨X, g, q⟩
    · subst q
      have : grW ["1"] = none := by decide +kernel
      rw [show sufG [] ++ [("1" : Str)] = (["1"] : List Str) from rfl, this] at hg; cases hg
    · have hne : gs ≠ [] := by rw [q]; simp
      rw [gr_app hne] at hg; cases hg
      rw [q] at hasc
      have h2 := asc1 (by simpa using hasc)
      rw [c_one] at h2
      exact al_lt (f.al g (by rw [q]; simp)) (by decide) h2
  | 5, _ => exact par_len (by show ([nm, wd] : List Str).length < 3; simp)
  | 6, _ => exact par_0 (a := nm) f.hps f.hls
  | 7, _ =>
    refine par_N (a := "A" ++ nm) f.hp f.hl f.len fun gs' hg ho => ?_
    have hall := (okC_N f.hp f.hl ho).1
    rw [List.all_cons, f.hA] at hall
    cases hall
  | 8, _ =>
    have e : spV (nm :: wd :: (ns ++ sufG gs)) a b 8 = nm :: wd :: (ns ++ (sufG gs ++ (["for", "b", "a"] : List Str))) := by show (nm :: wd :: (ns ++ sufG gs)) ++ (["for", "b", "a"] : List Str) = _; simp
    rw [e]
    refine par_N f.hp f.hl f.len fun gs' hg ho => ?_
    obtain ⟨_, is, _, _, hasc, _⟩ := okC_N f.hp f.hl ho
    by_cases q : gs = []
    · subst q
      have : grW ["for", "b", "a"] = some ([("b" : Str), "a"] : List Str) := by decide +kernel
      rw [show sufG [] ++ ([("for" : Str), "b", "a"] : List Str) = (["for", "b", "a"] : List Str) from rfl, this] at hg; cases hg
      exact c_b_a (asc_pair (A := []) (B := []) hasc)
    · rw [gr_app q] at hg; cases hg
      exact c_b_a (asc_pair (A := gs ++ (["for"] : List Str)) (B := []) (by simpa using hasc))
  | 9, _ =>
    have e : spV (nm :: wd :: (ns ++ sufG gs)) a b 9 = nm :: wd :: (ns ++ (sufG gs ++ [if b = true then ("0" : Str) else "for"])) := by show (nm :: wd :: (ns ++ sufG gs)) ++ [if b = true then ("0" : Str) else "for"] = _; simp
    rw [e]
    refine par_N f.hp f.hl f.len fun gs' hg ho => ?_
    obtain ⟨_, is, _, _, hasc, _⟩ := okC_N f.hp f.hl ho
    rcases List.eq_nil_or_concat gs with q | ⟨X, g, q⟩
    · subst q
      have h0 : grW ["0"] = none := by decide +kernel
      have h1 : grW ["for"] = none := by decide +kernel
      cases b with
      | true =>
        rw [show sufG [] ++ [if (true : Bool) = true then ("0" : Str) else "for"] = (["0"] : List Str) from rfl, h0] at hg; cases hg
      | false =>
        rw [show sufG [] ++ [if (false : Bool) = true then ("0" : Str) else "for"] = (["for"] : List Str) from rfl, h1] at hg; cases hg
    · have hne : gs ≠ [] := by rw [q]; simp
      rw [hb hne, gr_app hne] at hg; cases hg
      rw [q] at hasc
      have h2 := asc1 (by simpa using hasc)
      rw [c_zero] at h2
      exact al_lt (f.al g (by rw [q]; simp)) (by decide) h2
  | 10, _ =>
    rcases List.eq_nil_or_concat gs with q | ⟨X, g, q⟩
    · subst q
      rcases List.eq_nil_or_concat ns with q | ⟨N0, x, q⟩
      · have := f.n1; rw [q] at this; simp at this
      have q' : ns = N0 ++ [x] := by simpa using q
      have e : spV (nm :: wd :: (ns ++ sufG [])) a b 10 = nm :: wd :: ((N0 ++ [x ++ ":"]) ++ []) := by
        have e1 : nm :: wd :: (ns ++ sufG []) = (nm :: wd :: N0) ++ [x] := by rw [q']; show nm :: wd :: ((N0 ++ [x]) ++ []) = _; simp
        rw [e1]
        refine (last_colon _ _).trans ?_
        simp
      rw [e]
      refine par_N f.hp f.hl (by rw [← f.len, q']; simp) fun gs' hg ho => ?_
      obtain ⟨_, is, hi, _⟩ := okC_N f.hp f.hl ho
      exact ints_no hi (List.mem_map.mpr ⟨x ++ ":", by simp, num_colon x⟩)
    · have q' : gs = X ++ [g] := by simpa using q
      have e : spV (nm :: wd :: (ns ++ sufG gs)) a b 10 = nm :: wd :: (ns ++ (("for" : Str) :: (X ++ [g ++ ":"]))) := by
        have e1 : nm :: wd :: (ns ++ sufG gs) = (nm :: wd :: (ns ++ (("for" : Str) :: X))) ++ [g] := by
          unfold sufG
          rw [if_neg (by rw [q']; simp), q']; simp
        rw [e1]
        refine (last_colon _ _).trans ?_
        simp
      rw [e]
      refine par_N f.hp f.hl f.len fun gs' hg ho => ?_
      have hall := (okC_N f.hp f.hl ho).1
      have hg' : (if ("for" : Str) = "for" ∧ X ++ [g ++ ":"] ≠ [] then some (X ++ [g ++ ":"]) else none) = some gs' := hg
      rw [if_pos ⟨rfl, by simp⟩] at hg'
      cases hg'
      rw [List.all_cons, List.all_append, Bool.and_eq_true, Bool.and_eq_true, List.all_cons, nm_colon] at hall
      have := hall.2.2
      cases this
  | 11, _ =>
    cases hns : ns with
    | nil => have := f.n1; rw [hns] at this; simp at this
    | cons x n' =>
      have hx := f.hx x (by rw [hns]; simp)
      exact par_0 (a := wd) (b := x) (r := n' ++ sufG gs) hx.2.2 hx.2.1
  | k + 12, hk =>
    obtain ⟨j, hj, hjl⟩ : ∃ j, a = j + 2 ∧ j < ns.length := by
      have h1 := sa.lo
      by_cases q : gs = []
      · have h2 := sa.hi
        subst q
        rw [show sufG [] = ([] : List Str) from rfl, List.append_nil] at h2
        simp only [List.length_cons] at h2
        exact ⟨a - 2, by omega, by omega⟩
      · have h2 := sa.grp (by unfold sufG; rw [if_neg q]; simp)
        exact ⟨0, by omega, by have := f.n1; omega⟩
    subst hj
    obtain ⟨x, hxj⟩ : ∃ x, ns[j]? = some x := ⟨ns[j], by simp [hjl]⟩
    have hxm : x ∈ ns := List.mem_of_getElem? hxj
    have hg : (nm :: wd :: (ns ++ sufG gs)).getD (j + 2) "" = x := by
      rw [List.getD_eq_getElem?_getD]
      show ((ns ++ sufG gs)[j]?).getD "" = x
      rw [List.getElem?_append_left hjl, hxj]; rfl
    have e : spV (nm :: wd :: (ns ++ sufG gs)) (j + 2) b (k + 12) = nm :: wd :: ((ns.take j ++ [spWd x (k + 12)] ++ ns.drop (j + 1)) ++ sufG gs) := by
      show (nm :: wd :: (ns ++ sufG gs)).take (j + 2) ++ [spWd ((nm :: wd :: (ns ++ sufG gs)).getD (j + 2) "") (k + 12)] ++ (nm :: wd :: (ns ++ sufG gs)).drop (j + 2 + 1) = _
      rw [hg]
      show (nm :: wd :: (ns ++ sufG gs).take j) ++ [spWd x (k + 12)] ++ (ns ++ sufG gs).drop (j + 1) = _
      rw [List.take_append_of_le_length (by omega), List.drop_append_of_le_length (by omega)]
      simp
    rw [e]
    refine par_N f.hp f.hl ?_ fun gs' hg ho => ?_
    · rw [List.length_append, List.length_append, List.length_take, List.length_drop, List.length_singleton, ← f.len]; omega
    obtain ⟨_, is, hi, hil, _, hfit⟩ := okC_N f.hp f.hl ho
    have hm : numD7 (spWd x (k + 12)) ∈ (ns.take j ++ [spWd x (k + 12)] ++ ns.drop (j + 1)).map numD7 := List.mem_map.mpr ⟨_, by simp, rfl⟩
    rcases sp_num (f.hx x hxm).1 (k + 12) with q | q
    · rw [q] at hm; exact ints_no hi hm
    · rw [q, ints_all hi] at hm
      obtain ⟨i, hi2, q2⟩ := List.mem_map.mp hm
      have := fit_le hil hfit i hi2
      cases q2
      omega
/-! pools -/
theorem formP_no {d : D} {X : List Str} {z : Str} (hz : z ∈ X) (hs : sh1 (.tup (shW z)) = none) : formP [d, .tup (X.map fun z => .tup (shW z))] = none := by
  have h : shAll (X.map fun z => D.tup (shW z)) = none := by
    have q := shAll_is (X.map fun z => D.tup (shW z))
    have q2 : ((X.map fun z => D.tup (shW z)).all fun d => (sh1 d).isSome) = false := List.all_eq_false.mpr ⟨_, List.mem_map.mpr ⟨z, hz, rfl⟩, by rw [hs]; decide⟩
    rw [q2] at q
    cases q3 : shAll (X.map fun z => D.tup (shW z)) with
    | none => rfl
    | some y => rw [q3] at q; cases q
  cases d with
  | int i => show (shAll (X.map fun z => D.tup (shW z))).map _ = none; rw [h]; rfl
  | _ => rfl
theorem par_P {a : Str} {r : List Str} (h : okC (a, ("pool" : Str), [], [numD7 (r.getD 0 ""), .tup ((r.drop 1).map fun z => .tup (shW z))]) = true → False) : parW (a :: "pool" :: r) = none := par_no fun l hr => by
  rw [rd_pool] at hr
  cases hr
  cases q : okC (a, ("pool" : Str), [], [numD7 (r.getD 0 ""), .tup ((r.drop 1).map fun z => .tup (shW z))]) with
  | false => rfl
  | true => exact (h q).elim
theorem par_sh {a : Str} {r : List Str} {z : Str} (hz : z ∈ r.drop 1) (hs : (shW z).length ≠ 3) : parW (a :: "pool" :: r) = none := par_P fun ho => by
  obtain ⟨_, m, ts, hf, _⟩ := okC_P ho
  rw [formP_no hz (sh1_len hs)] at hf
  cases hf
theorem bad_P {nm m : Str} {ts : List (Str × Int × Int)} (hnm : leastOf nm = none) (hnp : nm ≠ "pool") (hA : isNm ("A" ++ nm) = false) (hm : 1 ≤ m.length ∧ leastOf m = none ∧ m ≠ "pool") (ht : ∀ t ∈ ts, OkSh t) (h1 : 1 ≤ ts.length) {a : Nat} (sa : SpAt (nm :: "pool" :: m :: ts.map shS) a) {b : Bool} {k : Nat} (hk : k < 18) : parW (spV (nm :: "pool" :: m :: ts.map shS) a b k) = none := by
  match k, hk with
  | 0, _ => exact par_len (v := [""]) (by simp)
  | 1, _ => exact par_0 (a := "") hnp hnm
  | 2, _ => exact par_sh (a := nm) (r := m :: (ts.map shS ++ ([""] : List Str))) (z := "") (by show _ ∈ ts.map shS ++ ([""] : List Str); simp) (by decide +kernel)
  | 3, _ => exact par_0 (a := nm) (b := "") (by decide +kernel) (by decide +kernel)
  | 4, _ => exact par_sh (a := nm) (r := m :: (ts.map shS ++ (["1"] : List Str))) (z := "1") (by show _ ∈ ts.map shS ++ (["1"] : List Str); simp) (by decide +kernel)
  | 5, _ => exact par_len (by show ([nm, ("pool" : Str)] : List Str).length < 3; simp)
  | 6, _ => exact par_0 (a := nm) (b := "pool" ++ "s") (by decide +kernel) (by decide +kernel)
  | 7, _ =>
    refine par_P (a := "A" ++ nm) (r := m :: ts.map shS) fun ho => ?_
    have := (okC_P ho).1
    rw [hA] at this; cases this
  | 8, _ => exact par_sh (a := nm) (r := m :: (ts.map shS ++ (["for", "b", "a"] : List Str))) (z := "for") (by show _ ∈ ts.map shS ++ (["for", "b", "a"] : List Str); simp) (by decide +kernel)
  | 9, _ =>
    refine par_sh (a := nm) (r := m :: (ts.map shS ++ [if b = true then ("0" : Str) else "for"])) (z := if b = true then ("0" : Str) else "for") (by show _ ∈ ts.map shS ++ [if b = true then ("0" : Str) else "for"]; simp) ?_
    cases b <;> decide +kernel
  | 10, _ =>
    rcases List.eq_nil_or_concat ts with q | ⟨X, t, q⟩
    · rw [q] at h1; simp at h1
    have q' : ts = X ++ [t] := by simpa using q
    have ot := ht t (by rw [q']; simp)
    have e : spV (nm :: "pool" :: m :: ts.map shS) a b 10 = nm :: "pool" :: (m :: (X.map shS ++ [shS t ++ ":"])) := by
      have e1 : nm :: ("pool" : Str) :: m :: ts.map shS = (nm :: "pool" :: m :: X.map shS) ++ [shS t] := by rw [q']; simp
      rw [e1]
      refine (last_colon _ _).trans ?_
      simp
    rw [e]
    refine par_sh (z := shS t ++ ":") (by show _ ∈ X.map shS ++ [shS t ++ ":"]; simp) ?_
    have sp : Txt.split (shS t ++ ":") ":" = [t.1, nT t.2.1, nT t.2.2, ""] := by
      have e2 : shS t ++ ":" = Txt.join ":" [t.1, nT t.2.1, nT t.2.2, ""] := by
        unfold shS
        rw [TL.join_eq, TL.join_eq]
        show (t.1 ++ ":" ++ (nT t.2.1 ++ ":" ++ nT t.2.2)) ++ ":" = t.1 ++ ":" ++ (nT t.2.1 ++ ":" ++ (nT t.2.2 ++ ":" ++ ""))
        rw [app_emp]
        simp only [sapp_assoc]
      rw [e2]
      refine TL.split_join (s := 58) (S := []) (by decide +kernel) (by decide +kernel) (fun e => by cases e) fun p hp => ?_
      rcases List.mem_append.mp (show p ∈ [t.1, nT t.2.1, nT t.2.2] ++ ([""] : List Str) from hp) with hp | hp
      · exact nm_no (sh_parts ot p hp).1 (by decide)
      · rw [List.mem_singleton] at hp; subst hp
        exact fun hm => by
          have : ("" : Str).cps.toList = [] := rfl
          rw [show TL.tl ("" : Str) = ("" : Str).cps.toList from rfl, this] at hm
          cases hm
    unfold shW
    rw [sp]
    simp
  | 11, _ => exact par_0 (a := "pool") (b := m) hm.2.2 hm.2.1
  | k + 12, hk =>
    have ha : a = 2 := sa.pool rfl
    subst ha
    refine par_P (a := nm) (r := spWd m (k + 12) :: ts.map shS) fun ho => ?_
    obtain ⟨_, m', ts', hf, hin⟩ := okC_P ho
    have hf' : formP [numD7 (spWd m (k + 12)), .tup ((ts.map shS).map fun z => .tup (shW z))] = some (m', ts') := hf
    rcases sp_num hm.1 (k + 12) with q | q
    · rw [q] at hf'; cases hf'
    · rw [q] at hf'
      have hf2 : (shAll ((ts.map shS).map fun z => D.tup (shW z))).map (fun x => ((1000001 : Int), x)) = some (m', ts') := hf'
      cases q2 : shAll ((ts.map shS).map fun z => D.tup (shW z)) with
      | none => rw [q2] at hf2; cases hf2
      | some y =>
        rw [q2] at hf2
        cases hf2
        revert hin
        decide
end Toy

namespace Toy
open PySem PyProof.Rows L2 Pf
/-! ### good lines -/
theorem num_text {i : Int} (h0 : 0 ≤ i) (h1 : i ≤ 1000000) : 1 ≤ (nT i).length ∧ leastOf (nT i) = none ∧ nT i ≠ "pool" := by
  have hd := (numT_ok h0 h1).2.1
  refine ⟨?_, ?_, fun q => ?_⟩
  · obtain ⟨n, rfl⟩ : ∃ n : Nat, i = (n : Int) := ⟨i.toNat, by omega⟩
    have := numS_pos n
    show 1 ≤ ((toString (n : Int) : String) : Str).length
    rw [← len_of]; exact this
  · cases q : leastOf (nT i) with
    | none => rfl
    | some l =>
      exfalso
      have hm := least_some q
      generalize nT i = z at hd hm
      simp only [leastT, List.mem_cons, List.not_mem_nil, or_false, Prod.mk.injEq] at hm
      rcases hm with ⟨rfl, _⟩ | ⟨rfl, _⟩ | ⟨rfl, _⟩ | ⟨rfl, _⟩ | ⟨rfl, _⟩ | ⟨_, q⟩ | ⟨_, q⟩ | ⟨_, q⟩ | ⟨_, q⟩ | ⟨_, q⟩ | ⟨_, q⟩ | ⟨_, q⟩ | ⟨_, q⟩ <;> first | (cases q; done) | (revert hd; decide +kernel)
  · rw [q] at hd
    revert hd; decide +kernel
theorem numD7_num {i : Int} (h0 : 0 ≤ i) (h1 : i ≤ 1000000) : numD7 (nT i) = .int i := by
  unfold numD7
  rw [(numT_ok h0 h1).2.2.2]
  show D.int ((i.toNat : Nat) : Int) = _
  rw [Int.toNat_of_nonneg h0]
theorem gr_suf (gs : List Str) : grW (sufG gs) = some gs := by
  by_cases q : gs = []
  · subst q; rfl
  · have := gr_app (xs := []) q
    rwa [List.append_nil, List.append_nil] at this
/-- the words of a limit of the law -/
inductive Shape : Lim → Prop
  | N {nm wd : Str} {is lst : List Int} {gs : List Str} : (wd, some lst) ∈ leastT → is.length = lst.length → 1 ≤ is.length → is.length ≤ 2 → (∀ i ∈ is, 0 ≤ i ∧ i ≤ 1000000) → (∀ g ∈ gs, alB g = true) → Shape (nm, wd, gs, is.map D.int)
  | P {nm : Str} {m : Int} {ts : List (Str × Int × Int)} : 0 ≤ m → m ≤ 1000000 → (∀ t ∈ ts, OkSh t) → 1 ≤ ts.length → Shape (nm, "pool", [], [.int m, .tup (ts.map shD)])
theorem shape_of {l : Lim} (h : GoodLm l) : Shape l := by
  obtain ⟨nm, wd, gs, ns⟩ := l
  have g := h.g
  have hal := (goodGs g).al
  cases g with
  | @two _ _ a b hw _ a0 a1 b0 b1 =>
    refine Shape.N (is := [a, b]) (lst := [0, 1]) ?_ rfl (by simp) (by simp) (fun i hi => ?_) hal
    · rcases hw with rfl | rfl | rfl <;> simp [leastT]
    · simp only [List.mem_cons, List.not_mem_nil, or_false] at hi
      rcases hi with rfl | rfl <;> omega
  | @gap _ b _ b0 b1 => exact Shape.N (is := [b]) (lst := [1]) (show (("gap" : Str), some [(1 : Int)]) ∈ leastT by decide +kernel) rfl (by simp) (by simp) (fun i hi => by rw [List.mem_singleton] at hi; subst hi; omega) hal
  | @held _ a _ a0 a1 => exact Shape.N (is := [a]) (lst := [0]) (show (("held" : Str), some [(0 : Int)]) ∈ leastT by decide +kernel) rfl (by simp) (by simp) (fun i hi => by rw [List.mem_singleton] at hi; subst hi; omega) hal
  | @pool m ts gt => exact .P gt.lo gt.hi (okSh_of gt) gt.pos
theorem wds_N {nm wd : Str} {is : List Int} {gs : List Str} (h1 : 1 ≤ is.length) (h2 : is.length ≤ 2) : wdsL (nm, wd, gs, is.map D.int) = nm :: wd :: (is.map nT ++ sufG gs) := by
  show [nm, wd] ++ numW (is.map D.int) ++ sufG gs = _
  rw [numW_int h2 h1]; rfl
theorem wds_P {nm : Str} {m : Int} {ts : List (Str × Int × Int)} : wdsL (nm, "pool", [], [.int m, .tup (ts.map shD)]) = nm :: "pool" :: nT m :: ts.map shS := by
  show [nm, "pool"] ++ numW [.int m, .tup (ts.map shD)] ++ sufG [] = _
  rw [numW_pool]
  show [nm, "pool"] ++ (nT m :: ts.map shS) ++ [] = _
  rw [List.append_nil]; rfl
theorem shW_sh {t : Str × Int × Int} (h : OkSh t) : D.tup (shW (shS t)) = shD t := by
  unfold shW
  rw [sh_split h]
  show D.tup [.str t.1, numD7 (nT t.2.1), numD7 (nT t.2.2)] = _
  rw [numD7_num h.o0 h.o1, numD7_num h.c0 h.c1]
theorem rd_good {l : Lim} (h : GoodLm l) : rdL (wdsL l) = some l := by
  have sh := shape_of h
  cases sh with
  | @N nm wd is lst gs hw hl h1 h2 hi _ =>
    obtain ⟨lo, hp⟩ := least_mem hw
    rw [wds_N h1 h2, rd_N hp lo (by rw [List.length_map]; exact hl), gr_suf]
    show some (nm, wd, gs, (is.map nT).map numD7) = _
    have e : (is.map nT).map numD7 = is.map D.int := by
      rw [List.map_map]
      exact List.map_congr_left fun i hi' => numD7_num (hi i hi').1 (hi i hi').2
    rw [e]
  | @P nm m ts h0 h1 ht _ =>
    rw [wds_P, rd_pool]
    show some (nm, ("pool" : Str), [], [numD7 (nT m), D.tup ((ts.map shS).map fun z => .tup (shW z))]) = _
    have e : ((ts.map shS).map fun z => D.tup (shW z)) = ts.map shD := by
      rw [List.map_map]
      exact List.map_congr_left fun t ht' => shW_sh (ht t ht')
    rw [e, numD7_num h0 h1]
theorem par_good {l : Lim} (h : GoodLm l) : parL (lnL l) = some l := by
  unfold parL
  rw [ln_split h]
  unfold parW
  rw [if_neg (by have := (wds_ok h).2.2; omega), rd_good h]
  show (if okC l = true then some l else none) = some l
  rw [show okC l = true from decide_eq_true h.chk]
  rfl
/-! ### spoilt lines -/
structure NmF (nm : Str) : Prop where
  hnm : leastOf nm = none
  hnp : nm ≠ "pool"
  hA : isNm ("A" ++ nm) = false
theorem nmF_all : ∀ k : Nat, k < 5 → ∀ c : Nat, c < 4 → 1 ≤ c → leastOf (nmK k c) = none ∧ nmK k c ≠ ("pool" : Str) ∧ isNm ("A" ++ nmK k c) = false := by decide +kernel
theorem word_s {wd : Str} {lst : List Int} (h : (wd, some lst) ∈ leastT) : leastOf (wd ++ "s") = none ∧ wd ++ "s" ≠ "pool" := by
  simp only [leastT, List.mem_cons, List.not_mem_nil, or_false, Prod.mk.injEq] at h
  rcases h with ⟨rfl, _⟩ | ⟨rfl, _⟩ | ⟨rfl, _⟩ | ⟨rfl, _⟩ | ⟨rfl, _⟩ | ⟨_, q⟩ | ⟨_, q⟩ | ⟨_, q⟩ | ⟨_, q⟩ | ⟨_, q⟩ | ⟨_, q⟩ | ⟨_, q⟩ | ⟨_, q⟩ <;> first | (cases q; done) | exact ⟨by decide +kernel, by decide +kernel⟩
theorem spoilt_no {l : Lim} (h : GoodLm l) (hn : NmF l.1) {a : Nat} (sa : SpAt (wdsL l) a) {k : Nat} (hk : k < 18) : parW (spV (wdsL l) a (forB (lnL l)) k) = none := by
  have sh := shape_of h
  cases sh with
  | @N nm wd is lst gs hw hl h1 h2 hi hal =>
    obtain ⟨lo, hp⟩ := least_mem hw
    have ew := wds_N (nm := nm) (wd := wd) (gs := gs) h1 h2
    have hb : gs ≠ [] → forB (lnL (nm, wd, gs, is.map D.int)) = true := fun hg => by
      have e : lnL (nm, wd, gs, is.map D.int) = Txt.join " " (nm :: wd :: is.map nT) ++ " for " ++ Txt.join " " gs := by
        unfold lnL
        rw [ew]
        unfold sufG
        rw [if_neg hg]
        have q := jn_two nm (wd :: is.map nT) ("for" :: gs) (by simp)
        refine q.trans ?_
        cases gs with
        | nil => exact absurd rfl hg
        | cons g r =>
          rw [jn_cons "for" g, show (" for " : Str) = " " ++ ("for" ++ " ") from by decide +kernel]
          simp only [sapp_assoc]
      unfold forB
      rw [e]
      exact found_mid _ _ _
    rw [ew] at sa ⊢
    exact bad_N (lst := lst) ⟨hn.hnm, hn.hnp, hn.hA, hp, lo, (word_s hw).1, (word_s hw).2, by rw [List.length_map]; exact hl, by rw [List.length_map]; exact h1, fun x hx => by
      obtain ⟨i, hi', rfl⟩ := List.mem_map.mp hx
      exact num_text (hi i hi').1 (hi i hi').2, hal⟩ sa hb hk
  | @P nm m ts h0 h1 ht h1' =>
    rw [wds_P] at sa ⊢
    exact bad_P hn.hnm hn.hnp hn.hA (num_text h0 h1) ht h1' sa hk
/-- a line by its words -/
structure LineW (z : Str) : Prop where
  ex : ∃ v : List Str, z = Txt.join " " v ∧ v ≠ [] ∧ (∀ x ∈ v, wdB x = true) ∧ v.length ≤ 14
theorem spV_ok {ws : List Str} (hw : ∀ x ∈ ws, OkWd x) (h3 : 3 ≤ ws.length) (h10 : ws.length ≤ 10) (a : Nat) (b : Bool) (k : Nat) : spV ws a b k ≠ [] ∧ (∀ x ∈ spV ws a b k, wdB x = true) ∧ (spV ws a b k).length ≤ 14 := by
  have h := fun x hx => wdB_of (hw x hx)
  have g40 : ∀ i, (ws.getD i "").length ≤ 40 := fun i => by
    rw [List.getD_eq_getElem?_getD]
    cases q : ws[i]? with
    | none => decide +kernel
    | some z => exact (hw z (List.mem_of_getElem? q)).len
  have gw := wd_getD h
  have c0 : wdB "" = true := by decide +kernel
  have c1 : wdB "1" = true := by decide +kernel
  have c2 : wdB "for" = true := by decide +kernel
  have c3 : wdB "b" = true := by decide +kernel
  have c4 : wdB "a" = true := by decide +kernel
  have c5 : wdB "0" = true := by decide +kernel
  have ap : ∀ {x y : Str}, wdB x = true → wdB y = true → x.length ≤ 40 → y.length ≤ 1 → wdB (x ++ y) = true ∧ wdB (y ++ x) = true := fun hx hy lx ly => ⟨wdB_app hx hy (by omega), wdB_app hy hx (by omega)⟩
  have inW : ∀ {X : List Str}, (∀ x ∈ X, x ∈ ws) → ∀ x ∈ X, wdB x = true := fun hX x hx => h x (hX x hx)
  have app : ∀ {X Y : List Str}, (∀ x ∈ X, wdB x = true) → (∀ x ∈ Y, wdB x = true) → ∀ x ∈ X ++ Y, wdB x = true := fun hX hY x hx => (List.mem_append.mp hx).elim (hX x) (hY x)
  have con : ∀ {x : Str} {Y : List Str}, wdB x = true → (∀ y ∈ Y, wdB y = true) → ∀ y ∈ x :: Y, wdB y = true := fun hx hY y hy => by
    rcases List.mem_cons.mp hy with rfl | hy
    · exact hx
    · exact hY y hy
  have nil : ∀ y ∈ ([] : List Str), wdB y = true := fun y hy => by cases hy
  have dl : ∀ n, (ws.drop n).length ≤ 10 := fun n => by rw [List.length_drop]; omega
  have tl : ∀ n, (ws.take n).length ≤ 10 := fun n => by rw [List.length_take]; omega
  have one : ∀ {z : Str}, wdB z = true → ∀ y ∈ ([z] : List Str), wdB y = true := fun hz => con hz nil
  match k with
  | 0 => exact ⟨by simp [spV], one c0, by simp [spV]⟩
  | 1 => exact ⟨by simp [spV], con c0 h, by simp [spV]; omega⟩
  | 2 => exact ⟨by simp [spV], app h (one c0), by simp [spV]; omega⟩
  | 3 => exact ⟨by simp [spV], con (gw 0) (con c0 (inW fun x hx => List.mem_of_mem_drop hx)), by have := dl 1; simp only [spV, List.length_cons]; omega⟩
  | 4 => exact ⟨by simp [spV], app h (one c1), by simp [spV]; omega⟩
  | 5 => exact ⟨fun q => by have : (ws.take 2).length = 0 := by rw [show ws.take 2 = [] from q]; rfl
                            rw [List.length_take] at this; omega, inW fun x hx => List.mem_of_mem_take hx, by have := tl 2; simp only [spV]; omega⟩
  | 6 => exact ⟨by simp [spV], con (gw 0) (con (ap (gw 1) (by decide +kernel) (g40 1) (by decide +kernel)).1 (inW fun x hx => List.mem_of_mem_drop hx)), by have := dl 2; simp only [spV, List.length_cons]; omega⟩
  | 7 => exact ⟨by simp [spV], con (ap (gw 0) (by decide +kernel) (g40 0) (by decide +kernel)).2 (inW fun x hx => List.mem_of_mem_drop hx), by have := dl 1; simp only [spV, List.length_cons]; omega⟩
  | 8 => exact ⟨by simp [spV], app h (con c2 (con c3 (one c4))), by simp [spV]; omega⟩
  | 9 => exact ⟨by simp [spV], app h (one (by cases b <;> assumption)), by simp [spV]; omega⟩
  | 10 =>
    have hne : ws ≠ [] := fun q => by rw [q] at h3; simp at h3
    have hlast : ws.getLastD "" ∈ ws := by
      rw [List.getLastD_eq_getLast?, List.getLast?_eq_some_getLast hne]
      exact List.getLast_mem hne
    refine ⟨by simp [spV], app (inW fun x hx => (List.dropLast_sublist ws).subset hx) (one (ap (h _ hlast) (by decide +kernel) (hw _ hlast).len (by decide +kernel)).1), ?_⟩
    simp only [spV, List.length_append, List.length_dropLast, List.length_singleton]; omega
  | 11 => exact ⟨fun q => by have : (ws.drop 1).length = 0 := by rw [show ws.drop 1 = [] from q]; rfl
                             rw [List.length_drop] at this; omega, inW fun x hx => List.mem_of_mem_drop hx, by have := dl 1; simp only [spV]; omega⟩
  | k + 12 =>
    have hwd : wdB (spWd (ws.getD a "") (k + 12)) = true := by
      unfold spWd
      have l6 : (k + 12) % 6 < 6 := Nat.mod_lt _ (by decide)
      generalize (k + 12) % 6 = q at l6
      match q, l6 with
      | 0, _ => exact (ap (gw a) (y := "0") (by decide +kernel) (g40 a) (by decide +kernel)).2
      | 1, _ => exact (ap (gw a) (y := "-") (by decide +kernel) (g40 a) (by decide +kernel)).2
      | 2, _ => exact (ap (gw a) (y := "x") (by decide +kernel) (g40 a) (by decide +kernel)).1
      | 3, _ => show wdB "12345678" = true; decide +kernel
      | 4, _ => exact (ap (gw a) (y := "+") (by decide +kernel) (g40 a) (by decide +kernel)).2
      | 5, _ => show wdB "1000001" = true; decide +kernel
    refine ⟨by simp [spV], app (app (inW fun x hx => List.mem_of_mem_take hx) (one hwd)) (inW fun x hx => List.mem_of_mem_drop hx), ?_⟩
    have e : (spV ws a b (k + 12)).length = (ws.take a ++ [spWd (ws.getD a "") (k + 12)] ++ ws.drop (a + 1)).length := rfl
    rw [e, List.length_append, List.length_append, List.length_take, List.length_drop, List.length_singleton]
    omega
theorem spoilt_line {l : Lim} (h : GoodLm l) (hn : NmF l.1) {a : Nat} (sa : SpAt (wdsL l) a) {k : Nat} (hk : k < 18) : LineW (Txt.join " " (spV (wdsL l) a (forB (lnL l)) k)) ∧ parL (Txt.join " " (spV (wdsL l) a (forB (lnL l)) k)) = none := by
  obtain ⟨h1, h2, h3⟩ := wds_ok h
  obtain ⟨a1, a2, a3⟩ := spV_ok h1 h3 h2 a (forB (lnL l)) k
  exact ⟨⟨_, rfl, a1, a2, a3⟩, by rw [par_line a1 a2]; exact spoilt_no h hn sa hk⟩
end Toy

namespace Toy
open PySem PyProof.Rows L2 Pf
/-! ### texts and what is told of them -/
def txS (zs : List Str) : Str := Txt.join "\n" zs
theorem lw_len {z : Str} (h : LineW z) : z.length ≤ 700 := by
  obtain ⟨v, rfl, hne, hw, hl⟩ := h.ex
  have q := join_len " " v
  have s := sum_le (xs := v) (m := 45) fun x hx => (wdB_is.mp (hw x hx)).2
  have e : (" " : Str).length = 1 := by decide +kernel
  rw [e] at q
  have := Nat.mul_le_mul_right 45 hl
  omega
theorem lw_no {z : Str} (h : LineW z) : 10 ∉ z.cps.toList := fun hm => by
  obtain ⟨v, rfl, hne, hw, hl⟩ := h.ex
  rcases mem_join hm with q | ⟨x, hx, q⟩
  · rw [show (" " : Str).cps.toList = [32] from by decide +kernel, List.mem_singleton] at q
    cases q
  · exact ((wdB_is.mp (hw x hx)).1 10 q).2.1 rfl
theorem lw_ok {z : Str} (h : LineW z) : OkLine z := by
  obtain ⟨v, rfl, hne, hw, hl⟩ := h.ex
  exact line_ok hne hw hl
theorem lw_good {l : Lim} (h : GoodLm l) : LineW (lnL l) := by
  obtain ⟨h1, h2, h3⟩ := wds_ok h
  exact ⟨_, rfl, fun e => by rw [e] at h3; simp at h3, fun x hx => wdB_of (h1 x hx), by omega⟩
/-- told of a concrete line -/
def lineB (z : Str) : Bool := (Txt.split z " ").all wdB && decide ((Txt.split z " ").length ≤ 14)
theorem lw_of {z : Str} (h : lineB z = true) : LineW z := by
  unfold lineB at h
  rw [Bool.and_eq_true, List.all_eq_true, decide_eq_true_iff] at h
  refine ⟨Txt.split z " ", ?_, split_ne (by decide +kernel), h.1, h.2⟩
  rw [TL.join_eq, PySem.StrLaws.join_split]
structure TextW (zs : List Str) : Prop where
  line : ∀ z ∈ zs, LineW z
  ne : zs ≠ []
  few : zs.length ≤ 12
theorem txS_split {zs : List Str} (h : TextW zs) : Txt.split (txS zs) "\n" = zs :=
  TL.split_join (s := 10) (S := []) (by decide +kernel) (by decide +kernel) h.ne fun p hp => lw_no (h.line p hp)
theorem txS_len {zs : List Str} (h : TextW zs) : (txS zs).length ≤ 8500 := by
  have q := join_len "\n" zs
  have s := sum_le (xs := zs) (m := 700) fun x hx => lw_len (h.line x hx)
  have e : ("\n" : Str).length = 1 := by decide +kernel
  rw [e] at q
  have := Nat.mul_le_mul_right 700 h.few
  have := h.few
  unfold txS
  omega
/-- what _law_told answers -/
structure Told (z : Str) (n : Option Nat) : Prop where
  ok : OkT z
  eq : errT z = n
theorem told_of {zs : List Str} {n : Option Nat} (h : TextW zs) (he : errB zs [] 1 = n) (hg : n = none → ∀ l ∈ zs.filterMap parL, GoodLm l) : Told (txS zs) n := by
  have hs := txS_split h
  refine ⟨⟨by have := txS_len h; omega, by rw [hs]; have := h.few; omega, by rw [hs]; exact fun x hx => lw_ok (h.line x hx), fun e => ?_⟩, by unfold errT; rw [hs]; exact he⟩
  rw [hs] at e ⊢
  exact hg (by rw [← he]; exact e)
/-! ### the numbers of the wrong lines -/
theorem errB_good : ∀ {ms ls : List Lim} {k : Nat} {r : List Str}, (∀ l ∈ ms, GoodLm l) → ((ls ++ ms).map (·.1)).Nodup → k + ms.length ≤ 9 → errB (ms.map lnL ++ r) ls k = errB r (ls ++ ms) (k + ms.length)
  | [], ls, k, r, _, _, _ => by rw [List.append_nil]; rfl
  | m :: ms, ls, k, r, hg, nd, hk => by
    rw [List.length_cons] at hk
    have hp := par_good (hg m (by simp))
    have hn : ¬ (8 < k ∨ m.1 ∈ ls.map (·.1)) := by
      rintro (q | q)
      · omega
      · rw [List.map_append, List.nodup_append] at nd
        exact nd.2.2 m.1 q m.1 (by simp) rfl
    show (match parL (lnL m) with | none => some k | some l => if 8 < k ∨ l.1 ∈ ls.map (fun l : Lim => l.1) then some k else errB (ms.map lnL ++ r) (ls ++ [l]) (k + 1)) = _
    rw [hp]
    show (if 8 < k ∨ m.1 ∈ ls.map (fun l : Lim => l.1) then some k else errB (ms.map lnL ++ r) (ls ++ [m]) (k + 1)) = _
    rw [if_neg hn, errB_good (fun l hl => hg l (by simp [hl])) (by rw [List.append_assoc]; exact nd) (by omega), List.append_assoc, List.length_cons, show k + 1 + ms.length = k + (ms.length + 1) from by omega]
    rfl
theorem errB_bad {z : Str} {r : List Str} {ls : List Lim} {k : Nat} (h : parL z = none) : errB (z :: r) ls k = some k := by
  show (match parL z with | none => some k | some l => _) = _
  rw [h]
theorem errB_twice {l : Lim} {r : List Str} {ls : List Lim} {k : Nat} (h : GoodLm l) (hm : l ∈ ls) : errB (lnL l :: r) ls k = some k := by
  show (match parL (lnL l) with | none => some k | some l => if 8 < k ∨ l.1 ∈ ls.map (fun l : Lim => l.1) then some k else errB r (ls ++ [l]) (k + 1)) = _
  rw [par_good h]
  exact if_pos (.inr (List.mem_map.mpr ⟨l, hm, rfl⟩))
theorem par_good_all : ∀ {ms : List Lim}, (∀ l ∈ ms, GoodLm l) → (ms.map lnL).filterMap parL = ms
  | [], _ => rfl
  | m :: ms, h => by
    rw [List.map_cons, List.filterMap_cons, par_good (h m (by simp)), par_good_all fun l hl => h l (by simp [hl])]
theorem par_empty : parL "" = none := by decide +kernel
theorem lw_empty : LineW "" := lw_of (by decide +kernel)
section
variable {ls : List Lim} (h : LawLims ls)
include h
theorem lawW : TextW (ls.map lnL) := ⟨fun z hz => by
  obtain ⟨l, hl, rfl⟩ := List.mem_map.mp hz
  exact lw_good (h.g l hl), fun q => by have := h.h1; rw [List.map_eq_nil_iff.mp q] at this; simp at this, by rw [List.length_map]; have := h.h5; omega⟩
theorem err_all : errB (ls.map lnL) [] 1 = none := by
  have q := errB_good (ls := []) (k := 1) (r := []) h.g (by rw [List.nil_append]; exact h.nd) (by have := h.h5; omega)
  rw [List.append_nil] at q
  rw [q]; rfl
theorem told_good : Told (txS (ls.map lnL)) none := told_of (lawW h) (err_all h) fun _ => by rw [par_good_all h.g]; exact h.g
theorem err_more (r : List Str) : errB (ls.map lnL ++ r) [] 1 = errB r ls (ls.length + 1) := by
  have q := errB_good (ls := []) (k := 1) (r := r) h.g (by rw [List.nil_append]; exact h.nd) (by have := h.h5; omega)
  rw [q, List.nil_append, Nat.add_comm 1]
theorem app_W {z : Str} (hz : LineW z) : TextW (ls.map lnL ++ [z]) := ⟨fun x hx => by
  rcases List.mem_append.mp hx with hx | hx
  · exact (lawW h).line x hx
  · rw [List.mem_singleton] at hx; subst hx; exact hz, by simp, by rw [List.length_append, List.length_map]; have := h.h5; simp; omega⟩
theorem told_nl : Told (txS (ls.map lnL ++ ([""] : List Str))) (some (ls.length + 1)) := told_of (app_W h lw_empty) (by rw [err_more h]; exact errB_bad par_empty) (fun q => by cases q)
theorem told_again {l : Lim} (hl : l ∈ ls) : Told (txS (ls.map lnL ++ [lnL l])) (some (ls.length + 1)) := told_of (app_W h (lw_good (h.g l hl))) (by rw [err_more h]; exact errB_twice (h.g l hl) hl) (fun q => by cases q)
theorem bad_W {i : Nat} (hi : i < ls.length) {z : Str} (hz : LineW z) : TextW ((ls.map lnL).take i ++ [z] ++ (ls.map lnL).drop (i + 1)) := by
  have h5 := h.h5
  refine ⟨fun x hx => ?_, by simp, by simp only [List.length_append, List.length_take, List.length_drop, List.length_map, List.length_singleton]; omega⟩
  rcases List.mem_append.mp hx with hx | hx
  · rcases List.mem_append.mp hx with hx | hx
    · exact (lawW h).line x (List.mem_of_mem_take hx)
    · rw [List.mem_singleton] at hx; subst hx; exact hz
  · exact (lawW h).line x (List.mem_of_mem_drop hx)
theorem told_bad {i : Nat} (hi : i < ls.length) {z : Str} (hz : LineW z) (hp : parL z = none) : Told (txS ((ls.map lnL).take i ++ [z] ++ (ls.map lnL).drop (i + 1))) (some (i + 1)) := by
  have h5 := h.h5
  refine told_of ⟨fun x hx => ?_, by simp, by simp only [List.length_append, List.length_take, List.length_drop, List.length_map, List.length_singleton]; omega⟩ ?_ (fun q => by cases q)
  · rcases List.mem_append.mp hx with hx | hx
    · rcases List.mem_append.mp hx with hx | hx
      · exact (lawW h).line x (List.mem_of_mem_take hx)
      · rw [List.mem_singleton] at hx; subst hx; exact hz
    · exact (lawW h).line x (List.mem_of_mem_drop hx)
  · rw [← List.map_take, List.append_assoc]
    rw [errB_good (ls := []) (k := 1) (fun l hl => h.g l (List.mem_of_mem_take hl)) (by rw [List.nil_append]; exact h.nd.sublist ((List.take_sublist _ _).map _)) (by rw [List.length_take]; omega)]
    show errB (z :: _) _ _ = _
    rw [errB_bad hp, List.length_take, Nat.min_eq_left (by omega), Nat.add_comm 1]
end
/-! ### the concrete texts -/
def nineT : List Str := ["n0 held 1", "n1 held 1", "n2 held 1", "n3 held 1", "n4 held 1", "n5 held 1", "n6 held 1", "n7 held 1", "n8 held 1"]
def dupT : List Str := ["x held 1", "x held 2", "y heap 1"]
def oddT : List Str := ["x pool 5", "x pool 5 a:1", "x pool 5 a:1:2 a:1:2", "x pool 5 b:1:2 a:1:2", "x pool 5 a:3:2", "x pool 5 a:6:6", "x pool a:1:2", "x gap 0", "x held for a", "x window 5 for a", "x window 5 0", "x span 5 5 for a a", "x bucket 5 5 for a b c d e f g h i", "x pool 5 for a", "x held 1 a", "x window 1 2 3", "x pool 5 a:01:2", "x pool 5 a:+1:2", "x pool 5 a:1:12345678", "x pool 5 a:1:-2", "x pool 5 a:1:2 b:3:2", "x pool 5 a:0:1 b:0:1000001", "x held 01 for a", "x window 5 05 for a", "x window 5 +5 for a", "x held 1_0", "x held 1 for a-", "x pool 5 a:1:2 B:0:1", "x pool 5 a:1:2 b:1"]
theorem heldG {nm : Str} (h : isNm nm = true) : GoodLm (nm, "held", [], [.int 1]) := ⟨h, .held ⟨List.Pairwise.nil, fun g hg => (by cases hg), (by decide : ([] : List Str).length ≤ 3), fun g hg => (by cases hg)⟩ (by decide) (by decide)⟩
theorem nineW : TextW nineT := ⟨fun z hz => lw_of (List.all_eq_true.mp (show nineT.all lineB = true from by decide +kernel) z hz), by simp [nineT], by simp [nineT]⟩
theorem told_nine : Told (txS nineT) (some 9) := told_of nineW (by decide +kernel) (fun q => by cases q)
def eightL : List Lim := (["n0", "n1", "n2", "n3", "n4", "n5", "n6", "n7"] : List Str).map fun nm => (nm, "held", [], [.int 1])
theorem eight_ln : eightL.map lnL = nineT.take 8 := by decide +kernel
theorem eight_g : ∀ l ∈ eightL, GoodLm l := fun l hl => by
  obtain ⟨nm, hn, rfl⟩ := List.mem_map.mp hl
  exact heldG (List.all_eq_true.mp (show (["n0", "n1", "n2", "n3", "n4", "n5", "n6", "n7"] : List Str).all isNm = true from by decide +kernel) nm hn)
theorem eightW : TextW (nineT.take 8) := ⟨fun z hz => lw_of (List.all_eq_true.mp (show (nineT.take 8).all lineB = true from by decide +kernel) z hz), by simp [nineT], by simp [nineT]⟩
theorem told_eight : Told (txS (nineT.take 8)) none := told_of eightW (by decide +kernel) (fun _ => by rw [← eight_ln, par_good_all eight_g]; exact eight_g)
theorem told_dup : Told (txS dupT) (some 2) := told_of ⟨fun z hz => lw_of (List.all_eq_true.mp (show dupT.all lineB = true from by decide +kernel) z hz), by simp [dupT], by simp [dupT]⟩ (by decide +kernel) (fun q => by cases q)
theorem told_one {z : Str} (hz : LineW z) (hp : parL z = none) : Told z (some 1) := by
  have q := told_of (zs := [z]) (n := some 1) ⟨fun x hx => by rw [List.mem_singleton] at hx; subst hx; exact hz, by simp, by simp⟩ (errB_bad hp) (fun q => by cases q)
  rwa [show txS [z] = z from by unfold txS; rw [TL.join_eq]; rfl] at q
theorem told_empty : Told "" (some 1) := told_one lw_empty par_empty
theorem told_odd : ∀ z ∈ oddT, Told z (some 1) := fun z hz => by
  have q := List.all_eq_true.mp (show oddT.all (fun z => lineB z && (parL z).isNone) = true from by decide +kernel) z hz
  rw [Bool.and_eq_true, Option.isNone_iff_eq_none] at q
  exact told_one (lw_of q.1) q.2
theorem dup_tx : txS dupT = "x held 1\nx held 2\ny heap 1" := by decide +kernel
end Toy

namespace Toy
open PySem PyProof.Rows L2 Pf
theorem bk_uniq {ms ms' ls : List Lim} (h : BkOf ms ls) (h' : BkOf ms' ls) : ms = ms' :=
  (h.pm.trans h'.pm.symm).eq_of_pairwise (le := fun a b : Lim => ltT a.1 b.1) (fun a b _ _ p q => absurd (List.lt_trans (α := Nat) p q) (List.lt_irrefl _)) (List.pairwise_map.mp h.asc) (List.pairwise_map.mp h'.asc)
def insL (l : Lim) : List Lim → List Lim
  | [] => [l]
  | m :: r => if l.1.cps.toList < m.1.cps.toList then l :: m :: r else m :: insL l r
theorem ins_pm (l : Lim) : ∀ r, (insL l r).Perm (l :: r)
  | [] => .refl _
  | m :: r => by
    unfold insL
    split
    · exact .refl _
    · exact ((ins_pm l r).cons m).trans (.swap l m r)
theorem ins_asc (l : Lim) : ∀ r : List Lim, r.Pairwise (fun a b => ltT a.1 b.1) → (∀ m ∈ r, m.1 ≠ l.1) → (insL l r).Pairwise (fun a b => ltT a.1 b.1)
  | [], _, _ => List.pairwise_singleton _ _
  | m :: r, h, hn => by
    obtain ⟨h1, h2⟩ := List.pairwise_cons.mp h
    unfold insL
    split
    · rename_i q
      refine List.pairwise_cons.mpr ⟨fun x hx => ?_, h⟩
      rcases List.mem_cons.mp hx with rfl | hx
      · exact q
      · exact List.lt_trans (α := Nat) q (h1 x hx)
    · rename_i q
      refine List.pairwise_cons.mpr ⟨fun x hx => ?_, ins_asc l r h2 fun x hx => hn x (by simp [hx])⟩
      rcases List.mem_cons.mp ((ins_pm l r).mem_iff.mp hx) with rfl | hx
      · show m.1.cps.toList < x.1.cps.toList
        rcases Std.lt_trichotomy m.1.cps.toList x.1.cps.toList with a | a | a
        · exact a
        · exfalso
          refine hn m (by simp) ?_
          rw [← tx_of m.1, ← tx_of x.1, a]
        · exact absurd a q
      · exact h1 x hx
theorem bk_ex : ∀ ls : List Lim, (ls.map (·.1)).Nodup → ∃ ms, BkOf ms ls
  | [], _ => ⟨[], .refl _, List.Pairwise.nil⟩
  | l :: r, h => by
    obtain ⟨h1, h2⟩ := List.nodup_cons.mp h
    obtain ⟨ms, hm⟩ := bk_ex r h2
    refine ⟨insL l ms, (ins_pm l ms).trans (hm.pm.cons l), List.pairwise_map.mpr (ins_asc l ms (List.pairwise_map.mp hm.asc) fun m hm' q => h1 ?_)⟩
    exact List.mem_map.mpr ⟨m, hm.pm.mem_iff.mp hm', q⟩
theorem txS_snoc : ∀ {zs : List Str}, zs ≠ [] → ∀ z, txS (zs ++ [z]) = txS zs ++ "\n" ++ z
  | [], h, _ => absurd rfl h
  | [a], _, z => by unfold txS; rw [TL.join_eq, TL.join_eq]; rfl
  | a :: b :: r, _, z => by
    have ih := txS_snoc (zs := b :: r) (by simp) z
    have e : ∀ q : List Str, Txt.join "\n" (a :: b :: q) = a ++ "\n" ++ Txt.join "\n" (b :: q) := fun q => by rw [TL.join_eq, TL.join_eq]; rfl
    unfold txS at ih ⊢
    rw [List.cons_append, List.cons_append, e, e, ← List.cons_append, ih]
    simp only [sapp_assoc]
section
variable {P : Program} {w : World} {K : PySem.W.Frag} {mg : Str → Option Value} {base : Heap}
theorem jp_J {X : Cx} {e : Expr} {ρ : Rho} {P1 : D → Prop} {d0 : D} (h : JP X e ρ P1) (hP : ∀ d, P1 d → d = d0) : J X e ρ d0 := ⟨fun W σ H ex hV Q g => h.run W σ H ex hV Q fun d hd => by rw [hP d hd]; exact g⟩
theorem join_W {zs : List Str} (h : TextW zs) : (zs.map (·.length)).sum + zs.length * ("\n" : Str).length ≤ 16777216 := by
  have s := sum_le (xs := zs) (m := 700) fun x hx => lw_len (h.line x hx)
  have e : ("\n" : Str).length = 1 := by decide +kernel
  have := Nat.mul_le_mul_right 700 h.few
  have := h.few
  rw [e]; omega
theorem map_atI {xs : List Str} {a : Nat} {x : Str} (h : xs[a]? = some x) : atI (xs.map D.str) (a : Int) = some (.str x) := by
  obtain ⟨hl, _⟩ := List.getElem?_eq_some_iff.mp h
  rw [atI_N D.non a rfl (by rw [List.length_map]; exact hl), List.getD_eq_getElem?_getD, List.getElem?_map, h]
  rfl
abbrev sLaw : Stmt := top 45
abbrev nLaw : List Str := ["script", "numbers", "limits", "lines", "good", "kind", "at", "bad", "nine", "odd", "line", "limit", "k"]
theorem scLaw : FnScope nLaw ["script"] (defScope sLaw) := ⟨rfl, rfl, rfl, by decide +kernel, rfl, by decide +kernel, by decide +kernel⟩
def gLaw : List D → (D → Prop) → Prop := fun ds P => ∃ (ns : List Int), ds = [.scr ns] ∧ ns.length ≤ 63 ∧ P = fun d => d = .bl true
def nineF (k : Nat) : Str := ("n" : Str) ++ ((toString (0 + (k : Nat) : Int) : String) : Str) ++ (" held 1" : Str)
theorem nine_eq : (List.range 9).map nineF = nineT := by decide +kernel
theorem nine_len : ∀ k : Nat, k < 9 → (0 + (k : Int)).natAbs.log2 < 1920 ∧ (("n" : Str).length + ((toString (0 + (k : Nat) : Int) : String) : Str).length ≤ 30) ∧ (("n" : Str) ++ ((toString (0 + (k : Nat) : Int) : String) : Str)).length + (" held 1" : Str).length ≤ 60 := by decide +kernel
theorem nmF_of {ls : List Lim} (h : LawLims ls) : ∀ l ∈ ls, NmF l.1 := fun l hl => by
  obtain ⟨k, c, h1, h2, h3, e⟩ := h.nm l hl
  obtain ⟨a, b, d⟩ := nmF_all k h1 c (by omega) h2
  rw [e]; exact ⟨a, b, d⟩
theorem spAt_F {ws : List Str} (h3 : 3 ≤ ws.length) {n : Int} (hn : 0 ≤ n) : SpAt ws (atF ws n) := by
  have q0 := Int.emod_nonneg n (b := (ws.length : Int) - 2) (by omega)
  have q1 := Int.emod_lt_of_pos n (b := (ws.length : Int) - 2) (by omega)
  refine ⟨?_, ?_, fun q => ?_, fun q => ?_⟩ <;> unfold atF
  · split
    · omega
    · split <;> omega
  · split
    · omega
    · split <;> omega
  · rw [if_pos q]
  · split
    · rfl
    · rfl
theorem ok_law {C CN : Addr} {f : Addr} {fd : FuncData} (F : Fun K "law" "law" sLaw f fd) (T : Bt mg) (X : Bk K mg C) (cN : PFn P w K mg base 2 "_law_numbers" 2 gNumbers) (cLs : PFn P w K mg base 4 "_law_limits" 2 gLs) (cFl : PFn P w K mg base 1 "format_limit" 1 gFl) (cFb : PFn P w K mg base 3 "format_book" 1 (gFb C)) (cPb : EFn P w K mg base 6 "parse_book" 1 (gPb C CN)) (mI : MMake P w K mg base 4 "Book" C 2 (gInit C)) (cS : PFn P w K mg base 1 "_law_spoilt" 3 gSp) (cT : PFn P w K mg base 7 "_law_told" 1 gTo) : FnOk P w K mg base CX0 8 f fd ["script"] (spP K 1 gLaw) := by
  refine fn_pure F scLaw (by rintro ds Pd ⟨_, rfl, _⟩; rfl) fun cdv A outer s H E0 ds Pd hr hG => ?_
  obtain ⟨sc, rfl, hsc, rfl⟩ := hG
  have nd := scLaw.nd
  refine jss_cons (js_setP (i := 1) (jp_call cN hr (ja_cons (jv 0 rfl) (ja_cons j_int ja_nil)) ⟨sc, 90, rfl, hsc, by decide, rfl⟩) ?_ nd)
  rintro _ ⟨ns, rfl, hl, hb⟩
  have hl : ns.length = 90 := hl
  refine jss_cons (js_setP (i := 2) (jp_call cLs hr (ja_cons (jv 1 rfl) (ja_cons j_int ja_nil)) ⟨ns, 0, rfl, by omega, hb, rfl⟩) ?_ nd)
  rintro _ ⟨ls, rfl, h⟩
  have h1 := h.h1
  have h5 := h.h5
  have gn : ∀ i : Nat, 0 ≤ ns.getD i 0 ∧ ns.getD i 0 < 1009 := getD_in hb
  refine jss_cons (js_setLcN (own := [("limit", 11)]) (i := 3) (j := 11) ls lmD (fun _ => true) (fun l => D.str (lnL l)) (ji_list (jv 2 rfl)) (blkOk_by (N := nLaw) (sc := defScope sLaw) (by decide +kernel)) (fun _ _ _ _ _ => pg_name nd rfl (Or.inl rfl)) (lt_size (by omega)) (fun l hl s0 H C cl fp => ⟨jts_nil, fun _ => j_call cFl hr (ja_cons (jv 11 rfl) ja_nil) ⟨l, rfl, h.g l hl, rfl⟩ (fun _ h => h)⟩) ?_ nd (by rfl))
  rw [List.filter_eq_self.mpr (fun _ _ => rfl), show ls.map (fun l => D.str (lnL l)) = (ls.map lnL).map D.str from by rw [List.map_map]; rfl]
  have lenL : lenD (.lst ((ls.map lnL).map D.str)) = some ls.length := by show some _ = _; rw [List.length_map, List.length_map]
  refine jss_cons (js_set (i := 4) (j_join j_str (jv 3 rfl) (join_W (lawW h)) (show _ = txS (ls.map lnL) from rfl)) ?_ nd)
  have tg := told_good h
  have tl : (txS (ls.map lnL)).length ≤ 8500 := txS_len (lawW h)
  refine jss_cons (js_ifF (JT.to (jt_cm (J.to (j_call cT hr (ja_cons (jv 4 rfl) ja_nil) ⟨_, rfl, tg.ok, rfl⟩ (fun _ h => h)) (d' := .int 0) (by rw [tg.eq]; rfl)) j_int cd_neI) rfl) (jss_nil ?_))
  refine jss_mid (fun ρ => ∃ o5 o6 o7, ρ = [some (.fz (.scr sc)), some (.fz (.lst (ns.map D.int))), some (.fz (.lst (ls.map lmD))), some (.fz (.lst ((ls.map lnL).map D.str))), some (.fz (.str (txS (ls.map lnL)))), o5, o6, o7, none, none, none, none, none])
    (js_range 18 (i := 5) (fun k ρ => ∃ o5 o6 o7, ρ = [some (.fz (.scr sc)), some (.fz (.lst (ns.map D.int))), some (.fz (.lst (ls.map lmD))), some (.fz (.lst ((ls.map lnL).map D.str))), some (.fz (.str (txS (ls.map lnL)))), o5, o6, o7, none, none, none, none, none]) T j_int (by decide) nd ⟨_, _, _, rfl⟩ ?_ ?_) ?_
  · rintro k _ hk ⟨o5, o6, o7, rfl⟩
    have n70 := gn 70
    have n71 := gn 71
    have n72 := gn 72
    have hkm : 0 ≤ (k : Int) * ns.getD 71 0 := Int.mul_nonneg (by omega) (by omega)
    obtain ⟨i, hi, hil⟩ : ∃ i : Nat, (ns.getD 70 0 + (k : Int) * ns.getD 71 0) % (ls.length : Int) = (i : Int) ∧ i < ls.length := by
      have h0 := Int.emod_nonneg (ns.getD 70 0 + (k : Int) * ns.getD 71 0) (b := (ls.length : Int)) (by omega)
      have h1 := Int.emod_lt_of_pos (ns.getD 70 0 + (k : Int) * ns.getD 71 0) (b := (ls.length : Int)) (by omega)
      exact ⟨((ns.getD 70 0 + (k : Int) * ns.getD 71 0) % (ls.length : Int)).toNat, by omega, by omega⟩
    refine jss_cons (js_set (i := 6) (J.to (j_bin (jb_int T (ja_cons (j_bin (j_ix (jv 1 rfl) j_int (ixd_N 70 rfl (by omega))) (j_bin (jv 5 rfl) (j_ix (jv 1 rfl) j_int (ixd_N 71 rfl (by omega))) (od_mulI (.inl ⟨by omega, by omega⟩))) od_addI) ja_nil)) (jb_len T (ja_cons (jv 3 rfl) ja_nil) lenL) (od_modI (by omega))) (congrArg D.int hi)) ?_ nd)
    have hea : ls[i]? = some ls[i] := List.getElem?_eq_getElem hil
    generalize ls[i] = l at hea
    have hlm := List.mem_of_getElem? hea
    have gl := h.g l hlm
    obtain ⟨w1, w2, w3⟩ := wds_ok gl
    have sa := spAt_F w3 (n := ns.getD 72 0 + (k : Int)) (by omega)
    obtain ⟨x1, x2⟩ := spoilt_line gl (nmF_of h l hlm) sa hk
    have tb := told_bad h hil x1 x2
    have bw := bad_W h hil x1
    have hi2 : ns.getD 72 0 + (k : Int) = ns.getD 72 0 + (k : Int) := rfl
    have lt1 : ((ls.map lnL).take i).length ≤ 5 := by rw [List.length_take, List.length_map]; omega
    have lt2 : ((ls.map lnL).drop (i + 1)).length ≤ 5 := by rw [List.length_drop, List.length_map]; omega
    refine jss_cons (js_set (i := 7) (J.to (j_bin (j_bin (J.to (j_sl (jv 3 rfl) jo_none (jo_some (jv 6 rfl)) sld_L) (show _ = D.lst (((ls.map lnL).take i).map D.str) from by rw [cut_takeN, ← List.map_take]))
      (j_lst (ja_cons (jp_J (jp_call cS hr (ja_cons (J.to (j_ix (jv 3 rfl) (jv 6 rfl) (ixd_L (d := D.str (lnL l)) (by rw [map_atI (xs := ls.map lnL) (x := lnL l) (by rw [List.getElem?_map, hea]; rfl)]))) (show _ = D.str (Txt.join " " (wdsL l)) from rfl)) (ja_cons (jv 5 rfl) (ja_cons (j_bin (j_ix (jv 1 rfl) j_int (ixd_N 72 rfl (by omega))) (jv 5 rfl) od_addI) ja_nil))) ⟨wdsL l, k, _, rfl, w1, w3, w2, hk, by omega, rfl⟩) (d0 := D.str (Txt.join " " (spV (wdsL l) (atF (wdsL l) (ns.getD 72 0 + (k : Int))) (forB (lnL l)) k))) (by rintro _ ⟨a, rfl, _, rfl⟩; rfl)) ja_nil)) (od_addL (by rw [List.length_map]; show ((ls.map lnL).take i).length + 1 ≤ sizeLine; exact le_size (by omega))))
      (J.to (j_sl (jv 3 rfl) (jo_some (j_bin (jv 6 rfl) j_int od_addI)) jo_none sld_L) (show _ = D.lst (((ls.map lnL).drop (i + 1)).map D.str) from by rw [show ((i : Int) + 1) = ((i + 1 : Nat) : Int) from by omega, cut_from, ← List.map_drop])) (od_addL (by rw [List.length_append, List.length_map, List.length_map]; show ((ls.map lnL).take i).length + 1 + ((ls.map lnL).drop (i + 1)).length ≤ sizeLine; exact le_size (by omega))))
      (show _ = D.lst (((ls.map lnL).take i ++ [Txt.join " " (spV (wdsL l) (atF (wdsL l) (ns.getD 72 0 + (k : Int))) (forB (lnL l)) k)] ++ (ls.map lnL).drop (i + 1)).map D.str) from by rw [List.map_append, List.map_append]; rfl)) ?_ nd)
    refine jss_cons (js_ifF (JT.to (jt_cm (J.to (j_call cT hr (ja_cons (j_join j_str (jv 7 rfl) (join_W bw) rfl) ja_nil) ⟨_, rfl, tb.ok, rfl⟩ (fun _ h => h)) (d' := .int ((i : Int) + 1)) (by
      have e : errT _ = _ := tb.eq
      exact (congrArg (fun n => D.int (toldT n)) e))) (j_bin (jv 6 rfl) j_int od_addI) cd_neI) (by simp)) (jss_nil (jss_nil ⟨_, _, _, rfl⟩)))
  · rintro _ ⟨o5, o6, o7, rfl⟩
    exact ⟨_, rfl, o5, o6, o7, rfl⟩
  rintro _ ⟨o5, o6, o7, rfl⟩
  have nl1 : ("\n" : Str).length = 1 := by decide +kernel
  have lne : ls.map lnL ≠ [] := (lawW h).ne
  have tnl := told_nl h
  have hl0 : ls[0]? = some ls[0] := List.getElem?_eq_getElem (by omega)
  generalize ls[0] = l0 at hl0
  have hm0 := List.mem_of_getElem? hl0
  have tag := told_again h hm0
  have ll0 := ln_len (h.g l0 hm0)
  refine jss_cons (js_setLcN (own := [("k", 12)]) (i := 8) (j := 12) (List.range 9) (fun k => D.int (0 + (k : Nat))) (fun _ => true) (fun k => D.str (nineF k)) (ji_rangeN 9 T j_int rfl (by decide) (by decide)) (blkOk_by (N := nLaw) (sc := defScope sLaw) (by decide +kernel)) (fun _ _ _ _ _ => pg_name nd rfl (Or.inl rfl)) (by rw [List.length_range]; exact lt_size (by decide)) (fun k hk s0 H C cl fp => ⟨jts_nil, fun _ => ?_⟩) ?_ nd (by rfl))
  · obtain ⟨q1, q2, q3⟩ := nine_len k (List.mem_range.mp hk)
    exact j_bin (j_bin j_str (jb_str T (ja_cons (jv 12 rfl) ja_nil) q1) (od_addS (le_size (by omega)))) j_str (od_addS (le_size (by omega)))
  rw [List.filter_eq_self.mpr (fun _ _ => rfl), show (List.range 9).map (fun k => D.str (nineF k)) = nineT.map D.str from by rw [← nine_eq, List.map_map]; rfl]
  refine jss_cons (js_ifF (JT.to (jt_w (jw_or (t := false) (u := false) (JT.to (jt_cm (J.to (j_call cT hr (ja_cons (j_join j_str (jv 8 rfl) (join_W nineW) rfl) ja_nil) ⟨_, rfl, told_nine.ok, rfl⟩ (fun _ h => h)) (d' := .int 9) (congrArg (fun n => D.int (toldT n)) told_nine.eq)) j_int cd_neI) (by simp)) (fun _ => jw_or (t := false) (u := false) (JT.to (jt_cm (J.to (j_call cT hr (ja_cons (j_join j_str (J.to (j_sl (jv 8 rfl) jo_none (jo_some j_int) sld_L) (show _ = D.lst ((nineT.take 8).map D.str) from by rw [show (some (8 : Int)) = some ((8 : Nat) : Int) from rfl, cut_takeN, ← List.map_take])) (join_W eightW) rfl) ja_nil) ⟨_, rfl, told_eight.ok, rfl⟩ (fun _ h => h)) (d' := .int 0) (congrArg (fun n => D.int (toldT n)) told_eight.eq)) j_int cd_neI) (by simp)) (fun _ => jw_or (t := false) (u := false) (JT.to (jt_cm (J.to (j_call cT hr (ja_cons j_str ja_nil) ⟨_, rfl, told_empty.ok, rfl⟩ (fun _ h => h)) (d' := .int 1) (congrArg (fun n => D.int (toldT n)) told_empty.eq)) j_int cd_neI) (by simp)) (fun _ => jw_or1 (JT.to (jt_cm (J.to (j_call cT hr (ja_cons (J.to (j_bin (jv 4 rfl) j_str (od_addS (le_size (by rw [nl1]; omega)))) (show _ = D.str (txS (ls.map lnL ++ ([""] : List Str))) from by rw [txS_snoc lne, app_emp])) ja_nil) ⟨_, rfl, tnl.ok, rfl⟩ (fun _ h => h)) (d' := .int ((ls.length + 1 : Nat) : Int)) (congrArg (fun n => D.int (toldT n)) tnl.eq)) (j_bin (jb_len T (ja_cons (jv 3 rfl) ja_nil) lenL) j_int od_addI) cd_neI) (by simp))))))) rfl) (jss_nil ?_))
  refine jss_cons (js_ifF (JT.to (jt_w (jw_or (t := false) (u := false) (JT.to (jt_cm (J.to (j_call cT hr (ja_cons (J.to (j_bin (j_bin (jv 4 rfl) j_str (od_addS (le_size (by rw [nl1]; omega)))) (j_ix (jv 3 rfl) j_int (ixd_L (d := D.str (lnL l0)) (map_atI (xs := ls.map lnL) (a := 0) (by rw [List.getElem?_map, hl0]; rfl)))) (od_addS (le_size (by rw [app_len, nl1]; omega)))) (show _ = D.str (txS (ls.map lnL ++ [lnL l0])) from by rw [txS_snoc lne])) ja_nil) ⟨_, rfl, tag.ok, rfl⟩ (fun _ h => h)) (d' := .int ((ls.length + 1 : Nat) : Int)) (congrArg (fun n => D.int (toldT n)) tag.eq)) (j_bin (jb_len T (ja_cons (jv 3 rfl) ja_nil) lenL) j_int od_addI) cd_neI) (by simp)) (fun _ => jw_or1 (JT.to (jt_cm (J.to (j_call cT hr (ja_cons (J.to j_str (show _ = D.str (txS dupT) from congrArg D.str dup_tx.symm)) ja_nil) ⟨_, rfl, told_dup.ok, rfl⟩ (fun _ h => h)) (d' := .int 2) (congrArg (fun n => D.int (toldT n)) told_dup.eq)) j_int cd_neI) (by simp))))) rfl) (jss_nil ?_))
  refine jss_cons (js_set (i := 9) (J.to (j_lst (ja_cons j_str (ja_cons j_str (ja_cons j_str (ja_cons j_str (ja_cons j_str (ja_cons j_str (ja_cons j_str (ja_cons j_str (ja_cons j_str (ja_cons j_str (ja_cons j_str (ja_cons j_str (ja_cons j_str (ja_cons j_str (ja_cons j_str (ja_cons j_str ja_nil))))))))))))))))) (show _ = D.lst ((oddT.take 16).map D.str) from rfl)) ?_ nd)
  refine jss_cons (js_set (i := 9) (J.to (j_bin (jv 9 rfl) (j_lst (ja_cons j_str (ja_cons j_str (ja_cons j_str (ja_cons j_str (ja_cons j_str (ja_cons j_str ja_nil))))))) (od_addL (le_size (show (22 : Nat) ≤ 10000 by decide)))) (show _ = D.lst ((oddT.take 22).map D.str) from rfl)) ?_ nd)
  refine jss_cons (js_set (i := 9) (J.to (j_bin (jv 9 rfl) (j_lst (ja_cons j_str (ja_cons j_str (ja_cons j_str (ja_cons j_str (ja_cons j_str (ja_cons j_str (ja_cons j_str ja_nil)))))))) (od_addL (le_size (show (29 : Nat) ≤ 10000 by decide)))) (show _ = D.lst (oddT.map D.str) from rfl)) ?_ nd)
  refine jss_cons (js_each (i := 10) oddT D.str (fun k ρ => ∃ o10, ρ = [some (.fz (.scr sc)), some (.fz (.lst (ns.map D.int))), some (.fz (.lst (ls.map lmD))), some (.fz (.lst ((ls.map lnL).map D.str))), some (.fz (.str (txS (ls.map lnL)))), o5, o6, o7, some (.fz (.lst (nineT.map D.str))), some (.fz (.lst (oddT.map D.str))), o10, none, none]) (ji_list (jv 9 rfl)) nd ⟨_, rfl⟩ ?_ ?_)
  · rintro k z _ hk ⟨o10, rfl⟩
    have tz := told_odd z (List.mem_of_getElem? hk)
    exact jss_cons (js_ifF (JT.to (jt_cm (J.to (j_call cT hr (ja_cons (jv 10 rfl) ja_nil) ⟨_, rfl, tz.ok, rfl⟩ (fun _ h => h)) (d' := .int 1) (congrArg (fun n => D.int (toldT n)) tz.eq)) j_int cd_neI) (by simp)) (jss_nil (jss_nil ⟨_, rfl⟩)))
  rintro _ ⟨o10, rfl⟩
  obtain ⟨ms, hms⟩ := bk_ex ls h.nd
  have hml := hms.pm.length_eq
  have hmg : ∀ l ∈ ms, GoodLm l := fun l hl => h.g l (hms.pm.mem_iff.mp hl)
  have hfm : (Txt.split (txS (ls.map lnL)) "\n").filterMap parL = ls := by rw [txS_split (lawW h), par_good_all h.g]
  refine jss_cons (js_ret (j_and (u := true) (J.to (j_cm (jp_J (jp_call1 cFb hr (jp_of (jx_call cPb hr (ja_cons (jv 4 rfl) ja_nil) ⟨_, rfl, tg.ok, rfl, rfl⟩) ?_) ja_nil (P := fun r => r = .str (txL ms)) ?_) (fun _ h => h))
    (jp_J (jp_call1 cFb hr (jp_O (jo_make mI hr (ja_cons (jv 2 rfl) ja_nil) ⟨ls, rfl, rfl, h.g, h.nd, h1, by omega, rfl⟩ (fun r d' h => h.1))) ja_nil (P := fun r => r = .str (txL ms)) ?_) (fun _ h => h)) cd_eqS) (congrArg D.bl (decide_eq_true rfl)))
    (fun _ => j_one (J.to (j_cm (J.to (j_call cT hr (ja_cons (jv 4 rfl) ja_nil) ⟨_, rfl, tg.ok, rfl⟩ (fun _ h => h)) (d' := .int 0) (congrArg (fun n => D.int (toldT n)) tg.eq)) j_int cd_eqI) (show _ = D.bl true from rfl)))) rfl)
  · rintro er ⟨k, _, he, _⟩
    have e0 : errB (Txt.split (txS (ls.map lnL)) "\n") [] 1 = none := tg.eq
    rw [e0] at he; cases he
  · rintro _ ⟨_, ms', hm', rfl⟩
    rw [hfm] at hm'
    obtain rfl := bk_uniq hm' hms
    exact ⟨_, rfl, hmg, by omega, rfl⟩
  · rintro _ ⟨_, _, ms', hm', rfl⟩
    obtain rfl := bk_uniq hm' hms
    exact ⟨_, rfl, hmg, by omega, rfl⟩
end
end Toy

namespace Toy
open PySem PyProof.Rows L2 Pf
section
variable {P : Program} {w : World} {K : PySem.W.Frag} {mg : Str → Option Value} {base : Heap}
abbrev sIniN : Stmt := inClass (top 6) 0
theorem int_text {i : Int} (h0 : 0 ≤ i) (h1 : i < 1000000) : i.natAbs.log2 < 1920 ∧ ((toString i : String) : Str).length ≤ 100 := by
  have q := numT_ok h0 (show i ≤ 1000000 by omega)
  exact ⟨q.2.2.1, Nat.le_trans q.1 (by decide)⟩
theorem msg_ok {a b : Str} {i : Int} {X : Cx} {ρ : Rho} {e0 : Expr} {j k : Nat} {p0 p1 p2 p3 : Pos} (hb : a.length + b.length ≤ 200) (h : J X e0 ρ (.int i)) (h0 : 0 ≤ i) (h1 : i < 1000000) : ∃ m, J X (.JoinedStr [.Constant (.str a) j p0, .FormattedValue e0 (-1) none p1, .Constant (.str b) k p2] p3) ρ (.str m) := by
  obtain ⟨q1, q2⟩ := int_text h0 h1
  refine ⟨_, j_fs (.cons j_str (.cons (j_fmtI h q1) (.cons j_str .nil))) rfl ?_⟩
  unfold joinS joinS joinS joinS
  rw [app_len, app_len, app_len, show (Str.empty).length = 0 from rfl]
  exact le_size (by omega)
theorem ok_iniN {C cc c f : Addr} {oc : Value} {od an : Option Addr} {osl : Array (Option Value)} {kV doc pm ct : Value} (SK : SupK P K mg C cc c) (lk : K.lookup f = some ⟨oc, od, .func (PySem.W.fnX "__init__" "InvalidNotation.__init__" (defArgs sIniN) (defBody sIniN) (defScope sIniN) [("__class__", cc)] .none kV doc pm an (.ref c) ct), osl⟩)
    (hcd : PySem.W.codeIn K (.ref c) "InvalidNotation.__init__" = true) (hno : PySem.W.findIn K (.ref C) "line" = some none) : FnOk P w K mg base CX0 1 f (PySem.W.fnX "__init__" "InvalidNotation.__init__" (defArgs sIniN) (defBody sIniN) (defScope sIniN) [("__class__", cc)] .none kV doc pm an (.ref c) ct) ["self", "line"] (spSup K C "line" GNum) := by
  refine fn_sup (k := 0) SK lk rfl hcd rfl (NdefX.nscope_by (by decide +kernel)) (by decide +kernel) (by decide +kernel) ⟨_, rfl, rfl⟩ hno (by decide) ?_ (fun env => ⟨_, rfl⟩) (fun env => rfl) (fun env => rfl)
  rintro A outer s H E d ⟨i, rfl, h0, h1⟩
  exact msg_ok (by decide +kernel) (jv 1 rfl) h0 h1
end
section
def Row (K : PySem.W.Frag) (d : Addr) (z : Str) (ns : List Int) : Prop := ∃ a ob its m, PySem.W.nsIn K d z = some (some (.ref a)) ∧ K.lookup a = some ob ∧ ob.cls = .type "tuple" ∧ ob.data = .seq its m ∧ its.size ≤ sizeLine ∧ L2.Vals (ns.map V.int) its.toList
theorem row2 {K : PySem.W.Frag} {d a : Addr} {z : Str} {i j : Int} {t u : Tok} {di : Option Addr} {m : Nat} {sl : Array (Option Value)} (h1 : PySem.W.nsIn K d z = some (some (.ref a))) (h2 : K.lookup a = some ⟨.type "tuple", di, .seq #[.int i t, .int j u] m, sl⟩) : Row K d z [i, j] :=
  ⟨a, _, _, _, h1, h2, rfl, rfl, by show 2 ≤ sizeLine; decide, .cons ⟨t, rfl⟩ (.cons ⟨u, rfl⟩ .nil)⟩
theorem row1 {K : PySem.W.Frag} {d a : Addr} {z : Str} {i : Int} {t : Tok} {di : Option Addr} {m : Nat} {sl : Array (Option Value)} (h1 : PySem.W.nsIn K d z = some (some (.ref a))) (h2 : K.lookup a = some ⟨.type "tuple", di, .seq #[.int i t] m, sl⟩) : Row K d z [i] :=
  ⟨a, _, _, _, h1, h2, rfl, rfl, by show 1 ≤ sizeLine; decide, .cons ⟨t, rfl⟩ .nil⟩
theorem tab_of {K : PySem.W.Frag} {w : World} {mg : Str → Option Value} {d : Addr} {es : Array DictEntry} {c : Nat} (h0 : mg "LEAST_NUMBERS" = some (.ref d)) (D : KDict K w d es c) (r0 : Row K d "window" [0, 1]) (r1 : Row K d "span" [0, 1]) (r2 : Row K d "bucket" [0, 1]) (r3 : Row K d "gap" [1]) (r4 : Row K d "held" [0])
    (n0 : PySem.W.nsIn K d "heap" = some none) (n1 : PySem.W.nsIn K d "windows" = some none) (n2 : PySem.W.nsIn K d "spans" = some none) (n3 : PySem.W.nsIn K d "buckets" = some none) (n4 : PySem.W.nsIn K d "gaps" = some none) (n5 : PySem.W.nsIn K d "helds" = some none) (n6 : PySem.W.nsIn K d "pools" = some none) (n7 : PySem.W.nsIn K d "" = some none) : Tab K w mg "LEAST_NUMBERS" leastT :=
  ⟨d, es, c, h0, D, fun z o hz => by
    simp only [leastT, List.mem_cons, List.not_mem_nil, or_false, Prod.mk.injEq] at hz
    rcases hz with ⟨rfl, rfl⟩ | ⟨rfl, rfl⟩ | ⟨rfl, rfl⟩ | ⟨rfl, rfl⟩ | ⟨rfl, rfl⟩ | ⟨rfl, rfl⟩ | ⟨rfl, rfl⟩ | ⟨rfl, rfl⟩ | ⟨rfl, rfl⟩ | ⟨rfl, rfl⟩ | ⟨rfl, rfl⟩ | ⟨rfl, rfl⟩ | ⟨rfl, rfl⟩
    · exact r0
    · exact r1
    · exact r2
    · exact r3
    · exact r4
    · exact n0
    · exact n1
    · exact n2
    · exact n3
    · exact n4
    · exact n5
    · exact n6
    · exact n7⟩
abbrev fiveW : List Str := ["window", "span", "bucket", "gap", "held"]
theorem miss_in {K : PySem.W.Frag} {w : World} {d : Addr} {es : Array DictEntry} {c : Nat} (D : KDict K w d es c) (n7 : PySem.W.nsIn K d "" = some none) (ha : es.toList.all (fun e => fiveW.any fun z => e.key.isStr z) = true) {z : Str} (hz : z ∉ fiveW) : PySem.W.nsIn K d z = some none := by
  have hn : es.toList.find? (fun x => x.key.isStr z) = none := List.find?_eq_none.mpr fun e he q => by
    have h1 := List.all_eq_true.mp ha e he
    obtain ⟨y, hy, h2⟩ := List.any_eq_true.mp h1
    exact hz (Value.isStr_inj e.key z y q h2 ▸ hy)
  have hl := D.at_
  unfold PySem.W.nsIn at n7 ⊢
  rw [show List.lookup d K = _ from hl] at n7 ⊢
  simp only at n7 ⊢
  rw [hn]
  simp only
  split at n7
  · cases n7
  · exact n7
theorem miss_of {K : PySem.W.Frag} {w : World} {mg : Str → Option Value} {d : Addr} {es : Array DictEntry} {c : Nat} (h0 : mg "LEAST_NUMBERS" = some (.ref d)) (D : KDict K w d es c) (n7 : PySem.W.nsIn K d "" = some none) (ha : es.toList.all (fun e => fiveW.any fun z => e.key.isStr z) = true) : ∀ z : Str, z ∉ fiveW → Tab K w mg "LEAST_NUMBERS" [(z, none)] := fun z hz =>
  ⟨d, es, c, h0, D, fun y o hy => by
    rw [List.mem_singleton] at hy
    cases hy
    exact miss_in D n7 ha hz⟩
end
end Toy

namespace Toy
open PySem PyProof.Rows L2 Pf
def spLaw (K : PySem.W.Frag) : Sp := fun args H Q _ =>
  ∃ (ns : List Int) (a : Addr), args = [.ref a] ∧ ns.length ≤ 63 ∧ SqL K H a (ns.map V.int) ∧ (∀ H', Q (.bl true) H')
theorem law_of {K : PySem.W.Frag} (vs : List V) (H : Hp) (Q : VK) (E : XK) (h : spLaw K vs H Q E) : spP K 1 gLaw vs H Q E := by
  obtain ⟨ns, a, rfl, hl, hS, q⟩ := h
  refine ⟨rfl, H, [.scr ns], _, .refl _, .cons (.scr hS) .nil, ⟨ns, rfl, hl, rfl⟩, ?_⟩
  rintro _ rfl v W' H' _ r
  cases r
  exact q H'
theorem all_mk {l : PySem.W.OpenLaw} {w : World} {K : PySem.W.Frag} {h : Heap} {mg : Str → Option Value} {fa C0 f0 f1 f2 f3 f4 f5 f6 f7 f8 f9 f10 f11 f12 f13 f14 f15 f16 f17 f18 f19 f20 f21 f22 f23 f24 f25 f26 f27 : Addr} (X : K.In h) (G : h.Ns mainGlobals mg) (hfa : mg "law" = some (.ref fa))
    {od0 an0 od1 an1 od2 an2 od3 an3 od4 an4 od5 an5 od6 an6 od7 an7 od8 an8 od9 an9 od10 an10 od11 an11 od12 an12 od13 an13 od14 an14 od15 an15 od16 an16 od17 an17 od18 an18 od19 an19 od20 an20 od21 an21 od22 an22 od23 an23 od24 an24 od25 an25 od26 an26 od27 an27 : Option Addr} {sl0 sl1 sl2 sl3 sl4 sl5 sl6 sl7 sl8 sl9 sl10 sl11 sl12 sl13 sl14 sl15 sl16 sl17 sl18 sl19 sl20 sl21 sl22 sl23 sl24 sl25 sl26 sl27 : Array (Option Value)} {oc0 kV0 dc0 pm0 cd0 ct0 oc1 kV1 dc1 pm1 cd1 ct1 oc2 kV2 dc2 pm2 cd2 ct2 oc3 kV3 dc3 pm3 cd3 ct3 oc4 kV4 dc4 pm4 cd4 ct4 oc5 kV5 dc5 pm5 cd5 ct5 oc6 kV6 dc6 pm6 cd6 ct6 oc7 kV7 dc7 pm7 cd7 ct7 oc8 kV8 dc8 pm8 cd8 ct8 oc9 kV9 dc9 pm9 cd9 ct9 oc10 kV10 dc10 pm10 cd10 ct10 oc11 kV11 dc11 pm11 cd11 ct11 oc12 kV12 dc12 pm12 cd12 ct12 oc13 kV13 dc13 pm13 cd13 ct13 oc14 kV14 dc14 pm14 cd14 ct14 oc15 kV15 dc15 pm15 cd15 ct15 oc16 kV16 dc16 pm16 cd16 ct16 oc17 kV17 dc17 pm17 cd17 ct17 oc18 kV18 dc18 pm18 cd18 ct18 oc19 kV19 dc19 pm19 cd19 ct19 oc20 kV20 dc20 pm20 cd20 ct20 oc21 kV21 dc21 pm21 cd21 ct21 oc22 kV22 dc22 pm22 cd22 ct22 oc23 kV23 dc23 pm23 cd23 ct23 oc24 kV24 dc24 pm24 cd24 ct24 oc25 kV25 dc25 pm25 cd25 ct25 oc26 kV26 dc26 pm26 cd26 ct26 oc27 kV27 dc27 pm27 cd27 ct27 : Value}
    {tg0 tg1 tg2 tg3 tg4 tg5 tg6 : Tok} {X0 X1 X2 xcc2 xc2 xf2 xN2 XE : Addr} {xnm2 xq2 : Str} {xbs2 xbm2 xsu2 : List Value} {xsn2 : List Str} {xab2 : Bool} {xcol2 : Option Bool} {xdd2 xcld2 xcdd2 xod2 xan2 : Option Addr} {xk02 xk12 xk22 xk32 xk52 : Option Value} {xcl2 xccl2 xoc2 xkV2 xdc2 xpm2 xct2 : Value} {xcsl2 xccs2 xosl2 : Array (Option Value)} {xvs2 : Array Value} {xfl2 : Str} {xtf2 : Tok} {xcd2 : ClassData} {td : Addr} {tes : Array DictEntry} {tc : Nat} {ta0 : Addr} {tb0 tc0 : Tok} {te0 : Option Addr} {tm0 : Nat} {tl0 : Array (Option Value)} {ta1 : Addr} {tb1 tc1 : Tok} {te1 : Option Addr} {tm1 : Nat} {tl1 : Array (Option Value)} {ta2 : Addr} {tb2 tc2 : Tok} {te2 : Option Addr} {tm2 : Nat} {tl2 : Array (Option Value)} {ta3 : Addr} {tb3 : Tok} {te3 : Option Addr} {tm3 : Nat} {tl3 : Array (Option Value)} {ta4 : Addr} {tb4 : Tok} {te4 : Option Addr} {tm4 : Nat} {tl4 : Array (Option Value)}  {pp0 pf0 : Addr} {pod0 pan0 : Option Addr} {psl0 : Array (Option Value)} {poc0 pkV0 pdc0 ppm0 pcd0 pct0 : Value} {prs0 : List Value}
    (zC0 : PySem.W.nsIn K mainGlobals "Book" = some (some (.ref C0)))
    (pg0 : PySem.W.plainGet K C0 Str.empty = true)
    (hd0 : PySem.W.hasDictIn K C0 = true)
    (po0 : PySem.W.plainOver K C0 = true)
    (sa0 : PySem.W.findIn K (.ref C0) "__setattr__" = some (some (.builtin "object.__setattr__")))
    (mk0 : PySem.W.makesIn K C0 = true)
    (kc0 : PySem.W.keepIn K (.ref C0) = true)
    (n0x0 : PySem.W.findIn K (.ref C0) "_limits" = some none)
    (a0 : PySem.W.findIn K (.ref C0) "__init__" = some (some (.ref f0)))
    (i0 : PySem.W.isFn K (.ref f0) = true)
    (l0 : K.lookup f0 = some ⟨oc0, od0, .func (PySem.W.fnOf "__init__" "Book.__init__" (defArgs sInit) (defBody sInit) (defScope sInit) .none kV0 dc0 pm0 an0 cd0 ct0), sl0⟩)
    (c0 : PySem.W.codeIn K cd0 "Book.__init__" = true)
    (k0 : PySem.W.keepIn K (.ref f0) = true)
    (a1 : PySem.W.nsIn K mainGlobals "is_name" = some (some (.ref f1)))
    (l1 : K.lookup f1 = some ⟨oc1, od1, .func (PySem.W.fnOf "is_name" "is_name" (defArgs sName) (defBody sName) (defScope sName) .none kV1 dc1 pm1 an1 cd1 ct1), sl1⟩)
    (c1 : PySem.W.codeIn K cd1 "is_name" = true)
    (k1 : PySem.W.keepIn K (.ref f1) = true)
    (a2 : PySem.W.nsIn K mainGlobals "is_within" = some (some (.ref f2)))
    (l2 : K.lookup f2 = some ⟨oc2, od2, .func (PySem.W.fnOf "is_within" "is_within" (defArgs sIn) (defBody sIn) (defScope sIn) .none kV2 dc2 pm2 an2 cd2 ct2), sl2⟩)
    (c2 : PySem.W.codeIn K cd2 "is_within" = true)
    (k2 : PySem.W.keepIn K (.ref f2) = true)
    (a3 : PySem.W.nsIn K mainGlobals "is_ascending" = some (some (.ref f3)))
    (l3 : K.lookup f3 = some ⟨oc3, od3, .func (PySem.W.fnOf "is_ascending" "is_ascending" (defArgs sAs) (defBody sAs) (defScope sAs) .none kV3 dc3 pm3 an3 cd3 ct3), sl3⟩)
    (c3 : PySem.W.codeIn K cd3 "is_ascending" = true)
    (k3 : PySem.W.keepIn K (.ref f3) = true)
    (a4 : PySem.W.nsIn K mainGlobals "has_share_form" = some (some (.ref f4)))
    (l4 : K.lookup f4 = some ⟨oc4, od4, .func (PySem.W.fnOf "has_share_form" "has_share_form" (defArgs sSf) (defBody sSf) (defScope sSf) .none kV4 dc4 pm4 an4 cd4 ct4), sl4⟩)
    (c4 : PySem.W.codeIn K cd4 "has_share_form" = true)
    (k4 : PySem.W.keepIn K (.ref f4) = true)
    (a5 : PySem.W.nsIn K mainGlobals "has_form" = some (some (.ref f5)))
    (l5 : K.lookup f5 = some ⟨oc5, od5, .func (PySem.W.fnOf "has_form" "has_form" (defArgs sFo) (defBody sFo) (defScope sFo) .none kV5 dc5 pm5 an5 cd5 ct5), sl5⟩)
    (c5 : PySem.W.codeIn K cd5 "has_form" = true)
    (k5 : PySem.W.keepIn K (.ref f5) = true)
    (a6 : PySem.W.nsIn K mainGlobals "groups_of" = some (some (.ref f6)))
    (l6 : K.lookup f6 = some ⟨oc6, od6, .func (PySem.W.fnOf "groups_of" "groups_of" (defArgs sGo) (defBody sGo) (defScope sGo) .none kV6 dc6 pm6 an6 cd6 ct6), sl6⟩)
    (c6 : PySem.W.codeIn K cd6 "groups_of" = true)
    (k6 : PySem.W.keepIn K (.ref f6) = true)
    (a7 : PySem.W.nsIn K mainGlobals "check_names" = some (some (.ref f7)))
    (l7 : K.lookup f7 = some ⟨oc7, od7, .func (PySem.W.fnOf "check_names" "check_names" (defArgs sCn) (defBody sCn) (defScope sCn) .none kV7 dc7 pm7 an7 cd7 ct7), sl7⟩)
    (c7 : PySem.W.codeIn K cd7 "check_names" = true)
    (k7 : PySem.W.keepIn K (.ref f7) = true)
    (a8 : PySem.W.nsIn K mainGlobals "shares_fit" = some (some (.ref f8)))
    (l8 : K.lookup f8 = some ⟨oc8, od8, .func (PySem.W.fnOf "shares_fit" "shares_fit" (defArgs sFi) (defBody sFi) (defScope sFi) .none kV8 dc8 pm8 an8 cd8 ct8), sl8⟩)
    (c8 : PySem.W.codeIn K cd8 "shares_fit" = true)
    (k8 : PySem.W.keepIn K (.ref f8) = true)
    (a9 : PySem.W.nsIn K mainGlobals "numbers_fit" = some (some (.ref f9)))
    (l9 : K.lookup f9 = some ⟨oc9, od9, .func (PySem.W.fnOf "numbers_fit" "numbers_fit" (defArgs sNf) (defBody sNf) (defScope sNf) .none kV9 dc9 pm9 an9 cd9 ct9), sl9⟩)
    (c9 : PySem.W.codeIn K cd9 "numbers_fit" = true)
    (k9 : PySem.W.keepIn K (.ref f9) = true)
    (a10 : PySem.W.nsIn K mainGlobals "check_limit" = some (some (.ref f10)))
    (l10 : K.lookup f10 = some ⟨oc10, od10, .func (PySem.W.fnOf "check_limit" "check_limit" (defArgs sCl) (defBody sCl) (defScope sCl) .none kV10 dc10 pm10 an10 cd10 ct10), sl10⟩)
    (c10 : PySem.W.codeIn K cd10 "check_limit" = true)
    (k10 : PySem.W.keepIn K (.ref f10) = true)
    (a11 : PySem.W.nsIn K mainGlobals "format_limit" = some (some (.ref f11)))
    (l11 : K.lookup f11 = some ⟨oc11, od11, .func (PySem.W.fnOf "format_limit" "format_limit" (defArgs sFl) (defBody sFl) (defScope sFl) .none kV11 dc11 pm11 an11 cd11 ct11), sl11⟩)
    (c11 : PySem.W.codeIn K cd11 "format_limit" = true)
    (k11 : PySem.W.keepIn K (.ref f11) = true)
    (a12 : PySem.W.nsIn K mainGlobals "format_book" = some (some (.ref f12)))
    (l12 : K.lookup f12 = some ⟨oc12, od12, .func (PySem.W.fnOf "format_book" "format_book" (defArgs sFb) (defBody sFb) (defScope sFb) .none kV12 dc12 pm12 an12 cd12 ct12), sl12⟩)
    (c12 : PySem.W.codeIn K cd12 "format_book" = true)
    (k12 : PySem.W.keepIn K (.ref f12) = true)
    (a13 : PySem.W.nsIn K mainGlobals "parse_number" = some (some (.ref f13)))
    (l13 : K.lookup f13 = some ⟨oc13, od13, .func (PySem.W.fnOf "parse_number" "parse_number" (defArgs sNum) (defBody sNum) (defScope sNum) .none kV13 dc13 pm13 an13 cd13 ct13), sl13⟩)
    (c13 : PySem.W.codeIn K cd13 "parse_number" = true)
    (k13 : PySem.W.keepIn K (.ref f13) = true)
    (a14 : PySem.W.nsIn K mainGlobals "parse_share" = some (some (.ref f14)))
    (l14 : K.lookup f14 = some ⟨oc14, od14, .func (PySem.W.fnOf "parse_share" "parse_share" (defArgs sPs) (defBody sPs) (defScope sPs) .none kV14 dc14 pm14 an14 cd14 ct14), sl14⟩)
    (c14 : PySem.W.codeIn K cd14 "parse_share" = true)
    (k14 : PySem.W.keepIn K (.ref f14) = true)
    (a15 : PySem.W.nsIn K mainGlobals "parse_groups" = some (some (.ref f15)))
    (l15 : K.lookup f15 = some ⟨oc15, od15, .func (PySem.W.fnOf "parse_groups" "parse_groups" (defArgs sPg) (defBody sPg) (defScope sPg) .none kV15 dc15 pm15 an15 cd15 ct15), sl15⟩)
    (c15 : PySem.W.codeIn K cd15 "parse_groups" = true)
    (k15 : PySem.W.keepIn K (.ref f15) = true)
    (a16 : PySem.W.nsIn K mainGlobals "read_limit" = some (some (.ref f16)))
    (l16 : K.lookup f16 = some ⟨oc16, od16, .func (PySem.W.fnOf "read_limit" "read_limit" (defArgs sRl) (defBody sRl) (defScope sRl) .none kV16 dc16 pm16 an16 cd16 ct16), sl16⟩)
    (c16 : PySem.W.codeIn K cd16 "read_limit" = true)
    (k16 : PySem.W.keepIn K (.ref f16) = true)
    (a17 : PySem.W.nsIn K mainGlobals "parse_limit" = some (some (.ref f17)))
    (l17 : K.lookup f17 = some ⟨oc17, od17, .func (PySem.W.fnOf "parse_limit" "parse_limit" (defArgs sPl) (defBody sPl) (defScope sPl) .none kV17 dc17 pm17 an17 cd17 ct17), sl17⟩)
    (c17 : PySem.W.codeIn K cd17 "parse_limit" = true)
    (k17 : PySem.W.keepIn K (.ref f17) = true)
    (a18 : PySem.W.nsIn K mainGlobals "parse_book" = some (some (.ref f18)))
    (l18 : K.lookup f18 = some ⟨oc18, od18, .func (PySem.W.fnOf "parse_book" "parse_book" (defArgs sPb) (defBody sPb) (defScope sPb) .none kV18 dc18 pm18 an18 cd18 ct18), sl18⟩)
    (c18 : PySem.W.codeIn K cd18 "parse_book" = true)
    (k18 : PySem.W.keepIn K (.ref f18) = true)
    (a19 : PySem.W.nsIn K mainGlobals "_law_row" = some (some (.ref f19)))
    (l19 : K.lookup f19 = some ⟨oc19, od19, .func (PySem.W.fnOf "_law_row" "_law_row" (defArgs sRow) (defBody sRow) (defScope sRow) .none kV19 dc19 pm19 an19 cd19 ct19), sl19⟩)
    (c19 : PySem.W.codeIn K cd19 "_law_row" = true)
    (k19 : PySem.W.keepIn K (.ref f19) = true)
    (a20 : PySem.W.nsIn K mainGlobals "_law_numbers" = some (some (.ref f20)))
    (l20 : K.lookup f20 = some ⟨oc20, od20, .func (PySem.W.fnOf "_law_numbers" "_law_numbers" (defArgs sNumbers) (defBody sNumbers) (defScope sNumbers) .none kV20 dc20 pm20 an20 cd20 ct20), sl20⟩)
    (c20 : PySem.W.codeIn K cd20 "_law_numbers" = true)
    (k20 : PySem.W.keepIn K (.ref f20) = true)
    (a21 : PySem.W.nsIn K mainGlobals "_law_group" = some (some (.ref f21)))
    (l21 : K.lookup f21 = some ⟨oc21, od21, .func (PySem.W.fnOf "_law_group" "_law_group" (defArgs sGrp) (defBody sGrp) (defScope sGrp) .none kV21 dc21 pm21 an21 cd21 ct21), sl21⟩)
    (c21 : PySem.W.codeIn K cd21 "_law_group" = true)
    (k21 : PySem.W.keepIn K (.ref f21) = true)
    (a22 : PySem.W.nsIn K mainGlobals "_law_groups" = some (some (.ref f22)))
    (l22 : K.lookup f22 = some ⟨oc22, od22, .func (PySem.W.fnOf "_law_groups" "_law_groups" (defArgs sGrs) (defBody sGrs) (defScope sGrs) .none kV22 dc22 pm22 an22 cd22 ct22), sl22⟩)
    (c22 : PySem.W.codeIn K cd22 "_law_groups" = true)
    (k22 : PySem.W.keepIn K (.ref f22) = true)
    (a23 : PySem.W.nsIn K mainGlobals "_law_limit" = some (some (.ref f23)))
    (l23 : K.lookup f23 = some ⟨oc23, od23, .func (PySem.W.fnOf "_law_limit" "_law_limit" (defArgs sLi) (defBody sLi) (defScope sLi) .none kV23 dc23 pm23 an23 cd23 ct23), sl23⟩)
    (c23 : PySem.W.codeIn K cd23 "_law_limit" = true)
    (k23 : PySem.W.keepIn K (.ref f23) = true)
    (a24 : PySem.W.nsIn K mainGlobals "_law_limits" = some (some (.ref f24)))
    (l24 : K.lookup f24 = some ⟨oc24, od24, .func (PySem.W.fnOf "_law_limits" "_law_limits" (defArgs sLs) (defBody sLs) (defScope sLs) .none kV24 dc24 pm24 an24 cd24 ct24), sl24⟩)
    (c24 : PySem.W.codeIn K cd24 "_law_limits" = true)
    (k24 : PySem.W.keepIn K (.ref f24) = true)
    (a25 : PySem.W.nsIn K mainGlobals "_law_told" = some (some (.ref f25)))
    (l25 : K.lookup f25 = some ⟨oc25, od25, .func (PySem.W.fnOf "_law_told" "_law_told" (defArgs sTo) (defBody sTo) (defScope sTo) .none kV25 dc25 pm25 an25 cd25 ct25), sl25⟩)
    (c25 : PySem.W.codeIn K cd25 "_law_told" = true)
    (k25 : PySem.W.keepIn K (.ref f25) = true)
    (a26 : PySem.W.nsIn K mainGlobals "_law_spoilt" = some (some (.ref f26)))
    (l26 : K.lookup f26 = some ⟨oc26, od26, .func (PySem.W.fnOf "_law_spoilt" "_law_spoilt" (defArgs sSp) (defBody sSp) (defScope sSp) .none kV26 dc26 pm26 an26 cd26 ct26), sl26⟩)
    (c26 : PySem.W.codeIn K cd26 "_law_spoilt" = true)
    (k26 : PySem.W.keepIn K (.ref f26) = true)
    (a27 : PySem.W.nsIn K mainGlobals "law" = some (some (.ref f27)))
    (l27 : K.lookup f27 = some ⟨oc27, od27, .func (PySem.W.fnOf "law" "law" (defArgs sLaw) (defBody sLaw) (defScope sLaw) .none kV27 dc27 pm27 an27 cd27 ct27), sl27⟩)
    (c27 : PySem.W.codeIn K cd27 "law" = true)
    (k27 : PySem.W.keepIn K (.ref f27) = true)
    (z0 : PySem.W.nsIn K mainGlobals "len" = some none)
    (z1 : PySem.W.nsIn K mainGlobals "int" = some none)
    (z2 : PySem.W.nsIn K mainGlobals "abs" = some none)
    (z3 : PySem.W.nsIn K mainGlobals "range" = some none)
    (z4 : PySem.W.nsIn K mainGlobals "tuple" = some none)
    (z5 : PySem.W.nsIn K mainGlobals "list" = some none)
    (z6 : PySem.W.nsIn K mainGlobals "sorted" = some none)
    (z7 : PySem.W.nsIn K mainGlobals "set" = some none)
    (z8 : PySem.W.nsIn K mainGlobals "isinstance" = some none)
    (z9 : PySem.W.nsIn K mainGlobals "bool" = some none)
    (z10 : PySem.W.nsIn K mainGlobals "min" = some none)
    (z11 : PySem.W.nsIn K mainGlobals "max" = some none)
    (z12 : PySem.W.nsIn K mainGlobals "sum" = some none)
    (z13 : PySem.W.nsIn K mainGlobals "all" = some none)
    (z14 : PySem.W.nsIn K mainGlobals "any" = some none)
    (z15 : PySem.W.nsIn K mainGlobals "str" = some none)
    (z16 : PySem.W.nsIn K mainGlobals "zip" = some none)
    (z17 : PySem.W.nsIn K mainGlobals "enumerate" = some none)
    (zg0 : PySem.W.nsIn K mainGlobals "NAME_SIGNS" = some (some (.str "abcdefghijklmnopqrstuvwxyz0123456789" tg0)))
    (zg1 : PySem.W.nsIn K mainGlobals "GREATEST_NUMBER" = some (some (.int 1000000 tg1)))
    (zg2 : PySem.W.nsIn K mainGlobals "MOST_GROUPS" = some (some (.int 8 tg2)))
    (zg3 : PySem.W.nsIn K mainGlobals "MOST_SHARES" = some (some (.int 8 tg3)))
    (zg4 : PySem.W.nsIn K mainGlobals "MOST_LIMITS" = some (some (.int 8 tg4)))
    (zg5 : PySem.W.nsIn K mainGlobals "DIGITS" = some (some (.str "0123456789" tg5)))
    (zg6 : PySem.W.nsIn K mainGlobals "NUMBER_DIGITS" = some (some (.int 7 tg6)))
    (xz0 : PySem.W.nsIn K mainGlobals "InvalidName" = some (some (.ref X0)))
    (xsub0 : PySem.W.subIn K (.ref X0) (.type "BaseException") = some true)
    (xty0 : PySem.W.typeIn K (.ref X0) = some (.type "type"))
    (xkp0 : PySem.W.keepIn K (.ref X0) = true)
    (xei0 : PySem.W.excIn K X0 [.type "ValueError", .type "Exception", .type "BaseException", .type "object"] "ValueError.__new__" = true)
    (xz1 : PySem.W.nsIn K mainGlobals "InvalidLimit" = some (some (.ref X1)))
    (xsub1 : PySem.W.subIn K (.ref X1) (.type "BaseException") = some true)
    (xty1 : PySem.W.typeIn K (.ref X1) = some (.type "type"))
    (xkp1 : PySem.W.keepIn K (.ref X1) = true)
    (xei1 : PySem.W.excIn K X1 [.type "ValueError", .type "Exception", .type "BaseException", .type "object"] "ValueError.__new__" = true)
    (xz2 : PySem.W.nsIn K mainGlobals "InvalidNotation" = some (some (.ref X2)))
    (xsub2 : PySem.W.subIn K (.ref X2) (.type "BaseException") = some true)
    (xty2 : PySem.W.typeIn K (.ref X2) = some (.type "type"))
    (xkp2 : PySem.W.keepIn K (.ref X2) = true)
    (xo2 : K.lookup X2 = some (excClassObj xnm2 xq2 X2 xN2 xbs2 xbm2 true xsn2 xsu2 xab2 xcol2 xdd2 xk02 xk12 xk22 xk32 xk52 "ValueError.__new__"))
    (xr2 : PySem.HandSPX.refsVE xbm2 = true)
    (xsa2 : PySem.W.findIn K (.ref X2) "__setattr__" = some (some (.builtin "object.__setattr__")))
    (xin2 : PySem.W.findIn K (.ref X2) "__init__" = some (some (.ref xf2)))
    (xit2 : PySem.W.typeIn K (.ref xf2) = some (.type "function"))
    (xl2 : K.lookup xf2 = some ⟨xoc2, xod2, .func (PySem.W.fnX "__init__" "InvalidNotation.__init__" (defArgs sIniN) (defBody sIniN) (defScope sIniN) [("__class__", xcc2)] .none xkV2 xdc2 xpm2 xan2 (.ref xc2) xct2), xosl2⟩)
    (xcdi2 : PySem.W.codeIn K (.ref xc2) "InvalidNotation.__init__" = true)
    (xce2 : K.lookup xcc2 = some ⟨xcl2, xcld2, .cell (some (.ref X2)), xcsl2⟩)
    (xco2 : K.lookup xc2 = some ⟨xccl2, xcdd2, .fields xvs2, xccs2⟩)
    (xvf2 : xvs2[2]? = some (.str xfl2 xtf2))
    (xfile2 : ((l.prog.main.file : Str) == xfl2) = true)
    (xcls2 : PySem.W.clsIn K X2 = some xcd2)
    (xself2 : PySem.W.mroIn K X2 (.ref X2) = some true)
    (xini2 : PySem.W.ks_superIn K X2 X2 "__init__" = some (some (.builtin "ValueError.__init__")))
    (xve2 : PySem.W.subIn K (.ref X2) (.type "ValueError") = some true)
    (xno2 : PySem.W.findIn K (.ref X2) "line" = some none)
    (xga2 : PySem.W.findIn K (.ref X2) "__getattribute__" = some (some (.builtin "BaseException.__getattribute__")))
    (xgg2 : PySem.W.findIn K (.ref X2) "__getattr__" = some none)
    (xhd2 : PySem.W.hasDictIn K X2 = true)
    (xe0_0 : PySem.W.exmOne K (.ref X0) (.ref X0) = some true)
    (xe0_1 : PySem.W.exmOne K (.ref X0) (.ref X1) = some false)
    (xe1_0 : PySem.W.exmOne K (.ref X1) (.ref X0) = some false)
    (xe1_1 : PySem.W.exmOne K (.ref X1) (.ref X1) = some true)
    (xe2_2 : PySem.W.exmOne K (.ref X2) (.ref X2) = some true)
    (xsup : PySem.W.nsIn K mainGlobals "super" = some none)
    (xopq : PySem.W.nsIn K cStatics "thirdparty.any" = some none)
    (xtop : (l.prog.main.scope.names.lookup ("super" : Str)).isSome = false)
    (wt0 : PySem.W.nsIn K mainGlobals "LEAST_NUMBERS" = some (some (.ref td)))
    (wt1 : K.lookup td = some ⟨.type "dict", none, .dict tes tc, #[]⟩)
    (wt2 : PySem.W.KeysLit w.params tes.toList)
    (wt3 : (td == sysModules) = false)
    (wa0 : PySem.W.nsIn K td "window" = some (some (.ref ta0)))
    (wb0 : K.lookup ta0 = some ⟨.type "tuple", te0, .seq #[.int 0 tb0, .int 1 tc0] tm0, tl0⟩)
    (wa1 : PySem.W.nsIn K td "span" = some (some (.ref ta1)))
    (wb1 : K.lookup ta1 = some ⟨.type "tuple", te1, .seq #[.int 0 tb1, .int 1 tc1] tm1, tl1⟩)
    (wa2 : PySem.W.nsIn K td "bucket" = some (some (.ref ta2)))
    (wb2 : K.lookup ta2 = some ⟨.type "tuple", te2, .seq #[.int 0 tb2, .int 1 tc2] tm2, tl2⟩)
    (wa3 : PySem.W.nsIn K td "gap" = some (some (.ref ta3)))
    (wb3 : K.lookup ta3 = some ⟨.type "tuple", te3, .seq #[.int 1 tb3] tm3, tl3⟩)
    (wa4 : PySem.W.nsIn K td "held" = some (some (.ref ta4)))
    (wb4 : K.lookup ta4 = some ⟨.type "tuple", te4, .seq #[.int 0 tb4] tm4, tl4⟩)
    (wn0 : PySem.W.nsIn K td "heap" = some none)
    (wn1 : PySem.W.nsIn K td "windows" = some none)
    (wn2 : PySem.W.nsIn K td "spans" = some none)
    (wn3 : PySem.W.nsIn K td "buckets" = some none)
    (wn4 : PySem.W.nsIn K td "gaps" = some none)
    (wn5 : PySem.W.nsIn K td "helds" = some none)
    (wn6 : PySem.W.nsIn K td "pools" = some none)
    (wn7 : PySem.W.nsIn K td "" = some none)
    (wm1 : tes.toList.all (fun e => fiveW.any fun z => e.key.isStr z) = true)
    (pa0 : PySem.W.findIn K (.ref C0) "limits" = some (some (.ref pp0)))
    (pb0 : PySem.W.specialIn K (.ref pp0) "__get__" = some (some (.builtin "property.__get__")))
    (pc0 : PySem.W.takesIn K (.ref pp0) = some true)
    (pd0 : PySem.W.recIn K pp0 "property" = some (.ref pf0 :: prs0))
    (pl0 : K.lookup pf0 = some ⟨poc0, pod0, .func (PySem.W.fnOf "limits" "Book.limits" (defArgs sLims) (defBody sLims) (defScope sLims) .none pkV0 pdc0 ppm0 pan0 pcd0 pct0), psl0⟩)
    (pe0 : PySem.W.codeIn K pcd0 "Book.limits" = true)
    (pk0 : PySem.W.keepIn K (.ref pf0) = true)
    (yz : PySem.W.nsIn K mainGlobals "LimitError" = some (some (.ref XE)))
    (ya2 : PySem.W.findIn K (.ref X2) "__class__" = some (some (.builtin "object.__class__")))
    (ym2 : PySem.W.mroIn K X2 (.type "object") = some true)
    (yn : PySem.W.specialIn K (.builtin "object.__class__") "__get__" = some (some (.builtin "getset_descriptor.__get__")))
    (yt : PySem.W.takesIn K (.builtin "object.__class__") = some true)
    (yx0 : PySem.W.kitOne K (.ref X2) (.ref X0) = some false)
    (yx1 : PySem.W.kitOne K (.ref X2) (.ref X1) = some false)
    (yx2 : PySem.W.kitOne K (.ref X2) (.ref XE) = some true) :
    ∃ fn : FuncData, (∀ (s : Shared) (v : Value), BindsTo s fn ⟨[v], []⟩ [("script", v)]) ∧ ∀ base : Heap, K.In base → base.Ns mainGlobals mg → FnOk l.prog w K mg base CX0 8 fa fn ["script"] (spLaw K) := by
  have e := hfa.symm.trans (PySem.W.mg_of X G a27)
  cases e
  have T : Bt mg := ⟨PySem.W.mg_none_of X G z0, PySem.W.mg_none_of X G z1, PySem.W.mg_none_of X G z2, PySem.W.mg_none_of X G z3, PySem.W.mg_none_of X G z4, PySem.W.mg_none_of X G z5, PySem.W.mg_none_of X G z6, PySem.W.mg_none_of X G z7, PySem.W.mg_none_of X G z8, PySem.W.mg_none_of X G z9, PySem.W.mg_none_of X G z10, PySem.W.mg_none_of X G z11, PySem.W.mg_none_of X G z12, PySem.W.mg_none_of X G z13, PySem.W.mg_none_of X G z14, PySem.W.mg_none_of X G z15, PySem.W.mg_none_of X G z16, PySem.W.mg_none_of X G z17⟩
  have F0 := fun_mk (st := sInit) l0 c0 k0
  have b0 := F0.binds (ps := ["self", "limits"]) fun _ _ _ _ _ _ us hl => match us, hl with | [_, _], _ => rfl
  have F1 := fun_mk (st := sName) l1 c1 k1
  have b1 := F1.binds (ps := ["text"]) fun _ _ _ _ _ _ us hl => match us, hl with | [_], _ => rfl
  have F2 := fun_mk (st := sIn) l2 c2 k2
  have b2 := F2.binds (ps := ["number", "least", "greatest"]) fun _ _ _ _ _ _ us hl => match us, hl with | [_, _, _], _ => rfl
  have F3 := fun_mk (st := sAs) l3 c3 k3
  have b3 := F3.binds (ps := ["names"]) fun _ _ _ _ _ _ us hl => match us, hl with | [_], _ => rfl
  have F4 := fun_mk (st := sSf) l4 c4 k4
  have b4 := F4.binds (ps := ["share"]) fun _ _ _ _ _ _ us hl => match us, hl with | [_], _ => rfl
  have F5 := fun_mk (st := sFo) l5 c5 k5
  have b5 := F5.binds (ps := ["word", "numbers"]) fun _ _ _ _ _ _ us hl => match us, hl with | [_, _], _ => rfl
  have F6 := fun_mk (st := sGo) l6 c6 k6
  have b6 := F6.binds (ps := ["limit"]) fun _ _ _ _ _ _ us hl => match us, hl with | [_], _ => rfl
  have F7 := fun_mk (st := sCn) l7 c7 k7
  have b7 := F7.binds (ps := ["names"]) fun _ _ _ _ _ _ us hl => match us, hl with | [_], _ => rfl
  have F8 := fun_mk (st := sFi) l8 c8 k8
  have b8 := F8.binds (ps := ["most", "shares"]) fun _ _ _ _ _ _ us hl => match us, hl with | [_, _], _ => rfl
  have F9 := fun_mk (st := sNf) l9 c9 k9
  have b9 := F9.binds (ps := ["word", "numbers"]) fun _ _ _ _ _ _ us hl => match us, hl with | [_, _], _ => rfl
  have F10 := fun_mk (st := sCl) l10 c10 k10
  have b10 := F10.binds (ps := ["limit"]) fun _ _ _ _ _ _ us hl => match us, hl with | [_], _ => rfl
  have F11 := fun_mk (st := sFl) l11 c11 k11
  have b11 := F11.binds (ps := ["limit"]) fun _ _ _ _ _ _ us hl => match us, hl with | [_], _ => rfl
  have F12 := fun_mk (st := sFb) l12 c12 k12
  have b12 := F12.binds (ps := ["book"]) fun _ _ _ _ _ _ us hl => match us, hl with | [_], _ => rfl
  have F13 := fun_mk (st := sNum) l13 c13 k13
  have b13 := F13.binds (ps := ["word", "digits"]) fun _ _ _ _ _ _ us hl => match us, hl with | [_, _], _ => rfl
  have F14 := fun_mk (st := sPs) l14 c14 k14
  have b14 := F14.binds (ps := ["word"]) fun _ _ _ _ _ _ us hl => match us, hl with | [_], _ => rfl
  have F15 := fun_mk (st := sPg) l15 c15 k15
  have b15 := F15.binds (ps := ["words"]) fun _ _ _ _ _ _ us hl => match us, hl with | [_], _ => rfl
  have F16 := fun_mk (st := sRl) l16 c16 k16
  have b16 := F16.binds (ps := ["words"]) fun _ _ _ _ _ _ us hl => match us, hl with | [_], _ => rfl
  have F17 := fun_mk (st := sPl) l17 c17 k17
  have b17 := F17.binds (ps := ["line"]) fun _ _ _ _ _ _ us hl => match us, hl with | [_], _ => rfl
  have F18 := fun_mk (st := sPb) l18 c18 k18
  have b18 := F18.binds (ps := ["text"]) fun _ _ _ _ _ _ us hl => match us, hl with | [_], _ => rfl
  have F19 := fun_mk (st := sRow) l19 c19 k19
  have b19 := F19.binds (ps := ["cell", "many"]) fun _ _ _ _ _ _ us hl => match us, hl with | [_, _], _ => rfl
  have F20 := fun_mk (st := sNumbers) l20 c20 k20
  have b20 := F20.binds (ps := ["script", "many"]) fun _ _ _ _ _ _ us hl => match us, hl with | [_, _], _ => rfl
  have F21 := fun_mk (st := sGrp) l21 c21 k21
  have b21 := F21.binds (ps := ["number"]) fun _ _ _ _ _ _ us hl => match us, hl with | [_], _ => rfl
  have F22 := fun_mk (st := sGrs) l22 c22 k22
  have b22 := F22.binds (ps := ["numbers", "at"]) fun _ _ _ _ _ _ us hl => match us, hl with | [_, _], _ => rfl
  have F23 := fun_mk (st := sLi) l23 c23 k23
  have b23 := F23.binds (ps := ["numbers", "at", "name"]) fun _ _ _ _ _ _ us hl => match us, hl with | [_, _, _], _ => rfl
  have F24 := fun_mk (st := sLs) l24 c24 k24
  have b24 := F24.binds (ps := ["numbers", "at"]) fun _ _ _ _ _ _ us hl => match us, hl with | [_, _], _ => rfl
  have F25 := fun_mk (st := sTo) l25 c25 k25
  have b25 := F25.binds (ps := ["text"]) fun _ _ _ _ _ _ us hl => match us, hl with | [_], _ => rfl
  have F26 := fun_mk (st := sSp) l26 c26 k26
  have b26 := F26.binds (ps := ["line", "kind", "number"]) fun _ _ _ _ _ _ us hl => match us, hl with | [_, _, _], _ => rfl
  have F27 := fun_mk (st := sLaw) l27 c27 k27
  have m1 := PySem.W.mg_of X G a1
  have m2 := PySem.W.mg_of X G a2
  have m3 := PySem.W.mg_of X G a3
  have m4 := PySem.W.mg_of X G a4
  have m5 := PySem.W.mg_of X G a5
  have m6 := PySem.W.mg_of X G a6
  have m7 := PySem.W.mg_of X G a7
  have m8 := PySem.W.mg_of X G a8
  have m9 := PySem.W.mg_of X G a9
  have m10 := PySem.W.mg_of X G a10
  have m11 := PySem.W.mg_of X G a11
  have m12 := PySem.W.mg_of X G a12
  have m13 := PySem.W.mg_of X G a13
  have m14 := PySem.W.mg_of X G a14
  have m15 := PySem.W.mg_of X G a15
  have m16 := PySem.W.mg_of X G a16
  have m17 := PySem.W.mg_of X G a17
  have m18 := PySem.W.mg_of X G a18
  have m19 := PySem.W.mg_of X G a19
  have m20 := PySem.W.mg_of X G a20
  have m21 := PySem.W.mg_of X G a21
  have m22 := PySem.W.mg_of X G a22
  have m23 := PySem.W.mg_of X G a23
  have m24 := PySem.W.mg_of X G a24
  have m25 := PySem.W.mg_of X G a25
  have m26 := PySem.W.mg_of X G a26
  have TB : Tab K w mg "LEAST_NUMBERS" leastT := tab_of (PySem.W.mg_of X G wt0) ⟨wt1, wt2, wt3⟩ (row2 wa0 wb0) (row2 wa1 wb1) (row2 wa2 wb2) (row1 wa3 wb3) (row1 wa4 wb4) wn0 wn1 wn2 wn3 wn4 wn5 wn6 wn7
  have GG : Gb K w mg := ⟨⟨_, PySem.W.mg_of X G zg0⟩, ⟨_, PySem.W.mg_of X G zg1⟩, ⟨_, PySem.W.mg_of X G zg2⟩, ⟨_, PySem.W.mg_of X G zg3⟩, TB, miss_of (PySem.W.mg_of X G wt0) ⟨wt1, wt2, wt3⟩ wn7 wm1⟩
  have GD : Gd mg := ⟨⟨_, PySem.W.mg_of X G zg5⟩, ⟨_, PySem.W.mg_of X G zg6⟩⟩
  have XX : Bk K mg C0 := ⟨⟨pg0, hd0, po0, sa0⟩, n0x0, PySem.W.mg_of X G zC0, ⟨_, PySem.W.mg_of X G zg4⟩⟩
  have M0 : Mk K C0 f0 := ⟨mk0, a0, i0, kc0⟩
  have PF0 := fun_mk (st := sLims) pl0 pe0 pk0
  have PB0 := PF0.binds (ps := ["self"]) fun _ _ _ _ _ _ us hl => match us, hl with | [_], _ => rfl
  have PP0 : PropOf K C0 "limits" pp0 pf0 := ⟨pa0, pb0, pc0, _, pd0⟩
  have CC : Cc K mg X0 X1 := ⟨PySem.W.mg_of X G xz0, PySem.W.mg_of X G xz1, xe0_0, xe0_1, xe1_0, xe1_1⟩
  have CN : Cn K mg X2 X0 X1 XE := ⟨PySem.W.mg_of X G xz2, xe2_2, ⟨xga2, xgg2, xsub2, xhd2⟩, xno2, ⟨xga2, xgg2, xsub2, xhd2, ya2, yn, yt, ym2⟩, PySem.W.mg_of X G xz0, PySem.W.mg_of X G xz1, PySem.W.mg_of X G yz, yx0, yx1, yx2⟩
  refine ⟨PySem.W.fnOf "law" "law" (defArgs sLaw) (defBody sLaw) (defScope sLaw) .none kV27 dc27 pm27 an27 cd27 ct27, fun s v => .of_eq rfl, fun base _ _ => ?_⟩
  have OE0 : OwnErr K mg "InvalidName" X0 := own_e (h := h) (PySem.W.mg_of X G xz0) xei0 xkp0 xsub0 xty0
  have OE1 : OwnErr K mg "InvalidLimit" X1 := own_e (h := h) (PySem.W.mg_of X G xz1) xei1 xkp1 xsub1 xty1
  have SK2 : SupK l.prog K mg X2 xcc2 xc2 := sup_k X G xo2 xr2 xsa2 xsub2 xty2 xkp2 xsup xce2 xco2 xvf2 xfile2 xtop xcls2 xopq xself2 xini2 xve2
  have SE2 : SupErr l.prog w K mg base 1 "InvalidNotation" X2 "line" GNum := sup_e SK2 (PySem.W.mg_of X G xz2) xin2 xit2 (ok_iniN SK2 xl2 xcdi2 xno2) (.all fun us hl => match us, hl with | [_, _], _ => rfl)
  have cN : PFn l.prog w K mg base 1 "is_name" 1 gName := ⟨_, _, _, ok_name F1 T GG, m1, k1, b1⟩
  have cI : PFn l.prog w K mg base 1 "is_within" 3 gIn := ⟨_, _, _, ok_in F2 T, m2, k2, b2⟩
  have cAs : PFn l.prog w K mg base 1 "is_ascending" 1 gAs := ⟨_, _, _, ok_as F3 T, m3, k3, b3⟩
  have cSf : PFn l.prog w K mg base 1 "has_share_form" 1 gSf := ⟨_, _, _, ok_sf F4 T, m4, k4, b4⟩
  have cFo : PFn l.prog w K mg base 2 "has_form" 2 gFo := ⟨_, _, _, ok_fo F5 T GG cSf, m5, k5, b5⟩
  have cGo : PFn l.prog w K mg base 1 "groups_of" 1 gGo := ⟨_, _, _, ok_go F6 T, m6, k6, b6⟩
  have cCn : EFn l.prog w K mg base 2 "check_names" 1 (gCn X0) := ⟨_, _, _, ok_cn F7 cN OE0, m7, k7, b7⟩
  have cFi : PFn l.prog w K mg base 1 "shares_fit" 2 gFi := ⟨_, _, _, ok_fi F8 T GG, m8, k8, b8⟩
  have cNf : PFn l.prog w K mg base 2 "numbers_fit" 2 gNf := ⟨_, _, _, ok_nf F9 T GG cI cFi, m9, k9, b9⟩
  have cCl : EFn l.prog w K mg base 3 "check_limit" 1 (gCl X0 X1) := ⟨_, _, _, ok_cl F10 T GG OE1 cCn cFo cGo cAs cNf, m10, k10, b10⟩
  have cRow : PFn l.prog w K mg base 1 "_law_row" 2 gRow := ⟨_, _, _, ok_row F19 T, m19, k19, b19⟩
  have cNum : PFn l.prog w K mg base 2 "_law_numbers" 2 gNumbers := ⟨_, _, _, ok_numbers F20 T cRow, m20, k20, b20⟩
  have cGr : PFn l.prog w K mg base 1 "_law_group" 1 gGrp := ⟨_, _, _, ok_grp F21 T, m21, k21, b21⟩
  have cGs : PFn l.prog w K mg base 2 "_law_groups" 2 gGrs := ⟨_, _, _, ok_grs F22 T cGr, m22, k22, b22⟩
  have cLi : PFn l.prog w K mg base 3 "_law_limit" 3 gLi := ⟨_, _, _, ok_li F23 T cGr cGs, m23, k23, b23⟩
  have cLs : PFn l.prog w K mg base 4 "_law_limits" 2 gLs := ⟨_, _, _, ok_ls F24 T cLi, m24, k24, b24⟩
  have mI : MMake l.prog w K mg base 4 "Book" C0 2 (gInit C0) := ⟨_, _, _, ok_init F0 T XX cCl, M0, XX.mgC, b0⟩
  have cL : NProp l.prog w K mg base 1 C0 "limits" (gLims C0) := ⟨_, _, _, ok_lims PF0 T XX, PP0, PB0⟩
  have cFl : PFn l.prog w K mg base 1 "format_limit" 1 gFl := ⟨_, _, _, ok_fl F11 T, m11, k11, b11⟩
  have cFb : PFn l.prog w K mg base 3 "format_book" 1 (gFb C0) := ⟨_, _, _, ok_fb F12 XX cL cFl, m12, k12, b12⟩
  have cPn : PFn l.prog w K mg base 1 "parse_number" 2 gNum := ⟨_, _, _, ok_num F13 T GD, m13, k13, b13⟩
  have cPs : PFn l.prog w K mg base 2 "parse_share" 1 gPs := ⟨_, _, _, ok_ps F14 T GD cPn, m14, k14, b14⟩
  have cPg : PFn l.prog w K mg base 1 "parse_groups" 1 gPg := ⟨_, _, _, ok_pg F15 T, m15, k15, b15⟩
  have cRl : PFn l.prog w K mg base 3 "read_limit" 1 gRl := ⟨_, _, _, ok_rl F16 T GG GD cPn cPs cPg, m16, k16, b16⟩
  have cPl : PFn l.prog w K mg base 4 "parse_limit" 1 gPl := ⟨_, _, _, ok_pl F17 T CC cRl cCl, m17, k17, b17⟩
  have cPb : EFn l.prog w K mg base 6 "parse_book" 1 (gPb C0 X2) := ⟨_, _, _, ok_pb F18 T XX cPl mI SE2, m18, k18, b18⟩
  have cTo : PFn l.prog w K mg base 7 "_law_told" 1 gTo := ⟨_, _, _, ok_to F25 T cPb CN, m25, k25, b25⟩
  have cSp : PFn l.prog w K mg base 1 "_law_spoilt" 3 gSp := ⟨_, _, _, ok_sp F26 T, m26, k26, b26⟩
  exact (ok_law F27 T XX cNum cLs cFl cFb cPb mI cSp cTo).imp (law_of (K := K))
theorem walk {row : PySem.W.OpenLaw} {pr : Program} {ls : List Str} {A1 : (Str → Option Value) → Heap → Prop} {A2 : World → Heap → Prop} {r : DefRec} {KK : Params → PySem.W.Frag} (h63 : row.most = some 63) (hd0 : r.params.defaults = [])
    (hA : ∀ (w : World) (hp : Heap), A2 w hp → (KK w.params).In hp)
    (hF : ∀ (w : World) (names : Str → Option Value) (at' : Addr) (hp : Heap), (KK w.params).In hp → hp.Ns mainGlobals names → names r.name = some (.ref at') →
      ∃ fn : FuncData, (∀ (s : Shared) (v : Value), BindsTo s fn ⟨[v], []⟩ [("script", v)]) ∧ ∀ b0 : Heap, (KK w.params).In b0 → b0.Ns mainGlobals names → FnOk row.prog w (KK w.params) names b0 CX0 8 at' fn ["script"] (spLaw (KK w.params))) :
    PySem.W.WalkO pr ls A1 A2 row.row.toRowW r [] (fun f args => PySem.call f args) :=
  L2.walk_of (k := 8) (n := 63) (CX := fun _ => CX0) (x := "script") (sp := fun w => spLaw (KK w.params)) h63 (by decide) hd0 ⟨rfl, by decide, by decide⟩ hA hF (fun _ _ a xs len _ at' => ⟨xs, a, rfl, len, at', fun _ => rfl⟩) fun _ _ _ _ _ q => q
end Toy

open PySem.W PyProof.Rows PySem
set_option maxRecDepth 90000 in
set_option maxHeartbeats 0 in
theorem PySem.Challenge.cw_limitweave_k06_book_texts_refused_holds : PySem.Challenge.rw_limitweave_k06_book_texts_refused.Holds := by
  w_on
  o_law
  k_head
  (case hw => w_witness2)
  k_fill
  refine Toy.walk (row := PySem.Challenge.rw_limitweave_k06_book_texts_refused) rfl rfl (fun w h Y => PySem.W.kIn_of Y) ?F
  case F =>
    intro w mg fa h KX G hmg
    refine' Toy.all_mk KX G hmg ?zC0 ?pg0 ?hd0 ?po0 ?sa0 ?mk0 ?kc0 ?n0x0 ?a0 ?i0 ?l0 ?c0 ?k0 ?a1 ?l1 ?c1 ?k1 ?a2 ?l2 ?c2 ?k2 ?a3 ?l3 ?c3 ?k3 ?a4 ?l4 ?c4 ?k4 ?a5 ?l5 ?c5 ?k5 ?a6 ?l6 ?c6 ?k6 ?a7 ?l7 ?c7 ?k7 ?a8 ?l8 ?c8 ?k8 ?a9 ?l9 ?c9 ?k9 ?a10 ?l10 ?c10 ?k10 ?a11 ?l11 ?c11 ?k11 ?a12 ?l12 ?c12 ?k12 ?a13 ?l13 ?c13 ?k13 ?a14 ?l14 ?c14 ?k14 ?a15 ?l15 ?c15 ?k15 ?a16 ?l16 ?c16 ?k16 ?a17 ?l17 ?c17 ?k17 ?a18 ?l18 ?c18 ?k18 ?a19 ?l19 ?c19 ?k19 ?a20 ?l20 ?c20 ?k20 ?a21 ?l21 ?c21 ?k21 ?a22 ?l22 ?c22 ?k22 ?a23 ?l23 ?c23 ?k23 ?a24 ?l24 ?c24 ?k24 ?a25 ?l25 ?c25 ?k25 ?a26 ?l26 ?c26 ?k26 ?a27 ?l27 ?c27 ?k27 ?z0 ?z1 ?z2 ?z3 ?z4 ?z5 ?z6 ?z7 ?z8 ?z9 ?z10 ?z11 ?z12 ?z13 ?z14 ?z15 ?z16 ?z17 ?zg0 ?zg1 ?zg2 ?zg3 ?zg4 ?zg5 ?zg6 ?xz0 ?xsub0 ?xty0 ?xkp0 ?xei0 ?xz1 ?xsub1 ?xty1 ?xkp1 ?xei1 ?xz2 ?xsub2 ?xty2 ?xkp2 ?xo2 ?xr2 ?xsa2 ?xin2 ?xit2 ?xl2 ?xcdi2 ?xce2 ?xco2 ?xvf2 ?xfile2 ?xcls2 ?xself2 ?xini2 ?xve2 ?xno2 ?xga2 ?xgg2 ?xhd2 ?xe0_0 ?xe0_1 ?xe1_0 ?xe1_1 ?xe2_2 ?xsup ?xopq ?xtop ?wt0 ?wt1 ?wt2 ?wt3 ?wa0 ?wb0 ?wa1 ?wb1 ?wa2 ?wb2 ?wa3 ?wb3 ?wa4 ?wb4 ?wn0 ?wn1 ?wn2 ?wn3 ?wn4 ?wn5 ?wn6 ?wn7 ?wm1 ?pa0 ?pb0 ?pc0 ?pd0 ?pl0 ?pe0 ?pk0 ?yz ?ya2 ?ym2 ?yn ?yt ?yx0 ?yx1 ?yx2
    (case zC0 => k_is); (case pg0 => k_is); (case hd0 => k_is); (case po0 => k_is); (case sa0 => k_is); (case mk0 => k_is)
    (case kc0 => k_is); (case n0x0 => k_is); (case a0 => k_is); (case i0 => k_is); (case l0 => k_is); (case c0 => k_is)
    (case k0 => k_is); (case a1 => k_is); (case l1 => k_is); (case c1 => k_is); (case k1 => k_is); (case a2 => k_is)
    (case l2 => k_is); (case c2 => k_is); (case k2 => k_is); (case a3 => k_is); (case l3 => k_is); (case c3 => k_is)
    (case k3 => k_is); (case a4 => k_is); (case l4 => k_is); (case c4 => k_is); (case k4 => k_is); (case a5 => k_is)
    (case l5 => k_is); (case c5 => k_is); (case k5 => k_is); (case a6 => k_is); (case l6 => k_is); (case c6 => k_is)
    (case k6 => k_is); (case a7 => k_is); (case l7 => k_is); (case c7 => k_is); (case k7 => k_is); (case a8 => k_is)
    (case l8 => k_is); (case c8 => k_is); (case k8 => k_is); (case a9 => k_is); (case l9 => k_is); (case c9 => k_is)
    (case k9 => k_is); (case a10 => k_is); (case l10 => k_is); (case c10 => k_is); (case k10 => k_is); (case a11 => k_is)
    (case l11 => k_is); (case c11 => k_is); (case k11 => k_is); (case a12 => k_is); (case l12 => k_is); (case c12 => k_is)
    (case k12 => k_is); (case a13 => k_is); (case l13 => k_is); (case c13 => k_is); (case k13 => k_is); (case a14 => k_is)
    (case l14 => k_is); (case c14 => k_is); (case k14 => k_is); (case a15 => k_is); (case l15 => k_is); (case c15 => k_is)
    (case k15 => k_is); (case a16 => k_is); (case l16 => k_is); (case c16 => k_is); (case k16 => k_is); (case a17 => k_is)
    (case l17 => k_is); (case c17 => k_is); (case k17 => k_is); (case a18 => k_is); (case l18 => k_is); (case c18 => k_is)
    (case k18 => k_is); (case a19 => k_is); (case l19 => k_is); (case c19 => k_is); (case k19 => k_is); (case a20 => k_is)
    (case l20 => k_is); (case c20 => k_is); (case k20 => k_is); (case a21 => k_is); (case l21 => k_is); (case c21 => k_is)
    (case k21 => k_is); (case a22 => k_is); (case l22 => k_is); (case c22 => k_is); (case k22 => k_is); (case a23 => k_is)
    (case l23 => k_is); (case c23 => k_is); (case k23 => k_is); (case a24 => k_is); (case l24 => k_is); (case c24 => k_is)
    (case k24 => k_is); (case a25 => k_is); (case l25 => k_is); (case c25 => k_is); (case k25 => k_is); (case a26 => k_is)
    (case l26 => k_is); (case c26 => k_is); (case k26 => k_is); (case a27 => k_is); (case l27 => k_is); (case c27 => k_is)
    (case k27 => k_is); (case z0 => k_is); (case z1 => k_is); (case z2 => k_is); (case z3 => k_is); (case z4 => k_is)
    (case z5 => k_is); (case z6 => k_is); (case z7 => k_is); (case z8 => k_is); (case z9 => k_is); (case z10 => k_is)
    (case z11 => k_is); (case z12 => k_is); (case z13 => k_is); (case z14 => k_is); (case z15 => k_is); (case z16 => k_is)
    (case z17 => k_is); (case zg0 => k_is); (case zg1 => k_is); (case zg2 => k_is); (case zg3 => k_is); (case zg4 => k_is)
    (case zg5 => k_is); (case zg6 => k_is); (case xz0 => k_is); (case xsub0 => k_is); (case xty0 => k_is); (case xkp0 => k_is)
    (case xei0 => kernel_rfl); (case xz1 => k_is); (case xsub1 => k_is); (case xty1 => k_is); (case xkp1 => k_is); (case xei1 => kernel_rfl)
    (case xz2 => k_is); (case xsub2 => k_is); (case xty2 => k_is); (case xkp2 => k_is); (case xo2 => k_is); (case xr2 => kernel_rfl)
    (case xsa2 => k_is); (case xin2 => k_is); (case xit2 => k_is); (case xl2 => k_is); (case xcdi2 => k_is); (case xce2 => k_is)
    (case xco2 => k_is); (case xvf2 => rfl); (case xfile2 => kernel_rfl); (case xcls2 => k_is); (case xself2 => k_is); (case xini2 => ks_is)
    (case xve2 => k_is); (case xno2 => k_is); (case xga2 => k_is); (case xgg2 => k_is); (case xhd2 => k_is); (case xe0_0 => kernel_rfl)
    (case xe0_1 => kernel_rfl); (case xe1_0 => kernel_rfl); (case xe1_1 => kernel_rfl); (case xe2_2 => kernel_rfl); (case xsup => k_is); (case xopq => k_is)
    (case xtop => kernel_rfl); (case wt0 => k_is); (case wt1 => k_is); (case wt2 => k_keys); (case wt3 => kernel_rfl); (case wa0 => k_is)
    (case wb0 => k_is); (case wa1 => k_is); (case wb1 => k_is); (case wa2 => k_is); (case wb2 => k_is); (case wa3 => k_is)
    (case wb3 => k_is); (case wa4 => k_is); (case wb4 => k_is); (case wn0 => k_is); (case wn1 => k_is); (case wn2 => k_is)
    (case wn3 => k_is); (case wn4 => k_is); (case wn5 => k_is); (case wn6 => k_is); (case wn7 => k_is); (case wm1 => kernel_rfl)
    (case pa0 => k_is); (case pb0 => k_is); (case pc0 => k_is); (case pd0 => k_is); (case pl0 => k_is); (case pe0 => k_is)
    (case pk0 => k_is); (case yz => k_is); (case ya2 => k_is); (case ym2 => k_is); (case yn => k_is); (case yt => k_is)
    (case yx0 => kernel_rfl); (case yx1 => kernel_rfl); (case yx2 => kernel_rfl)
