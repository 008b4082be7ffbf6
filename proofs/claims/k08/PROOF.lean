import PyProof.Rows.All
import Wide.All
import OpenK.AllK
import Wide.FinOn
import KE.KExcSuper
import HandS.Base
import HandS.Call
import HandS.List
import HandS.Ends
import HandS.Exc
import HandS.ForMost
import HandS.ExcField
import HandS.ExcIs
import HandS.IsInst
import HandS.Wide
import KE.KExcIs
import HandS.TupMul
import PySem.Challenge.RW_withinall_k08_refusals_made
set_option Elab.async false
set_option linter.all false
set_option maxRecDepth 100000
set_option maxHeartbeats 3900000
/-! Own exceptions over ValueError, made by place or by name: the class is called, keywords and all, then its own __init__. -/
namespace PySem
namespace Own
open HandSPX

/-- what the heap keeps of such a class, in one bundle -/
structure Kl where
  (nm qn : Str) (ns : Addr) (bs bm : List Value) (hd : Bool) (sn : List Str) (sb : List Value)
  (ab : Bool) (co : Option Bool) (dd : Option Addr) (s0 s1 s2 s3 s5 : Option Value)
def Kl.obj (c : Kl) (C : Addr) : Obj :=
  excClassObj c.nm c.qn C c.ns c.bs c.bm c.hd c.sn c.sb c.ab c.co c.dd c.s0 c.s1 c.s2 c.s3 c.s5 "ValueError.__new__"
/-- at C in h stands such a class, its chain ends as ValueError's does -/
def KlAt (h : Heap) (C : Addr) : Prop :=
  ∃ c : Kl, h.get? C = some (c.obj C) ∧ ∀ X : String, c.bm.contains (.type X) = veTail.contains (.type X)
theorem klAt_of {K : W.Frag} {h : Heap} {C : Addr} (X : K.In h)
    (q : W.excInitIn K C veTail "ValueError.__new__" = true) : KlAt h C := by
  obtain ⟨nm, ns, qn, bs, bm, hd, sn, sb, ab, co, dd, s0, s1, s2, s3, s5, e, t⟩ := W.excInit_of X q
  exact ⟨⟨nm, qn, ns, bs, bm, hd, sn, sb, ab, co, dd, s0, s1, s2, s3, s5⟩, e, t⟩
theorem KlAt.keep {h h' : Heap} {C : Addr} (x : KlAt h C)
    (k : ∀ b o, h.get? b = some o → h'.get? b = some o) : KlAt h' C :=
  let ⟨c, e, t⟩ := x; ⟨c, k _ _ e, t⟩

abbrev VE := F.excBase_ValueError
/-- the freshly made object, its args laid ahead of it -/
abbrev fresh (h : Heap) (C : Addr) (xs : List Value) : Heap := (h.push (W.kdv_tup xs)).push (excO C h.objs.size)

section
variable {M : Model} {A : Around} {X : Value → Shared → Prop} {h : Heap} {C : Addr}
  {gs : Array GenState} {dr : Drawn} {tk : Nat} {os : OsState} {xs : List Value} {kw : List (Str × Value)}

theorem new_checked {Q : Unit → Shared → Prop} (k : KlAt h C) (hq : Q () ⟨h, gs, dr, tk, os⟩) :
    wpAny M A (checkBuiltinCall "ValueError.__new__" ⟨.ref C :: xs, kw⟩) Q X ⟨h, gs, dr, tk, os⟩ := by
  obtain ⟨c, hC, t⟩ := k
  have inB : (Value.ref C :: c.bm).contains (.type "ValueError") = true := by
    rw [List.contains_cons, t, VE.hasB]
    exact Bool.or_true _
  have star := VE.noStar
  simp only [checkBuiltinCall, VE.newSplit, VE.newRow, VE.newKind]
  unfold Kl.obj at hC
  repeat first
    | refine wpAny_staticBase_exc hC ?_
    | refine wpAny_madeBy_exc hC ?_
    | refine wpAny_loadPart_at hC ?_
    | (refine wpAny_isSubtype_exc hC ?_
       rw [inB])
    | simp only [bne_self_eq_false, if_false, Bool.false_eq_true]
    | wp_step
  exact hq
theorem call_checked {Q : Unit → Shared → Prop} (k : KlAt h C) (hq : Q () ⟨h, gs, dr, tk, os⟩) :
    wpAny M A (checkBuiltinCall "type.__call__" ⟨.ref C :: xs, kw⟩) Q X ⟨h, gs, dr, tk, os⟩ := by
  obtain ⟨c, hC, _⟩ := k
  unfold Kl.obj at hC
  have sub := tc_sub
  have ty : (⟨h, gs, dr, tk, os⟩ : Shared).TypeIs (.ref C) "type" := ⟨_, hC, by rfl⟩
  simp only [checkBuiltinCall, tc_split, tc_kind]
  repeat any_goals first
    | assumption
    | with_reducible refine wpAny_map ?_
    | with_reducible refine wpAny_onRaise ?_
    | with_reducible refine wpAny_loadPart_at hC ?_
    | wp_step
end

section
variable {prog : Program} {w : World} {A : Around} {R : Result → Shared → Prop} {h : Heap} {C fI : Addr}
  {gs : Array GenState} {dr : Drawn} {tk : Nat} {os : OsState} {xs : List Value} {kw : List (Str × Value)}

/-- BaseException.__new__: keywords are nothing to it -/
theorem new_made (k : KlAt h C) (small : xs.length ≤ sizeLine)
    (hq : R (.ok (.ret (.ref (h.objs.size + 1)))) ⟨fresh h C xs, gs, dr, tk, os⟩) :
    codeAny (model prog w) A (.builtin "ValueError.__new__" ⟨.ref C :: xs, kw⟩) R ⟨h, gs, dr, tk, os⟩ := by
  obtain ⟨c, hC, t⟩ := k
  unfold Kl.obj at hC
  have inB : (Value.ref C :: c.bm).contains (.type "ValueError") = true := by
    rw [List.contains_cons, t, VE.hasB]
    exact Bool.or_true _
  have noA : (Value.ref C :: c.bm).contains (.type "AttributeError") = false := by
    rw [List.contains_cons, t, VE.noAttr]
    rfl
  have noN : (Value.ref C :: c.bm).contains (.type "NameError") = false := by
    rw [List.contains_cons, t, VE.noName]
    rfl
  have ends := VE.ends
  refine codeAny_builtinAt VE.entry (?_)
  unfold Builtin.«BaseException.__new__» -- the keywords are not looked at
  refine wpAt_bind (show wpAt _ _ _ (stack >>= _) _ _ _ from ?_)
  refine wpAt_bind (wpAt_stack fun _ _ => wpAt_of_wpAny (?_))
  wp_walk
  refine wpAt_of_wpAny ?_
  rw [VE.owner]
  repeat first
    | with_reducible refine wpAny_loadPart_at hC ?_
    | with_reducible refine wpAny_madeHere_exc VE.canon hC ?_
    | (with_reducible refine wpAny_isSubtype_exc hC ?_
       first
         | rw [inB]
         | rw [noA]
         | rw [noN])
    | wp_step
  show R _ _
  rw [Heap.size_push]
  exact hq

/-- type.__call__: made, then the own __init__ with what was handed in -/
theorem called {Q : Fin → Shared → Prop} {X : Value → Shared → Prop} (k : KlAt h C) (small : xs.length ≤ sizeLine)
    (hi : W.Looks (model prog w) h (typeLookup (.ref C) "__init__") (some (.ref fI)))
    (hb : ∀ self, W.Looks (model prog w) h (bindSpecial (.ref fI) self) (.ref fI, [self]))
    (hq : codeAny (model prog w) A (.call (.ref fI) ⟨.ref (h.objs.size + 1) :: xs, kw⟩)
      (fun r s' => match r with
        | .error e => X e s'
        | .ok (.ret v) => v = .none ∧ Q (.done (.ret (.ref (h.objs.size + 1)))) s'
        | .ok _ => False) ⟨fresh h C xs, gs, dr, tk, os⟩) :
    wpAny (model prog w) A (Builtin.«type.__call__» ⟨.ref C :: xs, kw⟩) Q X ⟨h, gs, dr, tk, os⟩ := by
  obtain ⟨c, hC', t⟩ := k
  have k : KlAt h C := ⟨c, hC', t⟩
  have hC := hC'
  unfold Kl.obj at hC
  repeat first
    | with_reducible refine wpAny_madeBy_exc hC ?_
    | with_reducible refine wpAny_loadPart_at hC ?_
    | wp_step
  refine codeAny_call_builtin_code (Code.quiet_builtin _ VE.quiet) (new_checked k (new_made k small ?_))
  show wpAny _ _ _ _ _ _
  have up : ∀ b o, h.get? b = some o → (fresh h C xs).get? b = some o := fun b o e =>
    Heap.get?_push_of_some _ (Heap.get?_push_of_some _ e)
  have hC2 := up _ _ hC
  have it : (fresh h C xs).get? (h.objs.size + 1) = some (excO C h.objs.size) := by
    heap_get
  have self : (Value.ref C :: c.bm).contains (.ref C) = true := by
    simp
  unfold isInstance
  repeat first
    | with_reducible refine wpAny_loadPart_at it ?_
    | (with_reducible refine wpAny_isSubtype_exc hC2 ?_
       rw [self])
    | wp_step
  refine (hi.keeps up).at (?_)
  refine wpAny_holding (wpAny_bind ((((hb (.ref (h.objs.size + 1))).keeps up)).at ?_))
  refine wpAny_bind (wpAny_call (codeAny_mono hq (fun r s' z => ?_)))
  match r, z with
  | .error e, z => exact z
  | .ok (.ret v), ⟨e, z⟩ =>
    subst e
    first
      | exact wpAny_pure (wpAny_pure (by exact z))
      | (wp_walk; exact z)
  | .ok .next, z => exact z.elim
  | .ok .brk, z => exact z.elim
  | .ok .cont, z => exact z.elim

theorem made_of (k : KlAt h C) (small : xs.length ≤ sizeLine)
    (hi : W.Looks (model prog w) h (typeLookup (.ref C) "__init__") (some (.ref fI)))
    (hb : ∀ self, W.Looks (model prog w) h (bindSpecial (.ref fI) self) (.ref fI, [self]))
    (hq : codeAny (model prog w) (A.under (.builtin "type.__call__" ⟨.ref C :: xs, kw⟩))
      (.call (.ref fI) ⟨.ref (h.objs.size + 1) :: xs, kw⟩) (W.InitBack (h.objs.size + 1) R) ⟨fresh h C xs, gs, dr, tk, os⟩) :
    codeAny (model prog w) A (.call (.ref C) ⟨xs, kw⟩) R ⟨h, gs, dr, tk, os⟩ := by
  obtain ⟨c, hC', t⟩ := k
  have k : KlAt h C := ⟨c, hC', t⟩
  have hC := hC'
  unfold Kl.obj at hC
  have look := tc_lookup
  have bind := tc_bind (.ref C)
  have ty : (⟨h, gs, dr, tk, os⟩ : Shared).TypeIs (.ref C) "type" := ⟨_, hC, by rfl⟩
  refine codeAny_of_tree (show wpAny _ _ (callAny (.ref C) _) _ _ _ from ?_)
  repeat any_goals first
    | assumption
    | with_reducible refine wpAny_loadPart_at hC ?_
    | wp_step
  refine ⟨rfl, codeAny_call_builtin_at (Code.quiet_builtin _ (by decide +kernel)) entry_typeCall (call_checked k (called k small hi hb ?_))⟩
  refine codeAny_mono hq (fun r s' z => ?_)
  match r, z with
  | .error e, z => exact z
  | .ok (.ret v), z => exact z
  | .ok .next, z => exact z
  | .ok .brk, z => exact z
  | .ok .cont, z => exact z
end
end Own
end PySem

set_option maxRecDepth 100000
set_option maxHeartbeats 3900000
/-! An own exception's __init__: super().__init__(text), then one field. -/
namespace PySem
namespace Own
open PySem.W PySem.Calls PyProof.Rows HandSPX

abbrev oA (n : Str) (p1 p2 : Pos) : Arguments := { posonlyargs := [], args := [{ arg := "self", annotation := none, pos := p1 }, { arg := n, annotation := none, pos := p2 }], vararg := none, kwonlyargs := [], kw_defaults := [], kwarg := none, defaults := [] }
/-- the scope of such an __init__ -/
abbrev oS (n : Str) : Scope := { kind := .function, names := [("self", .local), (n, .local), ("__class__", .free), ("super", .globalImplicit)], isGenerator := false, isCoroutine := false, more := [] }
abbrev oB (n text : Str) (k1 : Nat) (q1 q2 q3 q4 q5 q6 q7 q8 q9 q0 : Pos) : List Stmt :=
  [.Expr (.Call (.Attribute (.Call (.Name "super" q1) [] [] q2) "__init__" q3) [.Constant (.str text) k1 q4] [] q5) q6,
   .Assign [.Attribute (.Name "self" q7) n q8] (.Name n q9) q0]

/-- what the written part says of an own exception class C, of its __init__ at fI, which keeps one field n -/
structure Txt (prog : Program) (K : Frag) (mg : Str → Option Value) (x n : Str) (C fI : Addr) : Prop where
  gC : mg x = some (.ref C)
  cls : excInitIn K C veTail "ValueError.__new__" = true
  cd : ∃ c bm, clsIn K C = some c ∧ c.mro = .ref C :: bm ∧ refsVE bm = true ∧ c.hasDict = true ∧ alongIn K "__init__" bm = some (some (.builtin "ValueError.__init__"))
  sa : findIn K (.ref C) "__setattr__" = some (some (.builtin "object.__setattr__"))
  ga : findIn K (.ref C) "__getattribute__" = some (some (.builtin "BaseException.__getattribute__"))
  gg : findIn K (.ref C) "__getattr__" = some none
  noN : findIn K (.ref C) n = some none
  iC : findIn K (.ref C) "__init__" = some (some (.ref fI))
  tC : typeIn K (.ref fI) = some (.type "function")
  kC : keepIn K (.ref C) = true
  exC : subIn K (.ref C) (.type "BaseException") = some true
  veC : subIn K (.ref C) (.type "ValueError") = some true
  tyC : typeIn K (.ref C) = some (.type "type")
  hdC : hasDictIn K C = true
  tp : nsIn K cStatics "thirdparty.any" = some none
  gS : mg "super" = none
  top : (prog.main.scope.names.lookup ("super" : Str)).isSome = false
  fn : ∃ (oc : Value) (od : Option Addr) (osl : Array (Option Value)) (dV kV doc pm : Value) (an : Option Addr) (cda cc : Addr) (ct : Value) (p1 p2 q1 q2 q3 q4 q5 q6 q7 q8 q9 q0 : Pos) (text qual : Str) (k1 : Nat)
      (ccl cl : Value) (cdd cld : Option Addr) (vs : Array Value) (ccs csl : Array (Option Value)) (file : Str) (tf : Tok),
    K.lookup fI = some ⟨oc, od, .func (ksFn "__init__" qual (oA n p1 p2) (oB n text k1 q1 q2 q3 q4 q5 q6 q7 q8 q9 q0) (oS n) dV kV doc pm an (.ref cda) ct cc), osl⟩ ∧ codeIn K (.ref cda) qual = true ∧
    ((oS n).names.lookup ("super" : Str) = some .globalImplicit ∧ (oS n).names.lookup ("__class__" : Str) = some .free ∧ (oS n).names.lookup ("self" : Str) = some .local ∧ (oS n).names.lookup n = some .local ∧
      (∀ x ∈ (oS n).names, x.2 ≠ .cell)) ∧
    K.lookup cda = some ⟨ccl, cdd, .fields vs, ccs⟩ ∧ vs[2]? = some (.str file tf) ∧ ((prog.main.file : Str) == file) = true ∧
    K.lookup cc = some ⟨cl, cld, .cell (some (.ref C)), csl⟩ ∧
    (∀ (x v : Value), bindArgs (ksFn "__init__" qual (oA n p1 p2) (oB n text k1 q1 q2 q3 q4 q5 q6 q7 q8 q9 q0) (oS n) dV kV doc pm an (.ref cda) ct cc) ⟨[x, v], []⟩ = pure [(("self" : Str), x), (n, v)]) ∧
    (∀ (x v : Value), bindArgs (ksFn "__init__" qual (oA n p1 p2) (oB n text k1 q1 q2 q3 q4 q5 q6 q7 q8 q9 q0) (oS n) dV kV doc pm an (.ref cda) ct cc) ⟨[x], [(n, v)]⟩ = pure [(("self" : Str), x), (n, v)]) ∧
    (("self" : Str) == n) = false ∧ (n == ("__debug__" : Str)) = false ∧ (q3.endLine == q5.line) = true

/-- what __init__ leaves of a fresh exception at x -/
structure InitEnd (h h' : Heap) (x C dx t1 : Addr) (n : Str) (v : Value) : Prop where
  keep : ∀ b o, b ≠ x → h.get? b = some o → h'.get? b = some o
  obj : h'.get? x = some { cls := .ref C, dict := some dx, data := .fields #[.ref t1, .none, .none, .none, .bool false, .none] }
  dbig : h.objs.size ≤ dx
  dne : dx ≠ x
  ns : h'.Ns1 dx (fun y => if y = n then some v else none)
/-- a made exception -/
structure OwnMade (h h' : Heap) (e C d : Addr) (n : Str) (v : Value) : Prop where
  keep : ∀ b o, h.get? b = some o → h'.get? b = some o
  new : h.objs.size ≤ e
  obj : ∃ oe vs, h'.get? e = some oe ∧ oe.cls = .ref C ∧ oe.dict = some d ∧ oe.data = .fields vs ∧ vs[1]? = some .none ∧ vs[2]? = some .none ∧ 4 < vs.size
  dbig : h.objs.size ≤ d
  dne : d ≠ e
  ns : h'.Ns1 d (fun y => if y = n then some v else none)

theorem drop_own (D : Addr) (r : List Value) :
    ((Value.ref D :: r).dropWhile (· != .ref D)).drop 1 = r := by simp [List.dropWhile_cons]
theorem one_size (v : Value) : [v].length ≤ sizeLine := by
  rw [sizeLine_eq]
  exact (by decide : 1 ≤ 16777216)

section
variable {prog : Program}
variable {w : World}
variable {A : Around} {E : Value → Shared → Prop}
/-- super().__init__(..), the method-wrapper called -/
theorem call_mw {h : Heap} {g : Array GenState} {d : Drawn} {tk : Nat} {os : OsState} {K : Frag} {C u e t0 : Addr} {rest : List Value} {Q : Value → Shared → Prop} (X : K.In h) (q : excInitIn K C veTail "ValueError.__new__" = true)
    (hu : h.get? u = some (kxs_mw "ValueError.__init__" e)) (he : h.get? e = some (excO C t0)) (hz : rest.length ≤ sizeLine)
    (hq : ∀ h' t1, (∀ b o, b ≠ e → h.get? b = some o → h'.get? b = some o) → h'.get? e = some (excO C t1) → Q .none ⟨h', g, d, tk, os⟩) :
    wpAny (model prog w) A (call (.ref u) rest) Q E ⟨h, g, d, tk, os⟩ := by
  obtain ⟨c, hC, _⟩ := klAt_of X q
  unfold Kl.obj at hC
  refine wpAny_call (codeAny_of_tree (show wpAny _ A.in1 (callAny (.ref u) ⟨rest, []⟩) _ _ _ from ?_))
  unfold callAny
  refine wpAny_bind (wpAny_load hu (?_))
  have mw : ∀ a b : Bool, (a || b || (Value.type "method-wrapper" == Value.type "method-wrapper")) = true := fun a b => by
    rw [beq_self_eq_true, Bool.or_true]
  dsimp only [kxs_mw]
  rw [if_pos (mw _ _)]
  refine KFB.if_so (show _ from by decide) ?_
  refine wpAny_bind (check_bound_init F.excBase_ValueError.toExcCallFacts hC he rfl ?_)
  refine wpAny_bind (wpAny_pure (wpAny_pure (?_)))
  refine ⟨plainId_quiet F.excBase_ValueError.init.plain _, codeAny_builtin F.excBase_ValueError.initEntry ?_⟩
  exact exc_init_tree (cls := .ref C) (t0 := t0) (dv := none) (c2 := .none) (c3 := .none) (b4 := .bool false) he hz fun h' k e' _ => hq h' _ k e'

theorem own_init {R : Result → Shared → Prop} {s : Shared} {K : Frag} {mg mb : Str → Option Value} {x0 n : Str} {C fI x t0 : Addr} {v : Value} {args : Args} (T : Txt prog K mg x0 n C fI) (X : K.In s.heap) (hlim : s.heap.NoLimit)
    (G : s.heap.Ns mainGlobals mg) (Bl : s.heap.Ns builtinsNs mb) (hmb : ∀ x : Str, x ≠ "__name__" → mb x = bootBuiltins x)
    (hx : s.heap.get? x = some (excO C t0)) (hnx : K.lookup x = none) (hroom : A.depth < recursionLimit) (ha : args = ⟨[.ref x, v], []⟩ ∨ args = ⟨[.ref x], [(n, v)]⟩)
    (hq : ∀ h' tk dx t1, InitEnd s.heap h' x C dx t1 n v → R (.ok (.ret .none)) { s with heap := h', toks := tk }) :
    codeAny (model prog w) A (.call (.ref fI) args) R s := by
  obtain ⟨oc, od, osl, dV, kV, doc, pm, an, cda, cc, ct, p1, p2, q1, q2, q3, q4, q5, q6, q7, q8, q9, q0, text, qual, k1, ccl, cl, cdd, cld, vs, ccs, csl, file, tf, hf, hcd, ⟨ks, kc, kself, kn, kcell⟩, hcda, hvs, hfile, hcc, hb1, hb2, hsn, hnd, hline⟩ := T.fn
  obtain ⟨cd, bm, hcl, hmro, hbm, hhd, hal⟩ := T.cd
  have hbind : BindsTo s (ksFn "__init__" qual (oA n p1 p2) (oB n text k1 q1 q2 q3 q4 q5 q6 q7 q8 q9 q0) (oS n) dV kV doc pm an (.ref cda) ct cc) args [(("self" : Str), .ref x), (n, v)] := by
    rcases ha with rfl | rfl
    · exact .of_eq (hb1 _ _)
    · exact .of_eq (hb2 _ _)
  have hloc : ∀ y ∈ ([(("self" : Str), Value.ref x), (n, v)] : List (Str × Value)), (oS n).names.lookup y.1 = some .local := by
    intro y hy
    have hy' : y = (("self" : Str), Value.ref x) ∨ y = (n, v) := by simpa using hy
    rcases hy' with rfl | rfl
    · exact kself
    · exact kn
  refine ks_codeAny_call_defAt (fd := ksFn "__init__" qual (oA n p1 p2) (oB n text k1 q1 q2 q3 q4 q5 q6 q7 q8 q9 q0) (oS n) dV kV doc pm an (.ref cda) ct cc) (body := oB n text k1 q1 q2 q3 q4 q5 q6 q7 q8 q9 q0) (binds := [(("self" : Str), Value.ref x), (n, v)]) hroom (X _ _ hf) rfl hlim (codeRec_of X hcd) rfl hbind kcell hloc (fun h₁ hns k₁ => ?_) rfl rfl rfl
  rcases s with ⟨hp, g, d, tk, os⟩
  have X₁ : K.In h₁ := X.keeps k₁
  have hx₁ := k₁ _ _ hx
  have hlt : hp.objs.size < h₁.objs.size := hns.lt
  have mself : (([(("self" : Str), Value.ref x), (n, v)] : List (Str × Value)).reverse.lookup ("self" : Str)) = some (.ref x) := by
    show List.lookup ("self" : Str) [(n, v), (("self" : Str), Value.ref x)] = _
    rw [List.lookup_cons]
    simp only [hsn]
    rfl
  have mn : (([(("self" : Str), Value.ref x), (n, v)] : List (Str × Value)).reverse.lookup n) = some v := by
    show List.lookup n [(n, v), (("self" : Str), Value.ref x)] = _
    rw [List.lookup_cons]
    simp
  -- the class as the heap has it
  obtain ⟨oD, hD1, hD2⟩ : ∃ oD, h₁.get? C = some oD ∧ oD.data = .cls cd := by
    unfold clsIn at hcl
    split at hcl
    · rename_i c d' cd' sl ho
      cases hcl
      exact ⟨_, X₁ _ _ ho, rfl⟩
    · cases hcl
  have hxC : x ≠ C := fun z => by
    rw [z, hD1] at hx₁
    cases hx₁
    cases hD2
  have hsubD : Looks (model prog w) h₁ (isSubtype (.ref C) (.ref C)) true := looks_mroIn X₁ (by
    unfold mroIn
    rw [hcl, Option.bind_some, hmro]
    simp)
  refine ks_wpAt_execs_cons (ks_wpAt_Expr_any ?_ rfl (by first | rfl | with_unfolding_all rfl))
  refine ks_wpAt_MethodCall (pl := (do return (← importBound (.Call (.Name "super" q1) [] [] q2) (callEnv (ksFn "__init__" qual (oA n p1 p2) (oB n text k1 q1 q2 q3 q4 q5 q6 q7 q8 q9 q0) (oS n) dV kV doc pm an (.ref cda) ct cc) hp.objs.size fI)).getD true)) ?_ (by
    rw [arm_eval_Call]
    have hpos : ∀ env, methodCallPos true (.Call (.Name "super" q1) [] [] q2) env q3 q5 = pure q5 := fun env => by unfold methodCallPos; simp [hline]
    unfold methodCall
    rw [show methodCallForm _ _ _ = true from rfl, hpos]
    rfl)
  refine ks_wpAt_super_base (env := callEnv (ksFn "__init__" qual (oA n p1 p2) (oB n text k1 q1 q2 q3 q4 q5 q6 q7 q8 q9 q0) (oS n) dV kV doc pm an (.ref cda) ct cc) hp.objs.size fI) ks kc (by decide +kernel) rfl (X₁ _ _ hf) rfl rfl rfl (X₁ _ _ hcda) rfl hvs hfile T.top ?_
  refine ks_loadName_global rfl ks (loadGlobal_builtin (env := callEnv (ksFn "__init__" qual (oA n p1 p2) (oB n text k1 q1 q2 q3 q4 q5 q6 q7 q8 q9 q0) (oS n) dV kV doc pm an (.ref cda) ct cc) hp.objs.size fI) (G.keeps k₁) T.gS (Bl.keeps k₁) ((hmb _ (by decide +kernel)).trans (by first | boot_by_name | rfl | kernel_rfl)) ⟨rfl, ?_⟩)
  refine wpAny_loadName_free rfl kc rfl ⟨_, X₁ _ _ hcc, rfl⟩ ?_
  refine wpAny_loadName_local rfl kself hns mself ?_
  refine ks_wpAny_isType_cls hD1 hD2 ⟨by rfl, ?_⟩
  refine ks_wpAny_call_super hD1 hD2 hx₁ rfl (fun c z => by cases z) hsubD (fun h₂ hso k₂ => ?_)
  -- super().__init__
  have X₂ : K.In h₂ := X₁.keeps k₂
  have I₂ : PySem.W.InstAt h₂ x (excO C t0) C none := ⟨k₂ _ _ hx₁, rfl, rfl, trivial⟩
  have hI : Looks (model prog w) h₂ (isInstance (.ref x) (.type "ValueError")) true := I₂.type.andThen (looks_subIn X₂ T.veC)
  refine kxs_getMethod kxs_ValueError hso (looks_opaque X₂ T.tp) (l₀ := .ref C :: bm) ?_ (drop_own C bm) X₂ hal hI hxC (by decide +kernel) ?_
  · exact fun A Q E s k q => wpAny_bind ((looks_clsIn X₂ hcl) A _ E s k (wpAny_pure (by rw [hmro]; exact q)))
  have hu : (h₂.push (kxs_mw "ValueError.__init__" x)).get? h₂.objs.size = some (kxs_mw "ValueError.__init__" x) := Heap.get?_push_at rfl rfl
  have k₃ : ∀ b o, h₂.get? b = some o → (h₂.push (kxs_mw "ValueError.__init__" x)).get? b = some o := fun b o e => Heap.get?_push_of_some _ e
  show wpAny _ _ (callWith q5 (.ref h₂.objs.size) [] (backTo q5 (starEach [.Constant (.str text) k1 q4] _)) []) _ _ _
  refine kxs_callWith (i := "ValueError.__init__") (x := x) (by rfl) ?_
  refine evalArgs_plain ?_
  show wpAny _ _ (spliced ((false, eval (.Constant (.str text) k1 q4) _) :: backTo q5 (starEach [] (callEnv (ksFn "__init__" qual (oA n p1 p2) (oB n text k1 q1 q2 q3 q4 q5 q6 q7 q8 q9 q0) (oS n) dV kV doc pm an (.ref cda) ct cc) hp.objs.size fI)))) _ _ _
  refine Calls.spliced_cons (Calls.Constant_str (Calls.spliced_nil (?_)))
  refine ⟨hu, ?_⟩
  refine call_mw (K := K) (C := C) (e := x) (t0 := t0) (X₂.keeps k₃) T.cls hu (k₃ _ _ (k₂ _ _ hx₁)) (one_size _) (fun h₄ t₁ k₄ hx₄ => ?_)
  -- self.n = v
  have kall : ∀ b o, b ≠ x → h₁.get? b = some o → h₄.get? b = some o := fun b o hb e => k₄ b o hb (k₃ _ _ (k₂ _ _ e))
  have X₄ : K.In h₄ := fun b o e => kall b o (fun z => by rw [z, hnx] at e; cases e) (X₁ b o e)
  have hns₄ : h₄.Ns hp.objs.size (fun y => ([(("self" : Str), Value.ref x), (n, v)] : List (Str × Value)).reverse.lookup y) := by
    obtain ⟨oL, es, ep, hL, r⟩ := hns
    have xL : hp.objs.size ≠ x := Nat.ne_of_gt (Heap.lt_size hx)
    exact ⟨oL, es, ep, kall _ _ xL hL, r⟩
  refine ks_wpAt_execs_cons (ks_wpAt_Assign_Attr ?_ (by first | rfl | with_unfolding_all rfl))
  refine wpAt_of_wpAny (wpAny_Name (wpAny_loadName_local rfl kn hns₄ mn ?_) hnd)
  refine wpAny_Name (wpAny_loadName_local rfl kself hns₄ mself ?_) (by decide +kernel)
  refine set_plain X₄ (ox := excO C t₁) (od := none) ⟨hx₄, rfl, rfl, trivial⟩ T.sa ?_
  refine exc_osa X₄ hx₄ hcl (by rw [hmro]; exact hbm) hhd T.noN (fun h₅ tk₅ dx k₅ dn dne hx₅ hn₅ => ?_)
  show wpAt _ _ _ (execs [] _) _ _ _
  refine wpAt_of_wpAny (wpAny_execs_nil ?_)
  have z : hp.objs.size ≤ h₄.objs.size := by
    obtain ⟨oL, es, ep, hL, r⟩ := hns₄
    exact Nat.le_of_lt (Heap.lt_size hL)
  exact hq h₅ tk₅ dx t₁ ⟨fun b o hb e => k₅ b o hb (kall b o hb (k₁ _ _ e)), hx₅, Nat.le_trans z dn, dne, hn₅⟩

theorem own_made {R : Result → Shared → Prop} {s : Shared} {K : Frag} {mg mb : Str → Option Value} {x0 n : Str} {C fI : Addr} {v : Value} {rest : List Value} {kw : List (Str × Value)} (T : Txt prog K mg x0 n C fI) (X : K.In s.heap) (hlim : s.heap.NoLimit)
    (G : s.heap.Ns mainGlobals mg) (Bl : s.heap.Ns builtinsNs mb) (hmb : ∀ x : Str, x ≠ "__name__" → mb x = bootBuiltins x)
    (hroom : A.depth + 1 < recursionLimit) (ha : (rest = [v] ∧ kw = []) ∨ (rest = [] ∧ kw = [(n, v)]))
    (hq : ∀ h' tk e d, OwnMade s.heap h' e C d n v → R (.ok (.ret (.ref e))) { s with heap := h', toks := tk }) :
    codeAny (model prog w) A (.call (.ref C) ⟨rest, kw⟩) R s := by -- the class is called
  obtain ⟨hp, g, dr, tk, os⟩ := s
  have hz : rest.length ≤ sizeLine := by
    rcases ha with ⟨rfl, _⟩ | ⟨rfl, _⟩
    · exact one_size _
    · exact Nat.zero_le _
  have k : ∀ b o, hp.get? b = some o → ((hp.push (kdv_tup rest)).push (excO C hp.objs.size)).get? b = some o := fun b o e => Heap.get?_push_of_some _ (Heap.get?_push_of_some _ e)
  have hget : ((hp.push (kdv_tup rest)).push (excO C hp.objs.size)).get? (hp.objs.size + 1) = some (excO C hp.objs.size) := by heap_get
  have hnx : K.lookup (hp.objs.size + 1) = none := by
    cases e : K.lookup (hp.objs.size + 1) with
    | none => rfl
    | some o =>
      have z : hp.get? (hp.objs.size + 1) = some o := X _ _ e
      exact absurd (Nat.lt_of_succ_lt (Heap.lt_size z)) (Nat.lt_irrefl _)
  refine made_of (klAt_of X T.cls) hz (looks_findIn X T.iC) (fun self => bind_fn X self T.tC) ?_
  refine own_init (s := ⟨(hp.push (kdv_tup rest)).push (excO C hp.objs.size), g, dr, tk, os⟩) (v := v) T (X.keeps k) (hlim.keeps k) (G.keeps k) (Bl.keeps k) hmb hget hnx ?_ ?_ fun h' tk' dx t1 ⟨k', hx, dn, dne, hns⟩ => ?_
  · show A.depth + 1 < recursionLimit
    exact hroom
  · rcases ha with ⟨rfl, rfl⟩ | ⟨rfl, rfl⟩
    · exact .inl rfl
    · exact .inr rfl
  · have old : ∀ b o, hp.get? b = some o → h'.get? b = some o := fun b o e => k' b o (Nat.ne_of_lt (Nat.lt_succ_of_lt (Heap.lt_size e))) (k b o e)
    have z : hp.objs.size + 1 + 1 ≤ dx := by
      first
        | (simpa only [Heap.size_push] using dn)
        | exact dn
        | (have q := dn; rw [Heap.size_push, Heap.size_push] at q; exact q)
    exact ⟨rfl, hq h' tk' (hp.objs.size + 1) dx ⟨old, Nat.le_succ _, ⟨_, _, hx, rfl, rfl, rfl, rfl, rfl, (by show 4 < 6; decide)⟩, Nat.le_trans (Nat.le_trans (Nat.le_succ _) (Nat.le_succ _)) z, dne, hns⟩⟩
end
end Own
end PySem

set_option maxRecDepth 100000
set_option maxHeartbeats 3900000
/-! Own exceptions as values over the hand layer: made, their field read, asked by isinstance. -/
namespace L2
open PySem PySem.Spec PyProof.Rows

/-- an exception object of the class C, not raised yet, at a, its own dict at d -/
def ExV (C d a : Addr) : HO := .ext fun h => ∃ (oe : Obj) (vs : Array Value), h.get? a = some oe ∧ Zc (.ref C) (some d) oe ∧ oe.data = .fields vs ∧ vs[1]? = some .none
theorem exV_ok {P : Program} {w : World} {H : Hp} {h : Heap} {C d a : Addr} {oe : Obj} {vs : Array Value} (e : h.get? a = some oe) (z : Zc (.ref C) (some d) oe) (dt : oe.data = .fields vs) (h1 : vs[1]? = some .none) : ObjOk P w H h a (ExV C d a) :=
  ⟨⟨oe, vs, e, z, dt, h1⟩, ⟨oe, e⟩, fun _ _ ⟨o, v, q, r⟩ k => ⟨o, v, k o q, r⟩⟩

section
variable {X : Cx} {C fI : Addr} {x n : Str}
/-- a new exception of the class C with the field n -/
def mkOwn (C : Addr) (n : Str) (v : V) (H : Hp) (Q : VK) : Prop := ∀ a d, H a = none → H d = none → d ≠ a → Q (.ref a) (upd (upd H d (.xd [(n, v)])) a (ExV C d a))

theorem relO_one {n : Str} {v : V} {v' : Value} (r : RelV v v') (f : Str) : RelO (List.lookup f [(n, v)]) (if f = n then some v' else none) := by
  by_cases hw : f = n
  · subst hw
    rw [if_pos rfl]
    have q : List.lookup f [(f, v)] = some v := by simp [List.lookup]
    rw [q]
    exact r
  · rw [if_neg hw]
    have qw : (f == n) = false := by simpa using hw
    have q2 : List.lookup f [(n, v)] = none := by simp [List.lookup, qw]
    rw [q2]
    trivial

theorem run_own {k : Nat} {pins : List (Addr × Obj)} {σ : St} {H : Hp} {s : Shared} {Q : VK} {v : V} {u : Value} {us : List Value} {kw : List (Str × Value)} (T : PySem.Own.Txt X.prog X.K X.mg x n C fI) (hr : Room k X.A) (I : Inv X pins σ H s) (r : RelV v u)
    (ha : (us = [u] ∧ kw = []) ∨ (us = [] ∧ kw = [(n, u)])) (q : mkOwn C n v H Q) : wpAny (model X.prog X.w) X.A (call (.ref C) us kw) (EP X pins σ Q) X.xe s := by
  obtain ⟨mb, hmb, hbb⟩ := I.mod.blt
  refine wpAny_call (PySem.Own.own_made T I.kIn I.nolimit (I.mod.glob.keeps I.bk) (hmb.keeps I.bk) hbb (by have := hr.dp; omega) ha fun h' tk' e d M => ?_)
  obtain ⟨hp, g, dr, tk, os⟩ := s
  obtain ⟨oe, fv, hoe, hc, hd, hdat, h1, _, _⟩ := M.obj
  have He : H e = none := I.hok.fresh M.new
  have Hd : H d = none := I.hok.fresh M.dbig
  have ob : ObjOk X.prog X.w (upd H d (.xd [(n, v)])) h' d (.xd [(n, v)]) := ⟨_, M.ns, fun f => relO_one r f⟩
  have J : Inv X pins σ (upd H d (.xd [(n, v)])) ⟨h', g, dr, tk', os⟩ := I.laid (t' := tk') M.keep M.dbig ob
  have He2 : (upd H d (.xd [(n, v)])) e = none := by rw [upd_ne (Ne.symm M.dne)]; exact He
  have none_e : hp.get? e = none := Heap.get?_none_of_le M.new
  -- the exception itself: the heap as it stands, tracked now
  have J2 : Inv X pins σ (upd (upd H d (.xd [(n, v)])) e (ExV C d e)) ⟨h', g, dr, tk', os⟩ := by
    have I2 : Un X.fs [] H (upd (upd H d (.xd [(n, v)])) e (ExV C d e)) hp h' := by
      have a1 : Un X.fs [] H (upd H d (.xd [(n, v)])) hp h' := Un.laid M.keep M.dbig Hd
      refine ⟨a1.keep, a1.slot, fun b u q nn hb => ?_, a1.there, fun b xs q => ?_, fun b ob xs q => ?_, fun b ps q => ?_⟩
      · rw [upd_ne (fun z => by rw [z, none_e] at q; cases q)]
        exact a1.free b u q nn hb
      · rw [upd_ne (ne_of_none q He)]; exact a1.tups b xs q
      · rw [upd_ne (ne_of_none q He)]; exact a1.frzs b ob xs q
      · rw [upd_ne (ne_of_none q He)]; exact a1.tbls b ps q
    refine I.un (t' := tk') I2 fun b u q => ?_
    by_cases hb : b = e
    · subst hb
      rw [upd_same] at q
      cases q
      exact exV_ok hoe ⟨hc, hd⟩ hdat h1
    · rw [upd_ne hb] at q
      exact (J.hok b u q).stay (fun c w' _ z => z) (fun c z => by rw [upd_ne (ne_of_none z He2)]; exact z) fun c xs z => by rw [upd_ne (ne_of_none z He2)]; exact z
  exact ⟨.ref e, _, J2, rfl, q e d He Hd M.dne⟩

def tOwn (C : Addr) (n : Str) (ta : TA) : TE := fun σ H Q => ta σ H fun vs H1 => ∃ v, vs = [v] ∧ mkOwn C n v H1 Q
/-- X(e) -/
theorem pe_own {k : Nat} {e : Expr} {ta : TA} {p pos : Pos} (T : PySem.Own.Txt X.prog X.K X.mg x n C fI) (hr : Room k X.A) (ha : PA X [e] ta) (hg : Gl X x := by rfl) (hdb : (x == ("__debug__" : Str)) = false := by decide +kernel)
    (he : starEach (e :: []) X.env = (false, eval e X.env) :: starEach [] X.env := by rfl) (hpl : (backTo pos (starEach [] X.env)).any (·.1) = false := by rfl) :
    PE X (.Call (.Name x p) [e] [] pos) (tOwn C n ta) := by
  refine ⟨fun pins s σ H Q I h => ?_⟩
  refine wpAny_Call_Name_kw (ld_glob I hg T.gC ?_ hdb)
  refine PySem.W.callWith_K (h₀ := X.base) I.ok.mod.kin T.kC (thn (ha.run pos pins s σ H _ I h) fun us s1 hh => ?_) he hpl
  obtain ⟨vs, H1, I1, r1, v, ev, q1⟩ := hh
  subst ev
  refine ⟨I1.kIn, ?_⟩
  obtain ⟨u, rfl, r⟩ := vals1 r1
  exact run_own T hr I1 r (.inl ⟨rfl, rfl⟩) q1
/-- X(n = e) -/
theorem pe_ownK {k : Nat} {kws : List Keyword} {tk : TA} {p pos : Pos} (T : PySem.Own.Txt X.prog X.K X.mg x n C fI) (hr : Room k X.A) (hkw : PK X kws tk) (hg : Gl X x := by rfl) (hdb : (x == ("__debug__" : Str)) = false := by decide +kernel)
    (hall : (backToKw pos (keywordEach kws X.env)).all (·.1.isSome) = true := by rfl) (hks : (backToKw pos (keywordEach kws X.env)).filterMap (·.1) = [n] := by rfl)
    (hpl : ((backTo pos (starEach [] X.env)).any (·.1) || (backToKw pos (keywordEach kws X.env)).any (·.1.isNone)) = false := by rfl) : PE X (.Call (.Name x p) [] kws pos) (tOwn C n tk) := by
  refine ⟨fun pins s σ H Q I h => ?_⟩
  refine wpAny_Call_Name_kw (ld_glob I hg T.gC ?_ hdb)
  refine PySem.W.callWith_KW0 (h₀ := X.base) I.ok.mod.kin T.kC hall ?_ hpl
  refine thn (hkw.run pos pins s σ H _ I h) fun ws s2 ⟨zs, H2, I2, rz, v, ev, q2⟩ => ⟨I2.kIn, ?_⟩
  subst ev
  rw [hks]
  obtain ⟨u, rfl, r⟩ := vals1 rz
  exact run_own T hr I2 r (.inr ⟨rfl, rfl⟩) q2

/-- e.n, e an exception held as a value -/
def tExF (K : PySem.W.Frag) (n : Str) (te : TE) : TE := fun σ H Q => te σ H fun x H1 => ∃ (a d C : Addr) (fs : List (Str × V)) (v : V), x = .ref a ∧ H1 a = some (ExV C d a) ∧ XfC K C ∧ PySem.W.findIn K (.ref C) n = some none ∧ H1 d = some (.xd fs) ∧ fs.lookup n = some v ∧ Q v H1
theorem pe_exf {e : Expr} {te : TE} {pos : Pos} (he : PE X e te) (hb : attributeBase e n X.env (eval e X.env) = eval e X.env := by rfl) : PE X (.Attribute e n pos) (tExF X.K n te) := by
  refine ⟨fun pins s σ H Q I h => ?_⟩
  refine attr_of hb (thn (he.run pins s σ H _ I h) fun u s1 hh => ?_)
  obtain ⟨x, H1, I1, rx, a, d, C, fs, v, ex, ea, T, hno, ed, l, q⟩ := hh
  subst ex
  obtain rfl : u = Value.ref a := rx
  obtain ⟨⟨oe, vs, ho0, hz, hd, _⟩, _, _⟩ := I1.hok a _ ea
  have hx : ObjOk X.prog X.w H1 s1.heap d (.xd fs) := I1.hok d _ ed
  obtain ⟨mA, hns, hr⟩ := hx
  obtain ⟨od, ho, hl⟩ := lookIn_ns hns
  obtain ⟨u, hu, ru⟩ := RelO.some_of (v := v) (o := mA n) (l ▸ hr n)
  have J : PySem.W.InstAt s1.heap a oe C (some od) := ⟨ho0, hz.1, by unfold PySem.W.notCls; rw [hd] <;> rfl, by rw [hz.2]; exact ho⟩
  refine HandSPX.exc_get I1.kIn J T.ga T.gg T.exC ?_ (handed_of ru) ⟨v, H1, I1.tok _, ru, q⟩
  exact PySem.W.findObj_own T.hdC hno rfl (by rw [hl, hu])
end
end L2

set_option maxRecDepth 100000
set_option maxHeartbeats 3900000
/-! isinstance of exceptions held as values; repr of lists. -/
namespace L2
open PySem PySem.Spec PyProof.Rows

section
variable {X : Cx}
/-- isinstance(e, c), e an own exception held as a value -/
def rIsV (K : PySem.W.Frag) : List V → Hp → VK → Prop := fun xs H Q => ∃ (a d C : Addr) (fs : List (Str × V)) (c : V) (cv : Value) (b : Bool), xs = [.ref a, c] ∧ H a = some (ExV C d a) ∧ H d = some (.xd fs) ∧ ExcC K C ∧ (PySem.W.clsIn K C).isSome = true ∧ (∀ u, RelV c u → u = cv) ∧ PySem.W.kitOne K (.ref C) cv = some b ∧ Q (.bl b) H
theorem call_isV : CallR X (.builtin "isinstance") (rIsV X.K) := by
  rintro pins s σ H xs us Q I r ⟨a, d, C, fs, c, cv, b, rfl, ha, hd, T, hcl, hcv, e, q⟩
  cases r with
  | cons rx rr =>
    cases rr with
    | cons rt rr =>
      cases rr
      cases rx
      have ec := hcv _ rt
      subst ec
      obtain ⟨⟨oe, vs, ho0, hz, hdt, _⟩, _, _⟩ := I.hok a _ ha
      have hx : ObjOk X.prog X.w H s.heap d (.xd fs) := I.hok d _ hd
      obtain ⟨mA, hns, hr⟩ := hx
      obtain ⟨od, ho, hl⟩ := lookIn_ns hns
      have J : PySem.W.InstAt s.heap a oe C (some od) := ⟨ho0, hz.1, by unfold PySem.W.notCls; rw [hdt] <;> rfl, by rw [hz.2]; exact ho⟩
      exact PySem.W.kia_one (PySem.W.kitx_exc hcl T.hg T.hk T.hs T.ha T.hn T.ht T.hm) I.kIn J e (fun z => nomatch z) fun tk => ⟨.bl b, H, I.kept (t' := tk) fun _ _ z => z, rfl, q⟩

/-- data, an empty dict too -/
inductive Dq (K : PySem.W.Frag) (H : Hp) : V → PyData → Prop
  | data {v : V} {d : PyData} : Dp K H v d → d.hasDict = false → Dq K H v d
  | emp {a : Addr} : H a = some (.dK []) → Dq K H (.ref a) (.dict [])
theorem Dq.reads {pins : List (Addr × Obj)} {σ : St} {H : Hp} {s : Shared} (I : Inv X pins σ H s) {v : V} {d : PyData} {u : Value} (h : Dq X.K H v d) (r : RelV v u) : ∃ as, Reads s.heap u d as ∧ (d.hasDict = true → sysModules ∉ as) := by
  cases h with
  | data h hn =>
    obtain ⟨as, q⟩ := Dp.reads I d v u h r
    exact ⟨as, q, PyData.noDict_hsm hn⟩
  | @emp a e =>
    cases r
    obtain ⟨_, hsm, vs, rel, o, es, ep, ho, hx, hd, _, hp, _⟩ := dk_of I.hok e
    cases rel
    have e1 : es.toList = [] := by
      generalize es.toList = l at hp
      cases hp
      rfl
    have e0 : es = #[] := by simpa using e1
    subst e0
    refine ⟨_, Reads.dict ho hx.1 hd .nil .nil, fun _ hm => ?_⟩
    have z : sysModules = a := by simpa using hm
    rw [z] at hsm
    simp at hsm
theorem reads_four {h : Heap} {u : Value} {d : PyData} {as : List Addr} (r : Reads h u d as) (hsm : d.hasDict = true → sysModules ∉ as) : ∀ n, ∃ bs, ReadsAll h (List.replicate n u) (List.replicate n d) bs ∧ (PyData.hasDictAll (List.replicate n d) = true → sysModules ∉ bs)
  | 0 => ⟨[], .nil, fun _ => by simp⟩
  | n + 1 => by
    obtain ⟨bs, q, k⟩ := reads_four r hsm n
    refine ⟨as ++ bs, .cons r q, fun hx hm => ?_⟩
    cases hd : d.hasDict with
    | true =>
      rcases (List.mem_append.mp hm) with hm | hm
      · exact hsm hd hm
      · have : PyData.hasDictAll (List.replicate n d) = true ∨ n = 0 := by
          cases n with
          | zero => exact .inr rfl
          | succ n => exact .inl (by simp [List.replicate_succ, PyData.hasDictAll, hd])
        rcases this with t | t
        · exact k t hm
        · subst t
          cases q
          exact nomatch hm
    | false =>
      have : ∀ m, PyData.hasDictAll (List.replicate m d) = false := fun m => by
        induction m with
        | zero => rfl
        | succ m ih => simp [List.replicate_succ, PyData.hasDictAll, hd, ih]
      rw [this] at hx
      cases hx
/-- repr(xs), xs a list of n equal data -/
def rRepN (K : PySem.W.Frag) : List V → Hp → VK → Prop := fun xs H Q => ∃ (p : Addr) (n : Nat) (v : V) (d : PyData), xs = [.ref p] ∧ SqL K H p (List.replicate (n + 1) v) ∧ Dq K H v d ∧ d.showable = true ∧ d.depth ≤ 30 ∧
  (listText (PyData.shownAll (List.replicate (n + 1) d))).length ≤ sizeLine ∧ Q (.str (listText (PyData.shownAll (List.replicate (n + 1) d)))) H
theorem depthAll_rep (d : PyData) : ∀ n, PyData.depthAll (List.replicate n d) ≤ d.depth
  | 0 => Nat.zero_le _
  | n + 1 => by
    have := depthAll_rep d n
    simp only [List.replicate_succ, PyData.depthAll]
    omega
theorem showAll_rep {d : PyData} (h : d.showable = true) : ∀ n, PyData.showableAll (List.replicate n d) = true
  | 0 => rfl
  | n + 1 => by simp [List.replicate_succ, PyData.showableAll, h, showAll_rep h n]
theorem vals_rep {v : V} : ∀ {n : Nat} {us : List Value}, Vals (List.replicate n v) us → ∀ {h : Heap} {d : PyData}, (∀ u, RelV v u → ∃ as, Reads h u d as ∧ (d.hasDict = true → sysModules ∉ as)) → ∃ bs, ReadsAll h us (List.replicate n d) bs ∧ (PyData.hasDictAll (List.replicate n d) = true → sysModules ∉ bs)
  | 0, _, .nil, _, _, _ => ⟨[], .nil, fun _ => by simp⟩
  | n + 1, _, .cons r t, h, d, f => by
    obtain ⟨bs, q, k⟩ := vals_rep t f
    obtain ⟨as, ra, ka⟩ := f _ r
    refine ⟨as ++ bs, .cons ra q, fun hx hm => ?_⟩
    cases hd : d.hasDict with
    | true =>
      rcases (List.mem_append.mp hm) with hm | hm
      · exact ka hd hm
      · cases n with
        | zero =>
          cases q
          exact nomatch hm
        | succ n => exact k (by simp [List.replicate_succ, PyData.hasDictAll, hd]) hm
    | false =>
      have : ∀ m, PyData.hasDictAll (List.replicate m d) = false := fun m => by
        induction m with
        | zero => rfl
        | succ m ih => simp [List.replicate_succ, PyData.hasDictAll, hd, ih]
      rw [this] at hx
      cases hx
theorem call_repN (hg : X.A.guards = some []) (hu : X.A.units + 64 < cLine) : CallR X (.builtin "repr") (rRepN X.K) := by
  rintro pins s σ H xs us Q I r ⟨p, n, v, d, rfl, hp, hd, hs, hdep, hz, q⟩
  rcases vals1 r with ⟨u, rfl, rx⟩
  cases (show u = Value.ref p from rx)
  obtain ⟨its, rv, ⟨o, m, ho, hc, _, hdt⟩, _⟩ := I.list hp
  obtain ⟨as, ra, ka⟩ := vals_rep rv (fun u r => Dq.reads I hd r)
  obtain ⟨bs, hb, hk⟩ := ReprAllK.of_readsAll (prog := X.prog) (w := X.w) ra (showAll_rep hs _) ka (fun t ht => Nat.le_trans (listText_mem_le ht) hz)
  have dp := depthAll_rep d (n + 1)
  have hna : p ∉ bs := not_mem_of_deeper (.list ho hc hdt ra) (by simp only [PyData.depth]; omega) hb
  have hT : s.TypeIs (.ref p) "list" := ⟨o, ho, hc⟩
  refine call_repr_slot (by omega) hT PySem.F.slot_list_repr.toG ?_
  cases its with
  | nil => cases rv
  | cons x l =>
    exact call_list_reprK ho hc hdt hna (by simpa using hk.length_eq) (fun i y e => hk.item i y (by simpa using e)) hg (fun b _ => Clear.nil b) (by show X.A.units + 1 + _ < cLine; omega) (fun _ _ e => e) (fun h' u tk hk' => ⟨_, _, rfl, .str _, H, I.kept (t' := tk) hk', ⟨_, rfl⟩, q⟩) hz
end
end L2

set_option maxRecDepth 100000
set_option maxHeartbeats 3900000
/-! Promises of defs that run where no repr is under way (the list of guards is empty): repr may be asked there. -/
namespace L2
open PySem PySem.Spec PyProof.Rows

/-- as FnOk, kept where no guard stands -/
structure FnG (P : Program) (w : World) (K : PySem.W.Frag) (mg : Str → Option Value) (base : Heap) (CX : CXT) (k : Nat) (f : Addr) (fd : FuncData) (ps : List Str) (sp : Sp) : Prop where
  len : ∀ (vs : List V) (H : Hp) (Q : VK) (E : XK), sp vs H Q E → vs.length = ps.length
  run : ∀ (A : Around) (outer : List Env) (s : Shared) (H : Hp) (args : Args) (us : List Value) (vs : List V) (Q : VK) (E : XK), A.guards = some [] → Room k A →
    Env0 P w K mg base A outer s H → BindsTo s fd args (ps.zip us) → Vals vs us → sp vs H Q E → codeAny (model P w) A (.call (.ref f) args) (CR CX outer P w H s Q E) s
theorem FnOk.g {P : Program} {w : World} {K : PySem.W.Frag} {mg : Str → Option Value} {base : Heap} {CX : CXT} {k : Nat} {f : Addr} {fd : FuncData} {ps : List Str} {sp : Sp}
    (F : FnOk P w K mg base CX k f fd ps sp) : FnG P w K mg base CX k f fd ps sp := ⟨F.len, fun A outer s H args us vs Q E _ => F.run A outer s H args us vs Q E⟩

section
variable {P : Program} {w : World} {K : PySem.W.Frag} {mg : Str → Option Value} {base : Heap}
/-- a def by its body, where no guard stands -/
theorem Fun.okG {x qual : Str} {st : Stmt} {f : Addr} {fd : FuncData} {N ps : List Str} {k : Nat} {sp : Sp} (F : Fun K x qual st f fd) (S : FnScope N ps (defScope st)) (len : ∀ vs H Q E, sp vs H Q E → vs.length = ps.length)
    (body : ∀ (cdv : Value) (A : Around) (outer : List Env) (s : Shared) (H : Hp) (vs : List V) (Q : VK) (E : XK), A.guards = some [] → Room k (A.deeper (envOfC qual (defScope st) s.heap.objs.size f cdv)) → sp vs H Q E →
      ∃ t, PSs (cxOf CX0 P w K mg base N qual (defScope st) f cdv A outer s H E).nox (defBody st) t ∧ t { nx := fun _ H' => Q .non H', rt := Q } (start N vs) H) :
    FnG P w K mg base CX0 (k + 1) f fd ps sp := by
  rcases F.ex with ⟨oc, od, kV, doc, pm, an, cdv, ct, osl, rfl, lk, hcd⟩
  refine ⟨len, fun A outer s H args us vs Q E hg hr e0 hb r hs => ?_⟩
  have here : ∀ b o, base.get? b = some o → s.heap.get? b = some o := fun b o e => (e0.bs b o e).1
  have X : K.In s.heap := e0.mod.kin.keeps here
  have kinds : ∀ y ∈ ps.zip us, (defScope st).names.lookup y.1 = some .local ∨
      ((defScope st).names.lookup y.1 = some .cell ∧ ((cellsFrom (s.heap.objs.size + 1) (defScope st).names []).lookup y.1).isSome = true) := by
    rintro ⟨n, v⟩ hy
    exact (S.par n (List.of_mem_zip hy).1).imp id fun q => ⟨q, PySem.W.cellsFrom_some _ _ _ (.inl q)⟩
  refine codeAny_call_function hr.depth (X _ _ lk) (by rfl) S.co S.gen (by rfl) (PySem.W.codeRec_of X hcd) (hb _ _ _ _ ?_)
  refine wpAny_newFunctionEnv_cells S.kind kinds (fun env he s1 x => ?_)
  cases he
  obtain ⟨t, ht, q⟩ := body cdv A outer s H vs Q E hg (hr.deeper _) hs
  have I := inv_start (CX := CX0) (P := P) (w := w) (K := K) (mg := mg) (base := base) (E := E) S hr.hd e0 (len _ _ _ _ hs) r x
  refine ⟨(e0.mod.nolimit.keeps here).keeps x.toInCall.keep, codeAny_func (wpAny_mono (ht.nox.run [] s1 _ H _ I q) (fun fl s' z => ?_) fun _ _ z => z)⟩
  match fl, z with
  | .ret u, ⟨v, σ', H', J, rv, q'⟩ => exact ⟨v, H', J.os, J.bare, J.base, J.hok, rv, q'⟩
  | .next, ⟨σ', H', J, q'⟩ => exact ⟨V.non, H', J.os, J.bare, J.base, J.hok, rfl, q'⟩
  | .brk, ⟨_, _, _, q'⟩ => exact False.elim q'
  | .cont, ⟨_, _, _, q'⟩ => exact False.elim q'
end

/-- the script alone, as it is tracked ahead of the law's call -/
def scriptHp (a : Addr) (vs : List Value) (ns : List Int) : Hp := fun b => if b = a then some (.frz { cls := .type "list", data := .seq vs.toArray } (.lst (ns.map V.int))) else none

/-- the law's own call, by what its def promises of the script -/
theorem lawG {P : Program} {w : World} {K : PySem.W.Frag} {mg mb : Str → Option Value} {k : Nat} {fa a : Addr} {fd : FuncData} {x : Str} {sp : Sp} {s₁ : Shared} {vs : List Value} {ns : List Int}
    (KX : K.In s₁.heap) (hns : s₁.heap.Ns mainGlobals mg) (hb : s₁.heap.Ns builtinsNs mb) (hbb : ∀ x : Str, x ≠ "__name__" → mb x = bootBuiltins x) (hlim : s₁.heap.NoLimit) (hgen : s₁.gens = #[])
    (ha : s₁.heap.get? a = some { cls := .type "list", data := .seq vs.toArray }) (hi : IntsAre vs ns) (hl : ns.length ≤ sizeLine) (hr : Room k PySem.callerA)
    (F : ∀ base : Heap, K.In base → base.Ns mainGlobals mg → FnG P w K mg base CX0 k fa fd [x] sp) (hbind : ∀ (s : Shared) (u : Value), BindsTo s fd ⟨[u], []⟩ [(x, u)])
    (hsp : ∀ H : Hp, Only H → SqL K H a (ns.map V.int) → sp [.ref a] H (fun v _ => v = .bl true) fun _ _ _ => False) :
    codeAny (model P w) PySem.callerA (.call (.ref fa) ⟨[.ref a], []⟩) (fun r s' => r = .ok (.ret (.bool true)) ∧ OldK s₁.heap s'.heap ∧ s'.os = s₁.os ∧ AllBare s'.gens) s₁ := by
  -- which heap is told of: the script's alone, nothing where the module has it
  suffices main : ∀ H : Hp, Only H → SqL K H a (ns.map V.int) → HOk P w H s₁.heap → (∀ b u, H b = some u → b = a ∧ K.lookup b = none) →
      codeAny (model P w) PySem.callerA (.call (.ref fa) ⟨[.ref a], []⟩) (fun r s' => r = .ok (.ret (.bool true)) ∧ OldK s₁.heap s'.heap ∧ s'.os = s₁.os ∧ AllBare s'.gens) s₁ by
    cases e : K.lookup a with
    | some o =>
      have e' := KX a o e
      rw [ha] at e'
      cases e'
      have few : vs.toArray.size ≤ sizeLine := by
        rw [List.size_toArray]
        exact hi.length ▸ hl
      exact main (fun _ => none) (fun _ => .inl rfl) (.inr ⟨_, vs.toArray, _, e, rfl, rfl, rfl, few, by simpa using vals_ints hi⟩) (fun b u z => nomatch z) fun b u z => nomatch z
    | none =>
      have at_a : scriptHp a vs ns a = some (.frz { cls := .type "list", data := .seq vs.toArray } (.lst (ns.map V.int))) := if_pos rfl
      have else_ : ∀ b u, scriptHp a vs ns b = some u → b = a := fun b u z => Classical.byContradiction fun n => by
        rw [show scriptHp a vs ns b = none from if_neg n] at z
        cases z
      refine main (scriptHp a vs ns) (fun b => ?_) (.inl (.inr ⟨_, at_a⟩)) (fun b u z => ?_) fun b u z => ?_
      · by_cases n : b = a
        · exact .inr ⟨_, _, by rw [n]; exact at_a⟩
        · exact .inl (if_neg n)
      · cases else_ b u z
        rw [at_a] at z
        cases z
        exact ⟨ha, by rw [List.length_map]; exact hl, vs, _, vals_ints hi, ha⟩
      · cases else_ b u z
        exact ⟨rfl, e⟩
  intro H hO hS hok hA
  have low : ∀ {b : Addr} {o : Obj}, s₁.heap.get? b = some o → H b = none → (hidT s₁.heap H).get? b = some o := hidT_get
  have nsLow : ∀ {b : Addr} {m : Str → Option Value}, s₁.heap.Ns b m → (hidT s₁.heap H).Ns b m := fun {b m} ⟨o, es, ep, e, d, r⟩ => by
    refine ⟨o, es, ep, low e ?_, d, r⟩
    cases q : H b with
    | none => rfl
    | some u =>
      obtain ⟨rfl, _⟩ := hA b u q
      rw [ha] at e
      cases e
      exact nomatch d
  have kLow : K.In (hidT s₁.heap H) := fun b o e => low (KX b o e) (by
    cases q : H b with
    | none => rfl
    | some u =>
      rw [(hA b u q).2] at e
      cases e)
  obtain ⟨mc, l1, l2⟩ := hlim
  have e0 : Env0 P w K mg (hidT s₁.heap H) PySem.callerA [] s₁ H :=
    ⟨by rfl, ⟨kLow, nsLow hns, ⟨mb, nsLow hb, hbb⟩, mc, nsLow l1, l2⟩, fun b o e => of_hidT e, Nat.le_of_eq (hidT_size _ _), trivial, fun b z => (by simpa [frs] using z : False).elim, hok, .of_eq hgen⟩
  refine codeAny_mono ((F _ kLow (nsLow hns)).run PySem.callerA [] s₁ H ⟨[.ref a], []⟩ [.ref a] [.ref a] _ _ (by rfl) hr e0 (hbind s₁ (.ref a)) (.cons rfl .nil) (hsp H hO hS)) fun r s' h => ?_
  match r, h with
  | .error _, h => exact False.elim h
  | .ok .next, h => exact False.elim h
  | .ok .brk, h => exact False.elim h
  | .ok .cont, h => exact False.elim h
  | .ok (.ret u), ⟨v, H', os, bare, un, hok', r', q⟩ =>
    cases (show v = V.bl true from q)
    cases (show u = Value.bool true from r')
    refine ⟨rfl, OldK.of_keep fun b o e => (?_), os, bare⟩
    rcases (hO b) with z | ⟨ob, xs, z⟩
    · exact un.keep b o e z (fun m => (by simpa [frs] using m : False).elim) fun m => (by simpa using m : False).elim
    · have e1 := (hok b _ z).1
      rw [e] at e1
      cases e1
      exact (hok' b _ (un.frzs b _ _ z)).1

/-- the goal that the head leaves, from the law's promise -/
theorem walkG {l : PySem.W.OpenLaw} {n k : Nat} {q : Program} {loose : List Str} {XP : (Str → Option Value) → Heap → Prop} {YP : World → Heap → Prop} {d : PySem.DefRec} {K : Params → PySem.W.Frag} {sp : PySem.W.Frag → Sp} {x : Str}
    (hn : l.most = some n) (hn2 : n ≤ sizeLine) (hdf : d.params.defaults = []) (hr : Room k PySem.callerA) (hY : ∀ (w : World) (h : Heap), YP w h → (K w.params).In h)
    (F : ∀ (w : World) (mg : Str → Option Value) (fa : Addr) (h : Heap), (K w.params).In h → h.Ns mainGlobals mg → mg d.name = some (.ref fa) →
      ∃ fd : FuncData, (∀ (s : Shared) (u : Value), BindsTo s fd ⟨[u], []⟩ [(x, u)]) ∧ ∀ base : Heap, (K w.params).In base → base.Ns mainGlobals mg → FnG l.prog w (K w.params) mg base CX0 k fa fd [x] (sp (K w.params)))
    (hsp : ∀ (K : PySem.W.Frag) (H : Hp) (a : Addr) (ns : List Int), ns.length ≤ n → Only H → SqL K H a (ns.map V.int) → sp K [.ref a] H (fun v _ => v = .bl true) fun _ _ _ => False) :
    PySem.W.WalkO q loose XP YP l.row.toRowW d [] fun f vs => PySem.call f vs := by
  refine Att.attach_call hn hdf fun w s₀ s₁ mg mb fa o pm cd doc a vs ns G Y _ _ _ hmg hobj hints hlen hg => ?_
  obtain ⟨fd, hb, hF⟩ := F w mg fa _ (hY w _ Y) G.T.g hmg
  exact lawG (hY w _ Y) G.T.g G.T.b G.T.builtins G.T.nolimit hg hobj hints (Nat.le_trans hlen hn2) hr hF hb fun H hO hS => hsp (K w.params) H a ns hlen hO hS
end L2

set_option maxRecDepth 100000
set_option maxHeartbeats 3900000
namespace K
open PySem PySem.Spec PyProof.Rows L2
def topS (i : Nat) : Stmt := PySem.Challenge.pw_withinall_k08_refusals_made.main.body.getD i (.Pass ⟨0, 0, 0, 0⟩)
abbrev sTape : Stmt := topS 7
abbrev sDraw : Stmt := topS 8
abbrev sPick : Stmt := topS 9
/-! ### the tape -/
/-- at t the tape of the draws: [own, cell, count], at most n counted -/
def Tp (H : Hp) (t : Addr) (n : Nat) : Prop := ∃ a b c : Int, H t = some (.lst [.int a, .int b, .int c]) ∧ 0 ≤ c ∧ c ≤ (n : Int)
/-- all but t as it was -/
def But (t : Addr) (H H' : Hp) : Prop := ∀ x o, H x = some o → x ≠ t → H' x = some o
theorem But.refl {t : Addr} {H : Hp} : But t H H := fun _ _ h _ => h
theorem But.trans {t : Addr} {H H1 H2 : Hp} (a : But t H H1) (b : But t H1 H2) : But t H H2 := fun x o h n => b x o (a x o h n) n
theorem But.new {t p : Addr} {H : Hp} {o : HO} (h : H p = none) : But t H (upd H p o) := fun x u e _ => by
  rw [upd_ne (ne_of_none e h)]
  exact e
theorem But.set {t : Addr} {H : Hp} {o : HO} : But t H (upd H t o) := fun x u e n => by
  rw [upd_ne n]
  exact e
theorem But.seq {K : PySem.W.Frag} {t a : Addr} {H H' : Hp} {xs : List V} (b : But t H H') (h : SqL K H a xs) (n : a ≠ t) : SqL K H' a xs := by
  rcases h with (⟨h⟩ | ⟨o, h⟩) | ⟨h⟩
  · exact .inl (.inl (b _ _ h n))
  · exact .inl (.inr ⟨o, b _ _ h n⟩)
  · exact .inr h
theorem same_new {H : Hp} {p : Addr} {o : HO} (h : H p = none) : Same H (upd H p o) := fun b x e => by
  rw [upd_ne (ne_of_none e h)]
  exact e
def primes : List Int := [2147483489, 2147483477, 2147483423, 2147483399, 2147483353, 2147483323, 2147483269, 2147483249]
theorem prime_at {i : Int} (h0 : 0 ≤ i) (h1 : i < 8) : ∃ q : Int, atI (primes.map V.int) i = some (.int q) ∧ 0 < q ∧ q < 2147483648 := by
  have : i = 0 ∨ i = 1 ∨ i = 2 ∨ i = 3 ∨ i = 4 ∨ i = 5 ∨ i = 6 ∨ i = 7 := by omega
  rcases this with rfl | rfl | rfl | rfl | rfl | rfl | rfl | rfl
  · exact ⟨2147483489, atI_nat (j := 0) rfl, by decide, by decide⟩
  · exact ⟨2147483477, atI_nat (j := 1) rfl, by decide, by decide⟩
  · exact ⟨2147483423, atI_nat (j := 2) rfl, by decide, by decide⟩
  · exact ⟨2147483399, atI_nat (j := 3) rfl, by decide, by decide⟩
  · exact ⟨2147483353, atI_nat (j := 4) rfl, by decide, by decide⟩
  · exact ⟨2147483323, atI_nat (j := 5) rfl, by decide, by decide⟩
  · exact ⟨2147483269, atI_nat (j := 6) rfl, by decide, by decide⟩
  · exact ⟨2147483249, atI_nat (j := 7) rfl, by decide, by decide⟩
section
variable {P : Program} {w : World} {K : PySem.W.Frag} {mg : Str → Option Value} {base : Heap}
def spTape (K : PySem.W.Frag) : Sp := fun vs H Q _ => ∃ (a : Addr) (ns : List Int) (k : Nat), vs = [.ref a, .int (k : Int)] ∧ SqL K H a (ns.map V.int) ∧ ns.length ≤ 63 ∧ k < 1000 ∧
  ∀ (p : Addr) (H' : Hp), Same H H' → H p = none → Tp H' p 0 → Q (.ref p) H'
theorem scT : FnScope ["script", "k", "cell", "own"] ["script", "k"] (defScope sTape) := ⟨rfl, rfl, rfl, by decide +kernel, rfl, by decide +kernel, by decide +kernel⟩
theorem ok_tape {f : Addr} {fd : FuncData} (F : Fun K "_law_tape" "_law_tape" sTape f fd) (ml : mg "len" = none) : FnOk P w K mg base CX0 1 f fd ["script", "k"] (spTape K) := by
  refine F.ok scT (fun vs H Q E h => ?_) (fun cdv A outer s H vs Q E hr h => ?_)
  · obtain ⟨a, ns, k, rfl, _⟩ := h
    rfl
  · obtain ⟨a, ns, k, rfl, hS, hl, hk, q⟩ := h
    refine ⟨_, pss_cons (ps_set (i := 2) scT.nd rfl (.inl rfl) (pe_op op_add (pe_op op_mul pe_int (pv 1)) pe_int))
      (pss_cons (ps_if (pt_cmpR op_lt (pv 1) (pe_callB call_len_seq (by rfl) ml PySem.boot_len (pa_cons (pv 0) pa_nil)) (nomark _)) (pss_one (ps_set (i := 2) scT.nd rfl (.inl rfl) (pe_ix ix_list (pv 0) (pv 1) (fun _ _ => rfl)))) pss_nil)
      (pss_cons (ps_set (i := 3) scT.nd rfl (.inl rfl) pe_int)
      (pss_cons (ps_if (pt_cmpR op_ge (pv 2) (pe_op op_pow pe_int pe_int) (nomark _)) (pss_one (ps_set (i := 3) scT.nd rfl (.inl rfl) (pe_op op_sub (pv 2) (pe_op op_pow pe_int pe_int)))) pss_nil)
      (pss_one (ps_ret (pe_lst (pa_cons (pv 3) (pa_cons (pe_op op_add (pe_op op_modN (pv 2) pe_int) (pe_op op_mul pe_int (pv 1))) (pa_cons pe_int pa_nil))))))))), ?_⟩
    -- behind the first if: the cell is any number
    have tail : ∀ c : Int, ∀ D : Ends, D.rt = Q → (tSeq (tAsg (tC (.int 0)) (gName 3)) (tSeq (tIfS (tTest (tOp (rI0 fun i j => .bl (decide (j ≤ i))) (tVar 2) (tOp (rI CPow fun i j => .int (i ^ j.toNat)) (tC (.int 10)) (tC (.int 18)))))
        (tAsg (tOp (rI0 fun i j => .int (i - j)) (tVar 2) (tOp (rI CPow fun i j => .int (i ^ j.toNat)) (tC (.int 10)) (tC (.int 18)))) (gName 3)) tNext)
        (tRet (tLst (tCons (tVar 3) (tCons (tOp (rI0 fun i j => .int (i + j)) (tOp (rI (fun _ j => j ≠ 0) fun i j => .int (i.fmod j)) (tVar 2) (tC (.int 4611686018427387847))) (tOp (rI CMul fun i j => .int (i * j)) (tC (.int 59)) (tVar 1))) (tCons (tC (.int 0)) tNil))))))) D [some (.ref a), some (.int (k : Int)), some (.int c), none] H := by
      intro c D hD
      have fin : ∀ own : Int, (tRet (tLst (tCons (tVar 3) (tCons (tOp (rI0 fun i j => .int (i + j)) (tOp (rI (fun _ j => j ≠ 0) fun i j => .int (i.fmod j)) (tVar 2) (tC (.int 4611686018427387847))) (tOp (rI CMul fun i j => .int (i * j)) (tC (.int 59)) (tVar 1))) (tCons (tC (.int 0)) tNil))))) D [some (.ref a), some (.int (k : Int)), some (.int c), some (.int own)] H := by
        intro own
        refine ⟨_, rfl, _, rfl, _, _, rfl, rfl, (by show (4611686018427387847 : Int) ≠ 0; decide), _, rfl, _, _, rfl, rfl, .inl ⟨by decide, by decide⟩, _, _, rfl, rfl, (by show 3 ≤ sizeLine; decide), fun p hp => ?_⟩
        rw [hD]
        exact q p _ (same_new hp) hp ⟨_, _, _, upd_same, Int.le_refl _, Int.le_refl _⟩
      refine ⟨_, rfl, _, _, rfl, rfl, ⟨by decide, by decide, by decide⟩, _, _, rfl, rfl, _, rfl, ?_⟩
      refine ite2 (fun _ => ?_) (fun _ => ?_)
      · exact ⟨_, rfl, _, _, rfl, rfl, ⟨by decide, by decide, by decide⟩, _, _, rfl, rfl, fin _⟩
      · exact fin 0
    refine ⟨_, rfl, _, _, rfl, rfl, .inl ⟨by decide, by decide⟩, _, _, rfl, rfl, ?_⟩
    refine ⟨_, rfl, _, rfl, a, _, rfl, .inl hS, _, _, rfl, rfl, _, rfl, ?_⟩
    refine ite2 (fun hlt => ?_) (fun _ => ?_)
    · have hlt' : k < ns.length := by
        have := of_decide_eq_true hlt
        simp only [List.length_map] at this
        omega
      have g : (ns.map V.int)[k]? = some (.int ns[k]) := by
        rw [List.getElem?_map, List.getElem?_eq_getElem hlt']
        rfl
      refine ⟨_, rfl, _, rfl, a, _, _, _, rfl, rfl, hS, atI_nat g, ?_⟩
      exact tail _ _ rfl
    · exact tail _ _ rfl

/-! ### a draw -/
def spDraw : Sp := fun vs H Q _ => ∃ (t : Addr) (n : Nat) (m : Int), vs = [.ref t, .int m] ∧ Tp H t n ∧ n < 1000000 ∧ 0 < m ∧ m < 1073741824 ∧
  ∀ (r : Int) (H' : Hp), 0 ≤ r → r < m → Tp H' t (n + 1) → But t H H' → Q (.int r) H'
theorem scD : FnScope ["tape", "many", "digit", "primes", "prime", "first", "second"] ["tape", "many"] (defScope sDraw) := ⟨rfl, rfl, rfl, by decide +kernel, rfl, by decide +kernel, by decide +kernel⟩
theorem ok_draw {f : Addr} {fd : FuncData} (F : Fun K "_law_draw" "_law_draw" sDraw f fd) : FnOk P w K mg base CX0 1 f fd ["tape", "many"] spDraw := by
  refine F.ok scD (fun vs H Q E h => ?_) (fun cdv A outer s H vs Q E hr h => ?_)
  · obtain ⟨t, n, m, rfl, _⟩ := h
    rfl
  · obtain ⟨t, n, m, rfl, ⟨a, b, c, hT, c0, c1⟩, hn, m0, m1, q⟩ := h
    have px : ∀ _ _, _ = _ := fun (_ _ : Nat) => (rfl : (0:Nat) = 0)
    refine ⟨_, pss_cons (ps_if (pt_cmpR op_ge (pe_ix ix_list (pv 0) pe_int (fun _ _ => rfl)) (pv 1) (nomark _))
        (pss_cons (ps_set (i := 2) scD.nd rfl (.inl rfl) (pe_op op_mod (pe_ix ix_list (pv 0) pe_int (fun _ _ => rfl)) (pv 1)))
        (pss_cons (ps_asg (pe_op op_fdivN (pe_ix ix_list (pv 0) pe_int (fun _ _ => rfl)) (pv 1)) (pg_sub (pv 0) pe_int set_list))
        (pss_one (ps_ret (pv 2))))) pss_nil)
      (pss_cons (ps_asg (pe_op op_add (pe_ix ix_list (pv 0) pe_int (fun _ _ => rfl)) pe_int) (pg_sub (pv 0) pe_int set_list))
      (pss_cons (ps_set (i := 3) scD.nd rfl (.inl rfl) (pe_lst (pa_cons pe_int (pa_cons pe_int (pa_cons pe_int (pa_cons pe_int (pa_cons pe_int (pa_cons pe_int (pa_cons pe_int (pa_cons pe_int pa_nil)))))))))) 
      (pss_cons (ps_set (i := 4) scD.nd rfl (.inl rfl) (pe_ix ix_list (pv 3) (pe_op op_mod (pe_ix ix_list (pv 0) pe_int (fun _ _ => rfl)) pe_int) (fun _ _ => rfl)))
      (pss_cons (ps_set (i := 5) scD.nd rfl (.inl rfl) (pe_op op_add (pe_op op_mul (pe_op op_mod (pe_ix ix_list (pv 0) pe_int (fun _ _ => rfl)) (pv 4)) (pe_op op_add (pe_op op_mul pe_int (pe_ix ix_list (pv 0) pe_int (fun _ _ => rfl))) pe_int)) (pe_op op_mul pe_int (pe_ix ix_list (pv 0) pe_int (fun _ _ => rfl)))))
      (pss_cons (ps_set (i := 5) scD.nd rfl (.inl rfl) (pe_op op_mod (pe_op op_pow (pv 5) pe_int) (pv 4)))
      (pss_cons (ps_set (i := 6) scD.nd rfl (.inl rfl) (pe_op op_add (pe_op op_add (pe_op op_mul (pv 5) (pv 5)) (pe_op op_mod (pe_ix ix_list (pv 0) pe_int (fun _ _ => rfl)) pe_int)) (pe_ix ix_list (pv 0) pe_int (fun _ _ => rfl))))
      (pss_one (ps_ret (pe_op op_mod (pe_op op_fdivN (pe_op op_mod (pe_op op_pow (pv 6) pe_int) (pe_ix ix_list (pv 3) (pe_op op_mod (pe_op op_add (pe_ix ix_list (pv 0) pe_int (fun _ _ => rfl)) pe_int) pe_int) (fun _ _ => rfl))) pe_int) (pv 1)))))))))), ?_⟩
    have at0 : ∀ x y z : V, atI [x, y, z] (0 : Int) = some x := fun x y z => atI_nat (j := 0) rfl
    have at1 : ∀ x y z : V, atI [x, y, z] (1 : Int) = some y := fun x y z => atI_nat (j := 1) rfl
    have at2 : ∀ x y z : V, atI [x, y, z] (2 : Int) = some z := fun x y z => atI_nat (j := 2) rfl
    refine ⟨_, rfl, t, _, 0, _, rfl, rfl, SqL.of hT, at0 _ _ _, _, rfl, a, m, rfl, rfl, _, rfl, ?_⟩
    refine ite2 (fun _ => ?_) (fun _ => ?_)
    · refine ⟨_, rfl, t, _, 0, _, rfl, rfl, SqL.of hT, at0 _ _ _, _, rfl, a, m, rfl, rfl, m0, ?_⟩
      refine ⟨_, rfl, t, _, 0, _, rfl, rfl, SqL.of hT, at0 _ _ _, _, rfl, a, m, rfl, rfl, ⟨by omega, by omega⟩, ?_⟩
      refine ⟨_, rfl, t, _, 0, 0, rfl, rfl, hT, rfl, ?_⟩
      refine ⟨_, rfl, ?_⟩
      exact q _ _ (Int.emod_nonneg _ (by omega)) (Int.emod_lt_of_pos _ m0) ⟨_, _, _, upd_same, c0, by omega⟩ .set
    · -- tape[2] = tape[2] + 1
      refine ⟨_, rfl, t, _, 2, _, rfl, rfl, SqL.of hT, at2 _ _ _, _, _, rfl, rfl, ?_⟩
      refine ⟨_, rfl, t, _, 2, 2, rfl, rfl, hT, rfl, ?_⟩
      -- primes
      refine ⟨(by show 8 ≤ sizeLine; decide), fun p hp => ?_⟩
      have tp : t ≠ p := ne_of_none (show (upd H t (.lst [.int a, .int b, .int (c + 1)])) t = some (.lst [.int a, .int b, .int (c + 1)]) from upd_same) hp
      have hT2 : (upd (upd H t (.lst [.int a, .int b, .int (c + 1)])) p (.lst (primes.map V.int))) t = some (.lst [.int a, .int b, .int (c + 1)]) := by
        rw [upd_ne tp, upd_same]
      have hP : (upd (upd H t (.lst [.int a, .int b, .int (c + 1)])) p (.lst (primes.map V.int))) p = some (.lst (primes.map V.int)) := upd_same
      have hB : But t H (upd (upd H t (.lst [.int a, .int b, .int (c + 1)])) p (.lst (primes.map V.int))) := But.set.trans (.new hp)
      show (tSeq _ _) _ _ (upd (upd H t (.lst [.int a, .int b, .int (c + 1)])) p (.lst (primes.map V.int)))
      revert hT2 hP hB
      generalize (upd (upd H t (.lst [.int a, .int b, .int (c + 1)])) p (.lst (primes.map V.int))) = H2
      intro hT2 hP hB
      obtain ⟨q1, a1, p1, l1⟩ := prime_at (i := (c + 1) % 8) (Int.emod_nonneg _ (by decide)) (Int.emod_lt_of_pos _ (by decide))
      obtain ⟨q2, a2, p2, l2⟩ := prime_at (i := (c + 1 + 3) % 8) (Int.emod_nonneg _ (by decide)) (Int.emod_lt_of_pos _ (by decide))
      refine ⟨_, rfl, _, rfl, t, _, 2, _, rfl, rfl, SqL.of hT2, at2 _ _ _, _, _, rfl, rfl, (by show (0 : Int) < 8; decide), p, _, _, _, rfl, rfl, SqL.of hP, a1, ?_⟩
      have x0 : 0 ≤ b % q1 := Int.emod_nonneg _ (by omega)
      have x1 : b % q1 < q1 := Int.emod_lt_of_pos _ p1
      have e1 : 0 ≤ b % q1 * (2 * (c + 1) + 7) := Int.mul_nonneg x0 (by omega)
      have e2 : b % q1 * (2 * (c + 1) + 7) ≤ 2147483648 * 3000000 := Int.mul_le_mul (by omega) (by omega) (by omega) (by decide)
      -- first
      refine ⟨_, rfl, t, _, 1, _, rfl, rfl, SqL.of hT2, at1 _ _ _, _, rfl, _, _, rfl, rfl, p1, _, rfl, t, _, 2, _, rfl, rfl, SqL.of hT2, at2 _ _ _, _, _, rfl, rfl, .inl ⟨by decide, by decide⟩, _, _, rfl, rfl, _, _, rfl, rfl, .inl ⟨by omega, by omega⟩,
        _, rfl, t, _, 2, _, rfl, rfl, SqL.of hT2, at2 _ _ _, _, _, rfl, rfl, .inl ⟨by decide, by decide⟩, _, _, rfl, rfl, ?_⟩
      refine ⟨_, rfl, _, _, rfl, rfl, ⟨by decide, by decide, by omega⟩, _, rfl, _, _, rfl, rfl, p1, ?_⟩
      generalize (b % q1 * (2 * (c + 1) + 7) + 7001 * (c + 1)) ^ (3 : Int).toNat = y
      have y0 : 0 ≤ y % q1 := Int.emod_nonneg _ (by omega)
      have y1 : y % q1 < q1 := Int.emod_lt_of_pos _ p1
      have f1 : 0 ≤ y % q1 * (y % q1) := Int.mul_nonneg y0 y0
      have f2 : y % q1 * (y % q1) ≤ 2147483648 * 2147483648 := Int.mul_le_mul (by omega) (by omega) y0 (by decide)
      have z0 : 0 ≤ b % 1000033 := Int.emod_nonneg _ (by decide)
      have z1 : b % 1000033 < 1000033 := Int.emod_lt_of_pos _ (by decide)
      -- second
      refine ⟨_, rfl, _, rfl, _, _, rfl, rfl, .inl ⟨by omega, by omega⟩, _, rfl, t, _, 1, _, rfl, rfl, SqL.of hT2, at1 _ _ _, _, _, rfl, rfl, (by show (0 : Int) < 1000033; decide), _, _, rfl, rfl, _, rfl, t, _, 2, _, rfl, rfl, SqL.of hT2, at2 _ _ _, _, _, rfl, rfl, ?_⟩
      -- return
      refine ⟨_, rfl, _, _, rfl, rfl, ⟨by decide, by decide, by omega⟩, _, rfl, _, rfl, t, _, 2, _, rfl, rfl, SqL.of hT2, at2 _ _ _, _, _, rfl, rfl, _, _, rfl, rfl, (by show (0 : Int) < 8; decide), p, _, _, _, rfl, rfl, SqL.of hP, a2, _, _, rfl, rfl, p2, _, _, rfl, rfl, ⟨by decide, by decide⟩, _, rfl, _, _, rfl, rfl, m0, ?_⟩
      exact q _ _ (Int.emod_nonneg _ (by omega)) (Int.emod_lt_of_pos _ m0) ⟨_, _, _, hT2, by omega, by omega⟩ hB
end
end K

set_option maxRecDepth 100000
set_option maxHeartbeats 3900000
/-! The things that a law draws: their data, their texts' sizes. -/
namespace K
open PySem PySem.Spec PyProof.Rows L2
theorem textFrom_le : ∀ (ts : List Str) (k : Nat) (acc : Str), (textFrom k acc ts).length ≤ acc.length + (ts.map (·.length)).sum + 2 * ts.length
  | [], k, acc => by
    show acc.length ≤ _
    omega
  | t :: r, k, acc => by
    have h := textFrom_le r (k + 1) (acc ++ (if k > 0 then ", " else "" : String) ++ t)
    have e : (acc ++ (if k > 0 then ", " else "" : String) ++ t).length ≤ acc.length + 2 + t.length := by
      rw [strLen_append]
      rw [strLen_append]
      have : (Str.ofString (if k > 0 then ", " else "" : String)).length ≤ 2 := by
        by_cases hk : k > 0
        · rw [if_pos hk]; decide
        · rw [if_neg hk]; decide
      omega
    show (textFrom (k + 1) (acc ++ (if k > 0 then ", " else "" : String) ++ t) r).length ≤ _
    simp only [List.sum_cons, List.length_cons, List.map_cons]
    omega
theorem listText_le (ts : List Str) : (listText ts).length ≤ 2 + (ts.map (·.length)).sum + 2 * ts.length := by
  unfold listText
  rw [strLen_append]
  have h := textFrom_le ts 0 "["
  have e1 : (("[" : String) : Str).length = 1 := rfl
  have e2 : (("]" : String) : Str).length = 1 := rfl
  omega
theorem piled_eq : ∀ ts : List Str, piled ts = (ts.map (·.length)).sum + 2 * ts.length
  | [] => rfl
  | t :: r => by
    have := piled_eq r
    simp only [piled, List.map_cons, List.sum_cons, List.length_cons] at *
    omega
theorem tupleText_le (ts : List Str) : (tupleText ts).length ≤ 4 + (ts.map (·.length)).sum + 2 * ts.length := by
  unfold tupleText
  rw [strLen_append]
  rw [strLen_append]
  have e1 : (("(" : String) : Str).length = 1 := rfl
  have e2 : (Str.ofString (if ts.length == 1 then ",)" else ")" : String)).length ≤ 2 := by
    split <;> decide
  have e3 : (Str.join ", " ts).length ≤ (ts.map (·.length)).sum + 2 * ts.length := by
    by_cases h : ts = []
    · subst h
      decide
    · have h2 := join_length_add ts h
      rw [piled_eq] at h2
      omega
  omega

/-- flat things -/
inductive Fl : V → PyData → Prop
  | int {i : Int} (h : i.natAbs < 10 ^ 60) : Fl (.int i) (.int i)
  | bl (b : Bool) : Fl (.bl b) (.bool b)
  | non : Fl .non .none
  | str (x : Str) (h : (reprText x).length ≤ 20) : Fl (.str x) (.str x)
theorem Fl.dp {K : PySem.W.Frag} {H : Hp} {v : V} {d : PyData} (h : Fl v d) : Dp K H v d := by
  cases h with
  | int h => exact .int _
  | bl b => exact .bl b
  | non => exact .non
  | str x h => exact .str x
theorem Fl.len {v : V} {d : PyData} (h : Fl v d) : d.shown.length ≤ 61 := by
  cases h with
  | int h =>
    rename_i i
    simp only [PyData.shown]
    rw [PySem.ofString_length]
    exact int_text_length_le10 (by decide) h
  | bl b =>
    simp only [PyData.shown]
    cases b <;> decide
  | non => simp only [PyData.shown]; decide
  | str x h => simp only [PyData.shown]; omega
theorem Fl.show {v : V} {d : PyData} (h : Fl v d) : d.showable = true := by
  cases h with
  | int h =>
    rename_i i
    rw [PyData.showable, decide_eq_true_eq]
    by_cases h0 : i.natAbs = 0
    · rw [h0]; decide
    · rw [Nat.log2_lt h0]
      exact Nat.lt_of_lt_of_le h (by decide)
  | bl b => rfl
  | non => rfl
  | str x h => rfl
theorem Fl.nod {v : V} {d : PyData} (h : Fl v d) : d.hasDict = false := by cases h <;> rfl
theorem Fl.dep {v : V} {d : PyData} (h : Fl v d) : d.depth = 0 := by cases h <;> rfl
theorem fls_dp {K : PySem.W.Frag} {H : Hp} : ∀ {xs : List V} {ds : List PyData}, Paired Fl xs ds → DpAll K H xs ds
  | _, _, .nil => .nil
  | _, _, .cons h t => .cons h.dp (fls_dp t)
theorem fls_show : ∀ {xs : List V} {ds : List PyData}, Paired Fl xs ds → PyData.showableAll ds = true ∧ PyData.hasDictAll ds = false ∧ PyData.depthAll ds = 0 ∧ ((PyData.shownAll ds).map (·.length)).sum ≤ 61 * xs.length ∧ (PyData.shownAll ds).length = xs.length
  | _, _, .nil => ⟨rfl, rfl, rfl, Nat.le_refl _, rfl⟩
  | _, _, .cons h t => by
    obtain ⟨h1, h2, h3, h4, h5⟩ := fls_show t
    have := h.len
    refine ⟨by simp [PyData.showableAll, h.show, h1], by simp [PyData.hasDictAll, h.nod, h2], by simp [PyData.depthAll, h.dep, h3], ?_, by simp [PyData.shownAll, h5]⟩
    simp only [PyData.shownAll, List.map_cons, List.sum_cons, List.length_cons]
    omega
/-- a drawn thing -/
inductive Th (H : Hp) : V → PyData → Prop
  | flat {v : V} {d : PyData} (h : Fl v d) : Th H v d
  | tup {a : Addr} {xs : List V} {ds : List PyData} (e : H a = some (.tup xs)) (h : Paired Fl xs ds) (l : xs.length ≤ 2) : Th H (.ref a) (.tuple ds)
  | lst {a : Addr} {xs : List V} {ds : List PyData} (e : H a = some (.lst xs)) (h : Paired Fl xs ds) (l : xs.length ≤ 2) : Th H (.ref a) (.list ds)
  | emp {a : Addr} (e : H a = some (.dK [])) : Th H (.ref a) (.dict [])
theorem Th.same {H H' : Hp} {v : V} {d : PyData} (h : Th H v d) (s : Same H H') : Th H' v d := by
  cases h with
  | flat h => exact .flat h
  | tup e h l => exact .tup (s _ _ e) h l
  | lst e h l => exact .lst (s _ _ e) h l
  | emp e => exact .emp (s _ _ e)
theorem Th.dq {K : PySem.W.Frag} {H : Hp} {v : V} {d : PyData} (h : Th H v d) : Dq K H v d := by
  cases h with
  | flat h => exact .data h.dp h.nod
  | tup e h l => exact .data (.tup (.of e) (fls_dp h)) (by simp [PyData.hasDict, (fls_show h).2.1])
  | lst e h l => exact .data (.lst (.of e) (fls_dp h)) (by simp [PyData.hasDict, (fls_show h).2.1])
  | emp e => exact .emp e
theorem Th.fits {H : Hp} {v : V} {d : PyData} (h : Th H v d) : d.showable = true ∧ d.depth ≤ 2 ∧ d.shown.length ≤ 200 := by
  cases h with
  | flat h => exact ⟨h.show, by rw [h.dep]; decide, Nat.le_trans h.len (by decide)⟩
  | tup e h l =>
    obtain ⟨h1, h2, h3, h4, h5⟩ := fls_show h
    refine ⟨by simp [PyData.showable, h1], by simp [PyData.depth, h3], ?_⟩
    simp only [PyData.shown]
    refine Nat.le_trans (tupleText_le _) ?_
    omega
  | lst e h l =>
    obtain ⟨h1, h2, h3, h4, h5⟩ := fls_show h
    refine ⟨by simp [PyData.showable, h1], by simp [PyData.depth, h3], ?_⟩
    simp only [PyData.shown]
    refine Nat.le_trans (listText_le _) ?_
    omega
  | emp e => exact ⟨rfl, by decide, by simp only [PyData.shown, PyData.shownKv]; decide⟩
theorem four_fits {d : PyData} (h : d.shown.length ≤ 200) : (listText (PyData.shownAll (List.replicate 4 d))).length ≤ sizeLine := by
  refine Nat.le_trans (listText_le _) ?_
  show 2 + ([d.shown, d.shown, d.shown, d.shown].map (·.length)).sum + 2 * 4 ≤ sizeLine
  simp only [List.sum_cons, List.sum_nil, List.map_cons, List.map_nil]
  rw [sizeLine_eq]
  omega
end K

set_option maxRecDepth 100000
set_option maxHeartbeats 3900000
namespace K
open PySem PySem.Spec PyProof.Rows L2
abbrev sThing : Stmt := topS 11
theorem Th.but {H H' : Hp} {t : Addr} {n : Nat} {v : V} {d : PyData} (h : Th H v d) (b : But t H H') (hT : Tp H t n) : Th H' v d := by
  obtain ⟨x, y, w, hT, _, _⟩ := hT
  cases h with
  | flat h => exact .flat h
  | tup e h l => exact .tup (b _ _ e (ne_of e hT (fun z => by cases z))) h l
  | lst e h l => exact .lst (b _ _ e (ne_of e hT (fun z => by
      injection z with z
      rw [z] at l
      simp at l))) h l
  | emp e => exact .emp (b _ _ e (ne_of e hT (fun z => by cases z)))
section
variable {P : Program} {w : World} {K : PySem.W.Frag} {mg : Str → Option Value} {base : Heap}
/-! ### a pick -/
def spPick (K : PySem.W.Frag) : Sp := fun vs H Q _ => ∃ (t l : Addr) (n : Nat) (xs : List V), vs = [.ref t, .ref l] ∧ Tp H t n ∧ n < 1000000 ∧ SqL K H l xs ∧ l ≠ t ∧ 0 < xs.length ∧ xs.length < 100000 ∧
  ∀ (i : Nat) (v : V) (H' : Hp), xs[i]? = some v → Tp H' t (n + 1) → But t H H' → Q v H'
theorem scP : FnScope ["tape", "some"] ["tape", "some"] (defScope sPick) := ⟨rfl, rfl, rfl, by decide +kernel, rfl, by decide +kernel, by decide +kernel⟩
theorem ok_pick {f fD : Addr} {fd fdD : FuncData} (F : Fun K "_law_pick" "_law_pick" sPick f fd) (ml : mg "len" = none) (FD : Fun K "_law_draw" "_law_draw" sDraw fD fdD) (gD : mg "_law_draw" = some (.ref fD)) (bD : Binds K fdD ["tape", "many"] []) :
    FnOk P w K mg base CX0 2 f fd ["tape", "some"] (spPick K) := by
  have GD : FnOk P w K mg base CX0 1 fD fdD ["tape", "many"] spDraw := ok_draw FD
  refine F.ok scP (fun vs H Q E h => ?_) (fun cdv A outer s H vs Q E hr h => ?_)
  · obtain ⟨t, l, n, xs, rfl, _⟩ := h
    rfl
  · obtain ⟨t, l, n, xs, rfl, hT, hn, hl, hlt, l0, l1, q⟩ := h
    refine ⟨_, pss_one (ps_ret (pe_ix ix_list (pv 1) (pe_call GD hr (by rfl) gD FD.kp bD .nil pass0 (pa_cons (pv 0) (pa_cons (pe_callB call_len_seq (by rfl) ml PySem.boot_len (pa_cons (pv 1) pa_nil)) pa_nil))) (fun _ _ => rfl))), ?_⟩
    refine ⟨_, rfl, _, rfl, _, rfl, l, xs, rfl, .inl hl, t, n, _, rfl, hT, hn, by omega, by omega, fun r H' r0 r1 hT' hb => ?_⟩
    have hl' := hb.seq hl hlt
    have hi : r.toNat < xs.length := by omega
    obtain ⟨v, g⟩ : ∃ v, xs[r.toNat]? = some v := ⟨_, List.getElem?_eq_getElem hi⟩
    have e : atI xs r = some v := by
      have := atI_nat (v := v) g
      rwa [Int.toNat_of_nonneg r0] at this
    exact ⟨l, xs, r, v, rfl, rfl, hl', e, q r.toNat v H' g hT' hb⟩
/-- things all of them -/
def AllTh (H : Hp) (xs : List V) : Prop := ∀ v ∈ xs, ∃ d, Th H v d
theorem AllTh.nil {H : Hp} : AllTh H [] := fun v h => nomatch h
theorem AllTh.cons {H : Hp} {v : V} {xs : List V} {d : PyData} (h : Th H v d) (t : AllTh H xs) : AllTh H (v :: xs) := fun u hu => by
  rcases (List.mem_cons.mp hu) with rfl | hu
  · exact ⟨d, h⟩
  · exact t u hu
theorem AllTh.app {H : Hp} {xs ys : List V} (a : AllTh H xs) (b : AllTh H ys) : AllTh H (xs ++ ys) := fun u hu => (List.mem_append.mp hu).elim (a u) (b u)
theorem AllTh.same {H H' : Hp} {xs : List V} (a : AllTh H xs) (s : Same H H') : AllTh H' xs := fun v hv => let ⟨d, h⟩ := a v hv; ⟨d, h.same s⟩
theorem AllTh.but {H H' : Hp} {t : Addr} {n : Nat} {xs : List V} (a : AllTh H xs) (b : But t H H') (hT : Tp H t n) : AllTh H' xs := fun v hv => let ⟨d, h⟩ := a v hv; ⟨d, h.but b hT⟩
theorem Tp.same {H H' : Hp} {t : Addr} {n : Nat} (h : Tp H t n) (s : Same H H') : Tp H' t n := let ⟨a, b, c, e, x, y⟩ := h; ⟨a, b, c, s _ _ e, x, y⟩
theorem But.of {H H' : Hp} {t : Addr} (s : Same H H') : But t H H' := fun x o h _ => s x o h
/-! ### a thing -/
def spThing : Sp := fun vs H Q _ => ∃ (t : Addr) (n : Nat), vs = [.ref t] ∧ Tp H t n ∧ n < 999000 ∧
  ∀ (v : V) (d : PyData) (H' : Hp), Th H' v d → Tp H' t (n + 4) → But t H H' → Q v H'
theorem scG : FnScope ["tape", "some"] ["tape"] (defScope sThing) := ⟨rfl, rfl, rfl, by decide +kernel, rfl, by decide +kernel, by decide +kernel⟩
theorem ok_thing {f fD fP : Addr} {fd fdD fdP : FuncData} (F : Fun K "_law_thing" "_law_thing" sThing f fd) (ml : mg "len" = none) (FD : Fun K "_law_draw" "_law_draw" sDraw fD fdD) (gD : mg "_law_draw" = some (.ref fD)) (bD : Binds K fdD ["tape", "many"] [])
    (FP : Fun K "_law_pick" "_law_pick" sPick fP fdP) (gP : mg "_law_pick" = some (.ref fP)) (bP : Binds K fdP ["tape", "some"] []) : FnOk P w K mg base CX0 3 f fd ["tape"] spThing := by
  have GD : FnOk P w K mg base CX0 1 fD fdD ["tape", "many"] spDraw := ok_draw FD
  have GP : FnOk P w K mg base CX0 2 fP fdP ["tape", "some"] (spPick K) := ok_pick FP ml FD gD bD
  refine F.ok scG (fun vs H Q E h => ?_) (fun cdv A outer s H vs Q E hr h => ?_)
  · obtain ⟨t, n, rfl, _⟩ := h
    rfl
  · obtain ⟨t, n, rfl, hT, hn, q⟩ := h
    have hr1 := hr.mono (show 1 ≤ 2 by decide)
    refine ⟨_, pss_cons (ps_set (i := 1) scG.nd rfl (.inl rfl) (pe_lst (pa_cons pe_int (pa_cons pe_int (pa_cons (pe_un un_neg pe_int) (pa_cons (pe_op op_pow pe_int pe_int) (pa_cons pe_bl (pa_cons pe_bl (pa_cons pe_non (pa_cons pe_str (pa_cons pe_str (pa_cons pe_str
        (pa_cons (pe_tup pa_nil) (pa_cons (pe_tup (pa_cons pe_int (pa_cons pe_non pa_nil))) (pa_cons (pe_tup (pa_cons pe_str (pa_cons pe_int pa_nil))) (pa_cons (pe_lst pa_nil) (pa_cons (pe_lst (pa_cons pe_int (pa_cons pe_str pa_nil))) (pa_cons pe_dnewK pa_nil))))))))))))))))))
      (pss_one (ps_ret (pe_call GP hr (by rfl) gP FP.kp bP .nil pass0 (pa_cons (pv 0) (pa_cons (pe_op op_cat (pv 1) (pe_lst (pa_cons (pe_call GD hr1 (by rfl) gD FD.kp bD .nil pass0 (pa_cons (pv 0) (pa_cons (pe_op op_pow pe_int pe_int) pa_nil)))
        (pa_cons (pe_tup (pa_cons (pe_call GD hr1 (by rfl) gD FD.kp bD .nil pass0 (pa_cons (pv 0) (pa_cons pe_int pa_nil))) (pa_cons (pe_call GD hr1 (by rfl) gD FD.kp bD .nil pass0 (pa_cons (pv 0) (pa_cons pe_int pa_nil))) pa_nil))) pa_nil)))) pa_nil))))), ?_⟩
    refine ⟨_, rfl, _, _, rfl, rfl, ⟨by decide, by decide, by decide⟩, (by show 0 ≤ sizeLine; decide), fun a1 n1 => ?_⟩
    obtain ⟨H1, e1⟩ : ∃ H1, H1 = upd H a1 (.tup []) := ⟨_, rfl⟩
    have s1 : Same H H1 := e1 ▸ same_new n1
    have t1 : Th H1 (.ref a1) (.tuple []) := .tup (by rw [e1]; exact upd_same) .nil (by decide)
    rw [← e1]
    refine ⟨(by show 2 ≤ sizeLine; decide), fun a2 n2 => ?_⟩
    obtain ⟨H2, e2⟩ : ∃ H2, H2 = upd H1 a2 (.tup [.int 0, .non]) := ⟨_, rfl⟩
    have s2 : Same H1 H2 := e2 ▸ same_new n2
    have t2 : Th H2 (.ref a2) (.tuple [.int 0, .none]) := .tup (by rw [e2]; exact upd_same) (.cons (.int (by decide)) (.cons .non .nil)) (by decide)
    rw [← e2]
    refine ⟨(by show 2 ≤ sizeLine; decide), fun a3 n3 => ?_⟩
    obtain ⟨H3, e3⟩ : ∃ H3, H3 = upd H2 a3 (.tup [.str (Str.ofString "main"), .int 3]) := ⟨_, rfl⟩
    have s3 : Same H2 H3 := e3 ▸ same_new n3
    have t3 : Th H3 (.ref a3) (.tuple [.str (Str.ofString "main"), .int 3]) := .tup (by rw [e3]; exact upd_same) (.cons (.str _ (by decide +kernel)) (.cons (.int (by decide)) .nil)) (by decide)
    rw [← e3]
    refine ⟨(by show 0 ≤ sizeLine; decide), fun a4 n4 => ?_⟩
    obtain ⟨H4, e4⟩ : ∃ H4, H4 = upd H3 a4 (.lst []) := ⟨_, rfl⟩
    have s4 : Same H3 H4 := e4 ▸ same_new n4
    have t4 : Th H4 (.ref a4) (.list []) := .lst (by rw [e4]; exact upd_same) .nil (by decide)
    rw [← e4]
    refine ⟨(by show 2 ≤ sizeLine; decide), fun a5 n5 => ?_⟩
    obtain ⟨H5, e5⟩ : ∃ H5, H5 = upd H4 a5 (.lst [.int 1, .str (Str.ofString "x")]) := ⟨_, rfl⟩
    have s5 : Same H4 H5 := e5 ▸ same_new n5
    have t5 : Th H5 (.ref a5) (.list [.int 1, .str (Str.ofString "x")]) := .lst (by rw [e5]; exact upd_same) (.cons (.int (by decide)) (.cons (.str _ (by decide +kernel)) .nil)) (by decide)
    rw [← e5]
    refine fun a6 n6 => ?_
    obtain ⟨H6, e6⟩ : ∃ H6, H6 = upd H5 a6 (.dK []) := ⟨_, rfl⟩
    have s6 : Same H5 H6 := e6 ▸ same_new n6
    have t6 : Th H6 (.ref a6) (.dict []) := .emp (by rw [e6]; exact upd_same)
    rw [← e6]
    refine ⟨(by show 16 ≤ sizeLine; decide), fun l n7 => ?_⟩
    have S6 : Same H H6 := ((((s1.trans s2).trans s3).trans s4).trans s5).trans s6
    have hA : AllTh H6 [.int 0, .int 1, .int (-1), .int (10 ^ (59 : Int).toNat), .bl true, .bl false, .non, .str (Str.ofString ""), .str (Str.ofString "x"), .str (Str.ofString "main 3"), .ref a1, .ref a2, .ref a3, .ref a4, .ref a5, .ref a6] :=
      .cons (.flat (.int (by decide))) (.cons (.flat (.int (by decide))) (.cons (.flat (.int (by decide))) (.cons (.flat (.int (by decide))) (.cons (.flat (.bl _)) (.cons (.flat (.bl _)) (.cons (.flat .non) (.cons (.flat (.str _ (by decide +kernel))) (.cons (.flat (.str _ (by decide +kernel))) (.cons (.flat (.str _ (by decide +kernel)))
        (.cons (((((t1.same s2).same s3).same s4).same s5).same s6) (.cons ((((t2.same s3).same s4).same s5).same s6) (.cons (((t3.same s4).same s5).same s6) (.cons ((t4.same s5).same s6) (.cons (t5.same s6) (.cons t6 .nil)))))))))))))))
    obtain ⟨xs, ex⟩ : ∃ xs : List V, xs = [.int 0, .int 1, .int (-1), .int (10 ^ (59 : Int).toNat), .bl true, .bl false, .non, .str (Str.ofString ""), .str (Str.ofString "x"), .str (Str.ofString "main 3"), .ref a1, .ref a2, .ref a3, .ref a4, .ref a5, .ref a6] := ⟨_, rfl⟩
    have lx : xs.length = 16 := by rw [ex]; rfl
    obtain ⟨H7, e7⟩ : ∃ H7, H7 = upd H6 l (.lst xs) := ⟨_, rfl⟩
    have s7 : Same H6 H7 := e7 ▸ same_new n7
    have hL : H7 l = some (.lst xs) := by rw [e7]; exact upd_same
    have hA7 : AllTh H7 xs := ex ▸ hA.same s7
    have hT7 : Tp H7 t n := hT.same (S6.trans s7)
    have B7 : But t H H7 := .of (S6.trans s7)
    have lt : l ≠ t := by
      obtain ⟨x, y, z, hT, _, _⟩ := hT.same S6
      exact (ne_of_none hT n7).symm
    dsimp only [gName]
    rw [← ex, ← e7]
    clear ex e7 hA t1 t2 t3 t4 t5 t6
    refine ⟨_, rfl, _, rfl, _, rfl, _, _, rfl, rfl, ⟨by decide, by decide, by decide⟩, t, n, _, rfl, hT7, by omega, by decide, by decide, fun r1 H8 p1 q1 hT8 b8 => ?_⟩
    have q1' : r1 < 1000000 := Int.lt_of_lt_of_le q1 (by decide)
    refine ⟨_, rfl, t, n + 1, 7, rfl, hT8, by omega, by decide, by decide, fun r2 H9 p2 q2 hT9 b9 => ?_⟩
    refine ⟨_, rfl, t, n + 2, 31, rfl, hT9, by omega, by decide, by decide, fun r3 HA p3 q3 hTA bA => ?_⟩
    refine ⟨(by show 2 ≤ sizeLine; decide), fun a7 n8 => ?_⟩
    obtain ⟨HB, eB⟩ : ∃ HB, HB = upd HA a7 (.tup [.int r2, .int r3]) := ⟨_, rfl⟩
    have sB : Same HA HB := eB ▸ same_new n8
    have t7 : Th HB (.ref a7) (.tuple [.int r2, .int r3]) := .tup (by rw [eB]; exact upd_same) (.cons (.int (by omega)) (.cons (.int (by omega)) .nil)) (Nat.le_refl 2)
    rw [← eB]
    refine ⟨(by show 2 ≤ sizeLine; decide), fun l2 n9 => ?_⟩
    obtain ⟨HC, eC⟩ : ∃ HC, HC = upd HB l2 (.lst [.int r1, .ref a7]) := ⟨_, rfl⟩
    have sC : Same HB HC := eC ▸ same_new n9
    have hL2 : HC l2 = some (.lst [.int r1, .ref a7]) := by rw [eC]; exact upd_same
    rw [← eC]
    have BC : But t H7 HC := (b8.trans b9).trans (bA.trans ((But.of sB).trans (.of sC)))
    have hLC : HC l = some (.lst xs) := BC _ _ hL lt
    have hTC : Tp HC t (n + 3) := (hTA.same sB).same sC
    refine ⟨l, l2, _, _, rfl, rfl, hLC, hL2, (by rw [lx]; show 18 ≤ sizeLine; decide), fun l3 n10 => ?_⟩
    have sD := same_new (o := .lst (xs ++ [.int r1, .ref a7])) n10
    have l3t : l3 ≠ t := by
      obtain ⟨x, y, z, hT, _, _⟩ := hTC
      exact (ne_of_none hT n10).symm
    have hAD : AllTh (upd HC l3 (.lst (xs ++ [.int r1, .ref a7]))) (xs ++ [.int r1, .ref a7]) := ((hA7.but BC hT7).app (.cons (.flat (.int (by omega))) (.cons (t7.same sC) .nil))).same sD
    refine ⟨t, l3, n + 3, _, rfl, hTC.same sD, by omega, SqL.of upd_same, l3t, (by rw [List.length_append, lx]; show 0 < 18; decide), (by rw [List.length_append, lx]; show 18 < 100000; decide), fun i v H' g hT' hb => ?_⟩
    obtain ⟨d, hd⟩ := hAD v (List.mem_of_getElem? g)
    exact q v d H' (hd.but hb (hTC.same sD)) hT' (B7.trans (BC.trans ((But.of sD).trans hb)))
end
end K

set_option maxRecDepth 100000
set_option maxHeartbeats 3900000
namespace K
open PySem PySem.Spec PyProof.Rows L2
abbrev sKind : Stmt := topS 12
/-- what isinstance says of an object of the class C -/
structure KI (K : PySem.W.Frag) (C C0 C1 C2 C3 CB : Addr) (b0 b1 b2 b3 : Bool) : Prop where
  ec : ExcC K C
  cl : (PySem.W.clsIn K C).isSome = true
  k0 : PySem.W.kitOne K (.ref C) (.ref C0) = some b0
  k1 : PySem.W.kitOne K (.ref C) (.ref C1) = some b1
  k2 : PySem.W.kitOne K (.ref C) (.ref C2) = some b2
  k3 : PySem.W.kitOne K (.ref C) (.ref C3) = some b3
  kB : PySem.W.kitOne K (.ref C) (.ref CB) = some true
  kV : PySem.W.kitOne K (.ref C) (.type "ValueError") = some true
/-- the four classes, their base, by their names; the built-ins' names are the built-ins' -/
structure Nm (mg : Str → Option Value) (C0 C1 C2 C3 CB : Addr) : Prop where
  g0 : mg "NoProgram" = some (.ref C0)
  g1 : mg "NoText" = some (.ref C1)
  g2 : mg "NoPlace" = some (.ref C2)
  g3 : mg "NoRow" = some (.ref C3)
  gB : mg "WithinError" = some (.ref CB)
  nI : mg "isinstance" = none
  nV : mg "ValueError" = none
  nR : mg "range" = none
section
variable {P : Program} {w : World} {K : PySem.W.Frag} {mg : Str → Option Value} {base : Heap} {C0 C1 C2 C3 CB : Addr}
def spKind (K : PySem.W.Frag) (C0 C1 C2 C3 CB : Addr) : Sp := fun vs H Q _ => ∃ (a d C : Addr) (fs : List (Str × V)) (n : Nat), vs = [.ref a, .int (n : Int)] ∧ n < 4 ∧ H a = some (ExV C d a) ∧ H d = some (.xd fs) ∧
  KI K C C0 C1 C2 C3 CB (decide (n = 0)) (decide (n = 1)) (decide (n = 2)) (decide (n = 3)) ∧ ∀ H', Same H H' → Q (.bl true) H'
theorem scK : FnScope ["one", "at", "kinds", "k"] ["one", "at"] (defScope sKind) := ⟨rfl, rfl, rfl, by decide +kernel, rfl, by decide +kernel, by decide +kernel⟩
theorem dp_bls {H : Hp} : ∀ bs : List Bool, DpAll K H (bs.map V.bl) (bs.map PyData.bool)
  | [] => .nil
  | b :: r => .cons (.bl b) (dp_bls r)
theorem ok_kind {f : Addr} {fd : FuncData} (F : Fun K "_law_of_one_kind" "_law_of_one_kind" sKind f fd) (T : Nm mg C0 C1 C2 C3 CB) : FnOk P w K mg base CX0 1 f fd ["one", "at"] (spKind K C0 C1 C2 C3 CB) := by
  refine F.ok scK (fun vs H Q E h => ?_) (fun cdv A outer s H vs Q E hr h => ?_)
  · obtain ⟨a, d, C, fs, n, rfl, _⟩ := h
    rfl
  · obtain ⟨a, d, C, fs, n, rfl, hn, ha, hd, I, q⟩ := h
    refine ⟨_, pss_cons (ps_set (i := 2) scK.nd rfl (.inl rfl) (pe_lst (pa_cons (pe_callB call_isV (by rfl) T.nI boot_isinstance (pa_cons (pv 0) (pa_cons (pe_glob (v := .ref C0) (by rfl) T.g0 rfl) pa_nil)))
        (pa_cons (pe_callB call_isV (by rfl) T.nI boot_isinstance (pa_cons (pv 0) (pa_cons (pe_glob (v := .ref C1) (by rfl) T.g1 rfl) pa_nil)))
        (pa_cons (pe_callB call_isV (by rfl) T.nI boot_isinstance (pa_cons (pv 0) (pa_cons (pe_glob (v := .ref C2) (by rfl) T.g2 rfl) pa_nil)))
        (pa_cons (pe_callB call_isV (by rfl) T.nI boot_isinstance (pa_cons (pv 0) (pa_cons (pe_glob (v := .ref C3) (by rfl) T.g3 rfl) pa_nil))) pa_nil))))))
      (pss_cons (ps_if (PW.pt (pw_or (pt_not (pt_val (pe_callB call_isV (by rfl) T.nI boot_isinstance (pa_cons (pv 0) (pa_cons (pe_glob (v := .ref CB) (by rfl) T.gB rfl) pa_nil)))))
          (pw_or1 (pt_not (pt_val (pe_callB call_isV (by rfl) T.nI boot_isinstance (pa_cons (pv 0) (pa_cons (pe_bltn (v := .ty "ValueError") (by rfl) T.nV (by decide +kernel) rfl) pa_nil)))))))) (pss_one (ps_ret pe_bl)) pss_nil)
      (pss_one (ps_ret (pe_cmpR (op_eqD hr.units) (pv 2) (pe_lc (own := [("k", 3)]) (g := gName 3) (tt := tYes) (by rfl) scK.nd (pi_range1 (by rfl) T.nR (pa_cons pe_int pa_nil)) (blkOk_by (own := [("k", 3)]) (N := ["one", "at", "kinds", "k"]) (sc := defScope sKind) (by decide +kernel))
        (fun _ _ _ _ _ => pg_name (i := 3) scK.nd rfl (Or.inl rfl)) (fun _ _ _ _ _ => pts_nil) (fun _ _ _ _ _ => pe_cmpR op_eq (pv 3) (pv 1) (nomark _))) (nomark _))))), ?_⟩
    refine ⟨_, rfl, a, d, C, fs, _, _, _, rfl, ha, hd, I.ec, I.cl, fun u r => r, I.k0, ?_⟩
    refine ⟨_, rfl, a, d, C, fs, _, _, _, rfl, ha, hd, I.ec, I.cl, fun u r => r, I.k1, ?_⟩
    refine ⟨_, rfl, a, d, C, fs, _, _, _, rfl, ha, hd, I.ec, I.cl, fun u r => r, I.k2, ?_⟩
    refine ⟨_, rfl, a, d, C, fs, _, _, _, rfl, ha, hd, I.ec, I.cl, fun u r => r, I.k3, ?_⟩
    refine ⟨(by show 4 ≤ sizeLine; decide), fun p hp => ?_⟩
    have s1 := same_new (o := .lst [.bl (decide (n = 0)), .bl (decide (n = 1)), .bl (decide (n = 2)), .bl (decide (n = 3))]) hp
    refine ⟨_, rfl, a, d, C, fs, _, _, _, rfl, s1 _ _ ha, s1 _ _ hd, I.ec, I.cl, fun u r => r, I.kB, _, rfl, ?_⟩
    refine iteF ?_
    refine ⟨_, rfl, a, d, C, fs, _, _, _, rfl, s1 _ _ ha, s1 _ _ hd, I.ec, I.cl, fun u r => r, I.kV, _, rfl, ?_⟩
    refine iteF ?_
    refine ⟨_, rfl, 4, rfl, by decide, by decide, fun D nD => ?_⟩
    have s2 := same_new (o := .lst []) nD
    refine lc_range (lo := 0) (n := 4) (fun i H' => i ≤ 4 ∧ (∀ x o, (upd H p (.lst [.bl (decide (n = 0)), .bl (decide (n = 1)), .bl (decide (n = 2)), .bl (decide (n = 3))])) x = some o → H' x = some o) ∧ H' D = some (.lst (((List.range i).map fun k => decide (((k : Nat) : Int) = (n : Int))).map V.bl)))
      ⟨by decide, s2, upd_same⟩ ?_ ?_
    · rintro i H' hi ⟨_, sm, hD⟩
      refine ⟨rfl, ?_⟩
      refine iteT (B := True) ?_
      refine ⟨_, rfl, _, rfl, rfl, _, hD, (by rw [List.length_map, List.length_map, List.length_range]; exact Nat.lt_of_lt_of_le hi (by decide)), hi, fun x o e => ?_, ?_⟩
      · rw [upd_ne (ne_of_none (show (upd H p (.lst [.bl (decide (n = 0)), .bl (decide (n = 1)), .bl (decide (n = 2)), .bl (decide (n = 3))])) x = some o from e) nD)]
        exact sm x o e
      · rw [upd_same, List.range_succ, List.map_append, List.map_append]
        simp
    · rintro H' ⟨_, sm, hD⟩
      have hP := sm p _ upd_same
      have e1 : (List.range 4).map (fun k => decide (((k : Nat) : Int) = (n : Int))) = [decide (n = 0), decide (n = 1), decide (n = 2), decide (n = 3)] := by
        have : n = 0 ∨ n = 1 ∨ n = 2 ∨ n = 3 := by omega
        rcases this with rfl | rfl | rfl | rfl <;> rfl
      rw [e1] at hD
      refine ⟨.list ([decide (n = 0), decide (n = 1), decide (n = 2), decide (n = 3)].map .bool), .list ([decide (n = 0), decide (n = 1), decide (n = 2), decide (n = 3)].map .bool), .lst (.of hP) (dp_bls [_, _, _, _]), .lst (.of hD) (dp_bls [_, _, _, _]), rfl, rfl, ?_⟩
      have e2 : PyData.eqv (.list ([decide (n = 0), decide (n = 1), decide (n = 2), decide (n = 3)].map .bool)) (.list ([decide (n = 0), decide (n = 1), decide (n = 2), decide (n = 3)].map .bool)) = true := PySem.SeqAt.eqv_refl _ (by rfl)
      rw [e2]
      exact q H' fun x o e => sm x o (s1 x o e)
end
end K

set_option maxRecDepth 100000
set_option maxHeartbeats 3900000
namespace K
open PySem PySem.Spec PyProof.Rows L2
abbrev sLaw : Stmt := topS 13
/-- names that the law reads off the built-ins -/
structure Bt (mg : Str → Option Value) : Prop where
  nR : mg "range" = none
  nM : mg "max" = none
  nm : mg "min" = none
  nL : mg "len" = none
  nr : mg "repr" = none
  nA : mg "all" = none
  nE : mg "enumerate" = none
/-- a class's facts for its objects: made, its field read, asked by isinstance -/
structure CF (P : Program) (K : PySem.W.Frag) (mg : Str → Option Value) (x n : Str) (C fI C0 C1 C2 C3 CB : Addr) (b0 b1 b2 b3 : Bool) : Prop where
  tx : PySem.Own.Txt P K mg x n C fI
  ki : KI K C C0 C1 C2 C3 CB b0 b1 b2 b3
theorem CF.xf {P : Program} {K : PySem.W.Frag} {mg : Str → Option Value} {x n : Str} {C fI C0 C1 C2 C3 CB : Addr} {b0 b1 b2 b3 : Bool} (T : CF P K mg x n C fI C0 C1 C2 C3 CB b0 b1 b2 b3) : XfC K C := ⟨T.tx.ga, T.tx.gg, T.tx.exC, T.tx.hdC⟩
/-- an exception of the class C with the field n stands at e -/
def ExAt (C : Addr) (n : Str) (v : V) (H : Hp) (e : Addr) : Prop := ∃ d, H e = some (ExV C d e) ∧ H d = some (.xd [(n, v)])
theorem ExAt.same {C : Addr} {n : Str} {v : V} {H H' : Hp} {e : Addr} (h : ExAt C n v H e) (s : Same H H') : ExAt C n v H' e := let ⟨d, a, b⟩ := h; ⟨d, s _ _ a, s _ _ b⟩
theorem same_own {C : Addr} {n : Str} {v : V} {H : Hp} {a d : Addr} (ha : H a = none) (hd : H d = none) (ne : d ≠ a) : Same H (upd (upd H d (.xd [(n, v)])) a (ExV C d a)) := fun b o e => by
  rw [upd_ne (ne_of_none e ha), upd_ne (ne_of_none e hd)]
  exact e
theorem exAt_own {C : Addr} {n : Str} {v : V} {H : Hp} {a d : Addr} (ne : d ≠ a) : ExAt C n v (upd (upd H d (.xd [(n, v)])) a (ExV C d a)) a := ⟨d, upd_same, by rw [upd_ne ne, upd_same]⟩
/-- a list of the four, each with the field's value v -/
def Four (C0 C1 C2 C3 : Addr) (v : V) (H : Hp) (l : Addr) : Prop := ∃ e0 e1 e2 e3, H l = some (.lst [.ref e0, .ref e1, .ref e2, .ref e3]) ∧ ExAt C0 "spot" v H e0 ∧ ExAt C1 "row" v H e1 ∧ ExAt C2 "place" v H e2 ∧ ExAt C3 "row" v H e3
theorem Four.same {C0 C1 C2 C3 : Addr} {v : V} {H H' : Hp} {l : Addr} (h : Four C0 C1 C2 C3 v H l) (s : Same H H') : Four C0 C1 C2 C3 v H' l := by
  obtain ⟨e0, e1, e2, e3, h, a, b, c, d⟩ := h
  exact ⟨e0, e1, e2, e3, s _ _ h, a.same s, b.same s, c.same s, d.same s⟩
theorem same_but {t : Addr} {H0 H1 H2 : Hp} (s : Same H0 H1) (n : H0 t = none) (b : But t H1 H2) : Same H0 H2 := fun x o e => b x o (s x o e) (ne_of_none e n)
section
variable {P : Program} {w : World} {K : PySem.W.Frag} {mg : Str → Option Value} {base : Heap} {C0 C1 C2 C3 CB i0 i1 i2 i3 : Addr}
def spLaw (K : PySem.W.Frag) : Sp := fun vs H Q _ => ∃ (a : Addr) (ns : List Int), vs = [.ref a] ∧ SqL K H a (ns.map V.int) ∧ ns.length ≤ 63 ∧ ∀ H', Q (.bl true) H'
theorem scL : FnScope ["script", "k", "tape", "turn", "first", "second", "some", "more", "ones", "due", "found", "at", "one"] ["script"] (defScope sLaw) := ⟨rfl, rfl, rfl, by decide +kernel, rfl, by decide +kernel, by decide +kernel⟩
theorem ok_law {f fT fG fK : Addr} {fd fdT fdG fdK : FuncData} (F : Fun K "law" "law" sLaw f fd) (B : Bt mg)
    (GT : FnOk P w K mg base CX0 1 fT fdT ["script", "k"] (spTape K)) (gT : mg "_law_tape" = some (.ref fT)) (kT : PySem.W.keepIn K (.ref fT) = true) (bT : Binds K fdT ["script", "k"] [])
    (GG : FnOk P w K mg base CX0 3 fG fdG ["tape"] spThing) (gG : mg "_law_thing" = some (.ref fG)) (kG : PySem.W.keepIn K (.ref fG) = true) (bG : Binds K fdG ["tape"] [])
    (GK : FnOk P w K mg base CX0 1 fK fdK ["one", "at"] (spKind K C0 C1 C2 C3 CB)) (gK : mg "_law_of_one_kind" = some (.ref fK)) (kK : PySem.W.keepIn K (.ref fK) = true) (bK : Binds K fdK ["one", "at"] [])
    (T0 : CF P K mg "NoProgram" "spot" C0 i0 C0 C1 C2 C3 CB true false false false) (T1 : CF P K mg "NoText" "row" C1 i1 C0 C1 C2 C3 CB false true false false)
    (T2 : CF P K mg "NoPlace" "place" C2 i2 C0 C1 C2 C3 CB false false true false) (T3 : CF P K mg "NoRow" "row" C3 i3 C0 C1 C2 C3 CB false false false true) :
    FnG P w K mg base CX0 4 f fd ["script"] (spLaw K) := by
  refine F.okG scL (fun vs H Q E h => ?_) (fun cdv A outer s H vs Q E hg hr h => ?_)
  · obtain ⟨a, ns, rfl, _⟩ := h
    rfl
  · obtain ⟨a, ns, rfl, hS, hl, q⟩ := h
    have hr1 := hr.mono (show 1 ≤ 3 by decide)
    have hrp := fun (X : Cx) (e : X.A = A.deeper (envOfC "law" (defScope sLaw) s.heap.objs.size f cdv)) => call_repN (X := X) (by rw [e]; exact hg) (by rw [e]; exact hr.units)
    refine ⟨_, (pss_cons (ps_for PassesOwn.never rfl (pi_range1 (by rfl) B.nR (pa_cons (pe_callB (call_max2 rfl) (by rfl) B.nM PyProof.Rows.boot_max (pa_cons pe_int (pa_cons (pe_callB (call_min2 rfl) (by rfl) B.nm PyProof.Rows.boot_min (pa_cons pe_int (pa_cons (pe_callB call_len_seq (by rfl) B.nL PySem.boot_len (pa_cons (pv 0) pa_nil)) pa_nil))) pa_nil))) pa_nil)) (pg_name (i := 1) scL.nd rfl (.inl rfl))
      (pss_cons (ps_set (i := 2) scL.nd rfl (.inl rfl) (pe_call GT hr1 (by rfl) gT kT bT .nil pass0 (pa_cons (pv 0) (pa_cons (pv 1) pa_nil))))
      (pss_one (ps_for PassesOwn.never rfl (pi_range1 (by rfl) B.nR (pa_cons pe_int pa_nil)) (pg_name (i := 3) scL.nd rfl (.inl rfl))
      (pss_cons (ps_par (i := 4) (j := 5) rfl scL.nd rfl rfl (by decide) rfl rfl (pa_cons (pe_call GG hr (by rfl) gG kG bG .nil pass0 (pa_cons (pv 2) pa_nil)) (pa_cons (pe_call GG hr (by rfl) gG kG bG .nil pass0 (pa_cons (pv 2) pa_nil)) pa_nil)) (by rfl))
      (pss_cons (ps_set (i := 6) scL.nd rfl (.inl rfl) (pe_lst (pa_cons (pe_own T0.tx hr (pa_cons (pv 4) pa_nil)) (pa_cons (pe_own T1.tx hr (pa_cons (pv 4) pa_nil)) (pa_cons (pe_own T2.tx hr (pa_cons (pv 4) pa_nil)) (pa_cons (pe_own T3.tx hr (pa_cons (pv 4) pa_nil)) pa_nil))))))
      (pss_cons (ps_set (i := 7) scL.nd rfl (.inl rfl) (pe_lst (pa_cons (pe_ownK T0.tx hr (pk_cons (pv 5) pk_nil)) (pa_cons (pe_ownK T1.tx hr (pk_cons (pv 5) pk_nil)) (pa_cons (pe_ownK T2.tx hr (pk_cons (pv 5) pk_nil)) (pa_cons (pe_ownK T3.tx hr (pk_cons (pv 5) pk_nil)) pa_nil))))))
      (pss_one (ps_for PassesOwn.never rfl (pi_list (pe_lst (pa_cons (pe_tup (pa_cons (pv 6) (pa_cons (pv 4) pa_nil))) (pa_cons (pe_tup (pa_cons (pv 7) (pa_cons (pv 5) pa_nil))) (pa_cons (pe_tup (pa_cons (pv 6) (pa_cons (pv 4) pa_nil))) pa_nil))))) (pg_tup (n := 2) rfl (pgs_cons (pg_name (i := 8) scL.nd rfl (.inl rfl)) (pgs_cons (pg_name (i := 9) scL.nd rfl (.inl rfl)) pgs_nil)))
      (pss_cons (ps_set (i := 10) scL.nd rfl (.inl rfl) (pe_lst (pa_cons (pe_exf (pe_ix ix_list (pv 8) pe_int (fun _ _ => rfl))) (pa_cons (pe_exf (pe_ix ix_list (pv 8) pe_int (fun _ _ => rfl))) (pa_cons (pe_exf (pe_ix ix_list (pv 8) pe_int (fun _ _ => rfl))) (pa_cons (pe_exf (pe_ix ix_list (pv 8) pe_int (fun _ _ => rfl))) pa_nil))))))
      (pss_cons (ps_if (pt_cmpR op_ne (pe_callB (hrp _ rfl) (by rfl) B.nr PyProof.Rows.boot_repr (pa_cons (pv 10) pa_nil)) (pe_callB (hrp _ rfl) (by rfl) B.nr PyProof.Rows.boot_repr (pa_cons (pe_op op_rep (pe_lst (pa_cons (pv 9) pa_nil)) pe_int) pa_nil)) (nomark _)) (pss_one (ps_ret pe_bl)) pss_nil)
      (pss_one (ps_if (pt_not (pt_val (pe_callB (cr_all rfl) (by rfl) B.nA PyProof.Rows.boot_all (pa_cons (pe_lc (own := [("at", 11), ("one", 12)]) (g := gTup K 2 (gCons (gName 11) (gCons (gName 12) gNil))) (tt := tYes) (by rfl) scL.nd (pi_enum (by rfl) B.nE (pa_cons (pv 8) pa_nil))
              (blkOk_by (own := [("at", 11), ("one", 12)]) (N := ["script", "k", "tape", "turn", "first", "second", "some", "more", "ones", "due", "found", "at", "one"]) (sc := defScope sLaw) (by decide +kernel))
              (fun _ _ _ _ _ => pg_tup (n := 2) rfl (pgs_cons (pg_name (i := 11) scL.nd rfl (.inl rfl) (hf := .inr rfl)) (pgs_cons (pg_name (i := 12) scL.nd rfl (.inl rfl) (hf := .inr rfl)) pgs_nil))) (fun _ _ _ _ _ => pts_nil)
              (fun _ _ _ _ _ => pe_call GK hr1 (by rfl) gK kK bK .nil pass0 (pa_cons (pv 12) (pa_cons (pv 11) pa_nil)))) pa_nil)))) (pss_one (ps_ret pe_bl)) pss_nil)))))))))))))
      (pss_one (ps_ret pe_bl))), ?_⟩
    -- READING
    have tl : ∀ b : Prop, b → b := fun _ h => h
    refine ⟨_, rfl, a, _, rfl, .inl hS, _, _, rfl, _, _, rfl, ?_⟩
    obtain ⟨top, et⟩ : ∃ top : Int, top = (if (if ((ns.map V.int).length : Int) < 4 then ((ns.map V.int).length : Int) else 4) > 1 then (if ((ns.map V.int).length : Int) < 4 then ((ns.map V.int).length : Int) else 4) else 1) := ⟨_, rfl⟩
    have b0 : 0 ≤ top ∧ top ≤ 4 := by rw [et]; split <;> (try split) <;> omega
    refine ⟨top, by rw [et], by omega, by omega, for_range (lo := 0) (n := top.toNat) (fun i σ H' => ∃ y1 y2 y3 y4 y5 y6 y7 y8 y9 ya yb yc : Option V, σ = [some (.ref a), y1, y2, y3, y4, y5, y6, y7, y8, y9, ya, yb, yc] ∧ Same H H')
      ⟨_, _, _, _, _, _, _, _, _, _, _, _, rfl, Same.refl H⟩ ?_ (fun σ H' _ => q H')⟩
    rintro i σ H' hi ⟨y1, y2, y3, y4, y5, y6, y7, y8, y9, ya, yb, yc, rfl, sm⟩
    refine ⟨_, rfl, _, rfl, a, ns, i, by rw [Int.zero_add]; rfl, sm.seq hS, hl, by omega, fun p H1 s1 n1 hT1 => ?_⟩
    refine ⟨4, rfl, by decide, by decide, for_range (lo := 0) (n := 4) (fun j σ H'' => ∃ z1 z3 z4 z5 z6 z7 z8 z9 za zb zc : Option V, σ = [some (.ref a), z1, some (.ref p), z3, z4, z5, z6, z7, z8, z9, za, zb, zc] ∧ Tp H'' p (8 * j) ∧ Same H' H'')
      ⟨_, _, _, _, _, _, _, _, _, _, _, rfl, hT1, s1⟩ ?_ (fun σ H'' ⟨z1, z3, z4, z5, z6, z7, z8, z9, za, zb, zc, e, _, s2⟩ => ⟨_, _, _, _, _, _, _, _, _, _, _, _, e, sm.trans s2⟩)⟩
    rintro j σ G hj ⟨z1, z3, z4, z5, z6, z7, z8, z9, za, zb, zc, rfl, hT, sG⟩
    refine ⟨_, rfl, p, 8 * j, rfl, hT, by omega, fun v1 d1 G1 th1 hTa ba => ?_⟩
    refine ⟨_, rfl, p, 8 * j + 4, rfl, hTa, by omega, fun v2 d2 G2 th2 hTb bb => ?_⟩
    refine ⟨v1, v2, rfl, ?_⟩
    have th1 := th1.but bb hTa
    have sG2 : Same H' G2 := same_but sG n1 (ba.trans bb)
    refine ⟨_, rfl, v1, rfl, fun le0 ld0 al0 bl0 cl0 => ?_⟩
    obtain ⟨G3, eG3⟩ : ∃ G3, G3 = upd (upd G2 ld0 (.xd [("spot", v1)])) le0 (ExV C0 ld0 le0) := ⟨_, rfl⟩
    have sG3 : Same G2 G3 := eG3 ▸ same_own al0 bl0 cl0
    have xl0 : ExAt C0 "spot" v1 G3 le0 := eG3 ▸ exAt_own cl0
    rw [← eG3]
    refine ⟨_, rfl, v1, rfl, fun le1 ld1 al1 bl1 cl1 => ?_⟩
    obtain ⟨G4, eG4⟩ : ∃ G4, G4 = upd (upd G3 ld1 (.xd [("row", v1)])) le1 (ExV C1 ld1 le1) := ⟨_, rfl⟩
    have sG4 : Same G3 G4 := eG4 ▸ same_own al1 bl1 cl1
    have xl1 : ExAt C1 "row" v1 G4 le1 := eG4 ▸ exAt_own cl1
    rw [← eG4]
    refine ⟨_, rfl, v1, rfl, fun le2 ld2 al2 bl2 cl2 => ?_⟩
    obtain ⟨G5, eG5⟩ : ∃ G5, G5 = upd (upd G4 ld2 (.xd [("place", v1)])) le2 (ExV C2 ld2 le2) := ⟨_, rfl⟩
    have sG5 : Same G4 G5 := eG5 ▸ same_own al2 bl2 cl2
    have xl2 : ExAt C2 "place" v1 G5 le2 := eG5 ▸ exAt_own cl2
    rw [← eG5]
    refine ⟨_, rfl, v1, rfl, fun le3 ld3 al3 bl3 cl3 => ?_⟩
    obtain ⟨G6, eG6⟩ : ∃ G6, G6 = upd (upd G5 ld3 (.xd [("row", v1)])) le3 (ExV C3 ld3 le3) := ⟨_, rfl⟩
    have sG6 : Same G5 G6 := eG6 ▸ same_own al3 bl3 cl3
    have xl3 : ExAt C3 "row" v1 G6 le3 := eG6 ▸ exAt_own cl3
    rw [← eG6]
    refine ⟨(by show 4 ≤ sizeLine; decide), fun l nl => ?_⟩
    obtain ⟨G7, eG7⟩ : ∃ G7, G7 = upd G6 l (.lst [.ref le0, .ref le1, .ref le2, .ref le3]) := ⟨_, rfl⟩
    have sG7 : Same G6 G7 := eG7 ▸ same_new nl
    have fourl : Four C0 C1 C2 C3 v1 G7 l := ⟨_, _, _, _, (by rw [eG7]; exact upd_same), ((((xl0.same sG4).same sG5).same sG6).same sG7), (((xl1.same sG5).same sG6).same sG7), ((xl2.same sG6).same sG7), (xl3.same sG7)⟩
    dsimp only [gName]
    rw [← eG7]
    refine ⟨_, rfl, v2, rfl, fun me0 md0 am0 bm0 cm0 => ?_⟩
    obtain ⟨G8, eG8⟩ : ∃ G8, G8 = upd (upd G7 md0 (.xd [("spot", v2)])) me0 (ExV C0 md0 me0) := ⟨_, rfl⟩
    have sG8 : Same G7 G8 := eG8 ▸ same_own am0 bm0 cm0
    have xm0 : ExAt C0 "spot" v2 G8 me0 := eG8 ▸ exAt_own cm0
    rw [← eG8]
    refine ⟨_, rfl, v2, rfl, fun me1 md1 am1 bm1 cm1 => ?_⟩
    obtain ⟨G9, eG9⟩ : ∃ G9, G9 = upd (upd G8 md1 (.xd [("row", v2)])) me1 (ExV C1 md1 me1) := ⟨_, rfl⟩
    have sG9 : Same G8 G9 := eG9 ▸ same_own am1 bm1 cm1
    have xm1 : ExAt C1 "row" v2 G9 me1 := eG9 ▸ exAt_own cm1
    rw [← eG9]
    refine ⟨_, rfl, v2, rfl, fun me2 md2 am2 bm2 cm2 => ?_⟩
    obtain ⟨G10, eG10⟩ : ∃ G10, G10 = upd (upd G9 md2 (.xd [("place", v2)])) me2 (ExV C2 md2 me2) := ⟨_, rfl⟩
    have sG10 : Same G9 G10 := eG10 ▸ same_own am2 bm2 cm2
    have xm2 : ExAt C2 "place" v2 G10 me2 := eG10 ▸ exAt_own cm2
    rw [← eG10]
    refine ⟨_, rfl, v2, rfl, fun me3 md3 am3 bm3 cm3 => ?_⟩
    obtain ⟨G11, eG11⟩ : ∃ G11, G11 = upd (upd G10 md3 (.xd [("row", v2)])) me3 (ExV C3 md3 me3) := ⟨_, rfl⟩
    have sG11 : Same G10 G11 := eG11 ▸ same_own am3 bm3 cm3
    have xm3 : ExAt C3 "row" v2 G11 me3 := eG11 ▸ exAt_own cm3
    rw [← eG11]
    refine ⟨(by show 4 ≤ sizeLine; decide), fun m nm => ?_⟩
    obtain ⟨G12, eG12⟩ : ∃ G12, G12 = upd G11 m (.lst [.ref me0, .ref me1, .ref me2, .ref me3]) := ⟨_, rfl⟩
    have sG12 : Same G11 G12 := eG12 ▸ same_new nm
    have fourm : Four C0 C1 C2 C3 v2 G12 m := ⟨_, _, _, _, (by rw [eG12]; exact upd_same), ((((xm0.same sG9).same sG10).same sG11).same sG12), (((xm1.same sG10).same sG11).same sG12), ((xm2.same sG11).same sG12), (xm3.same sG12)⟩
    dsimp only [gName]
    rw [← eG12]
    have sL : Same G2 G12 := (((((((((sG3.trans sG4).trans sG5).trans sG6).trans sG7).trans sG8).trans sG9).trans sG10).trans sG11).trans sG12)
    have sM : Same G7 G12 := ((((sG8.trans sG9).trans sG10).trans sG11).trans sG12)
    have fl : Four C0 C1 C2 C3 v1 G12 l := fourl.same sM
    have t1L : Th G12 v1 d1 := th1.same sL
    have t2L : Th G12 v2 d2 := th2.same sL
    refine ⟨_, rfl, _, rfl, (by show 2 ≤ sizeLine; decide), fun t0 nt0 => ?_⟩
    obtain ⟨G13, eG13⟩ : ∃ G13, G13 = upd G12 t0 (.tup [.ref l, v1]) := ⟨_, rfl⟩
    have sG13 : Same G12 G13 := eG13 ▸ same_new nt0
    have ht0 : G13 t0 = some (.tup [.ref l, v1]) := by rw [eG13]; exact upd_same
    rw [← eG13]
    refine ⟨_, rfl, _, rfl, (by show 2 ≤ sizeLine; decide), fun t1 nt1 => ?_⟩
    obtain ⟨G14, eG14⟩ : ∃ G14, G14 = upd G13 t1 (.tup [.ref m, v2]) := ⟨_, rfl⟩
    have sG14 : Same G13 G14 := eG14 ▸ same_new nt1
    have ht1 : G14 t1 = some (.tup [.ref m, v2]) := by rw [eG14]; exact upd_same
    rw [← eG14]
    refine ⟨_, rfl, _, rfl, (by show 2 ≤ sizeLine; decide), fun t2 nt2 => ?_⟩
    obtain ⟨G15, eG15⟩ : ∃ G15, G15 = upd G14 t2 (.tup [.ref l, v1]) := ⟨_, rfl⟩
    have sG15 : Same G14 G15 := eG15 ▸ same_new nt2
    have ht2 : G15 t2 = some (.tup [.ref l, v1]) := by rw [eG15]; exact upd_same
    rw [← eG15]
    refine ⟨(by show 3 ≤ sizeLine; decide), fun lq nq => ?_⟩
    obtain ⟨GQ, eQ⟩ : ∃ GQ, GQ = upd G15 lq (.lst [.ref t0, .ref t1, .ref t2]) := ⟨_, rfl⟩
    have sQ : Same G15 GQ := eQ ▸ same_new nq
    have hq : GQ lq = some (.lst [.ref t0, .ref t1, .ref t2]) := by rw [eQ]; exact upd_same
    rw [← eQ]
    have s3 : Same G12 GQ := ((sG13.trans sG14).trans sG15).trans sQ
    have h0 : GQ t0 = some (.tup [.ref l, v1]) := sQ _ _ (sG15 _ _ (sG14 _ _ ht0))
    have h1 : GQ t1 = some (.tup [.ref m, v2]) := sQ _ _ (sG15 _ _ ht1)
    have h2 : GQ t2 = some (.tup [.ref l, v1]) := sQ _ _ ht2
    have fQ := fl.same s3
    have gQ := fourm.same s3
    have t1Q := t1L.same s3
    have t2Q := t2L.same s3
    have hTQ : Tp GQ p (8 * (j + 1)) := (hTb.same sL).same s3
    have sHQ : Same H' GQ := (sG2.trans sL).trans s3
    refine ⟨lq, rfl, ⟨_, SqL.of hq⟩, for_list (K := K) (a := lq) (xs := [.ref t0, .ref t1, .ref t2]) (fun i σ H'' => ∃ w1 w3 w8 w9 wa wb wc : Option V, σ = [some (.ref a), w1, some (.ref p), w3, some v1, some v2, some (.ref l), some (.ref m), w8, w9, wa, wb, wc] ∧ Same GQ H'')
      ⟨_, _, _, _, _, _, _, rfl, Same.refl _⟩ (fun i σ H'' _ ⟨_, _, _, _, _, _, _, _, s⟩ => s.seq (SqL.of hq)) ?_ (fun σ H'' ⟨_, _, _, _, _, _, _, e, s⟩ => ⟨_, _, _, _, _, _, _, _, _, _, _, e, hTQ.same s, sHQ.trans s⟩)⟩
    rintro i x σ R hix ⟨w1, w3, w8, w9, wa, wb, wc, rfl, sR⟩
    obtain ⟨t, lo, v, d, rfl, ht, fo, th⟩ : ∃ (t lo : Addr) (v : V) (d : PyData), x = .ref t ∧ R t = some (.tup [.ref lo, v]) ∧ Four C0 C1 C2 C3 v R lo ∧ Th R v d := by
      have hlt := (List.getElem?_eq_some_iff.mp hix).1
      have : i = 0 ∨ i = 1 ∨ i = 2 := by have : i < 3 := hlt; omega
      rcases this with rfl | rfl | rfl
      · exact ⟨t0, l, v1, d1, (Option.some.inj hix).symm, sR _ _ h0, fQ.same sR, t1Q.same sR⟩
      · exact ⟨t1, m, v2, d2, (Option.some.inj hix).symm, sR _ _ h1, gQ.same sR, t2Q.same sR⟩
      · exact ⟨t2, l, v1, d1, (Option.some.inj hix).symm, sR _ _ h2, fQ.same sR, t1Q.same sR⟩
    refine ⟨t, [.ref lo, v], rfl, SqT.of ht, rfl, _, [v], rfl, _, [], rfl, rfl, ?_⟩
    obtain ⟨e0, e1, e2, e3, hlo, ⟨d0, xa0, xb0⟩, ⟨dd1, xa1, xb1⟩, ⟨dd2, xa2, xb2⟩, ⟨d3, xa3, xb3⟩⟩ := fo
    refine ⟨_, rfl, lo, _, 0, _, rfl, rfl, SqL.of hlo, atI_nat (j := 0) rfl, e0, d0, C0, _, v, rfl, xa0, T0.xf, T0.tx.noN, xb0, by simp [List.lookup], ?_⟩
    refine ⟨_, rfl, lo, _, 1, _, rfl, rfl, SqL.of hlo, atI_nat (j := 1) rfl, e1, dd1, C1, _, v, rfl, xa1, T1.xf, T1.tx.noN, xb1, by simp [List.lookup], ?_⟩
    refine ⟨_, rfl, lo, _, 2, _, rfl, rfl, SqL.of hlo, atI_nat (j := 2) rfl, e2, dd2, C2, _, v, rfl, xa2, T2.xf, T2.tx.noN, xb2, by simp [List.lookup], ?_⟩
    refine ⟨_, rfl, lo, _, 3, _, rfl, rfl, SqL.of hlo, atI_nat (j := 3) rfl, e3, d3, C3, _, v, rfl, xa3, T3.xf, T3.tx.noN, xb3, by simp [List.lookup], ?_⟩
    refine ⟨(by show 4 ≤ sizeLine; decide), fun fl' nf => ?_⟩
    obtain ⟨R1, eR1⟩ : ∃ R1, R1 = upd R fl' (.lst [v, v, v, v]) := ⟨_, rfl⟩
    have sR1 : Same R R1 := eR1 ▸ same_new nf
    have hf : R1 fl' = some (.lst [v, v, v, v]) := by rw [eR1]; exact upd_same
    dsimp only [gName]
    rw [← eR1]
    have thR := th.same sR1
    obtain ⟨sh, dp, ft⟩ := th.fits
    refine ⟨_, rfl, fl', 3, v, d, rfl, SqL.of hf, thR.dq, sh, by omega, four_fits ft, ?_⟩
    refine ⟨_, rfl, (by show 1 ≤ sizeLine; decide), fun m1 nm1 => ?_⟩
    have sR2 := same_new (o := .lst [v]) nm1
    refine ⟨m1, 4, [v], rfl, rfl, upd_same, by decide, by decide, (by show 4 ≤ sizeLine; decide), fun m2 nm2 => ?_⟩
    have sR3 := same_new (o := .lst [v, v, v, v]) nm2
    refine ⟨m2, 3, v, d, rfl, SqL.of upd_same, ((thR.same sR2).same sR3).dq, sh, by omega, four_fits ft, rfl, _, rfl, ?_⟩
    refine iteNS rfl ?_
    obtain ⟨R4, eR4⟩ : ∃ R4, R4 = upd (upd R1 m1 (.lst [v])) m2 (.lst (List.replicate (4 : Int).toNat [v]).flatten) := ⟨_, rfl⟩
    have sR4 : Same R R4 := eR4 ▸ (sR1.trans sR2).trans sR3
    -- READ2
    have hlo4 := sR4 _ _ hlo
    refine ⟨_, rfl, lo, _, rfl, SqL.of (eR4 ▸ hlo4), fun D nD => ?_⟩
    rw [← eR4] at nD ⊢
    refine ⟨fun i m H'' => i + m = 4 ∧ Same R4 H'' ∧ H'' D = some (.lst ((List.replicate i true).map V.bl)), ⟨4, rfl, same_new nD, upd_same⟩, ?_⟩
    rintro i m R5 ⟨him, s5, hD⟩
    by_cases hi4 : i < 4
    · refine .inr ⟨⟨_, _, SqL.of (s5 _ _ hlo4), List.getElem?_eq_getElem (by exact hi4)⟩, fun H'' => Same R4 H'' ∧ H'' D = some (.lst ((List.replicate (i + 1) true).map V.bl)), fun H'' h => ⟨m - 1, by omega, by omega, h⟩, ?_⟩
      rintro x R6 ⟨T, y, rfl, nT, rfl, hy⟩
      have hyi := hy _ (SqL.of (s5 _ _ hlo4))
      have s6 : Same R5 (upd R5 T (.tup [.int (i : Nat), y])) := same_new nT
      refine ⟨T, [.int (i : Nat), y], rfl, SqT.of upd_same, rfl, _, [y], rfl, _, [], rfl, rfl, rfl, ?_⟩
      refine iteT (B := True) ?_
      have fin : ∀ R7 : Hp, Same (upd R5 T (.tup [.int (i : Nat), y])) R7 → ∃ acc, R7 D = some (.lst acc) ∧ acc.length < sizeLine ∧ Same R4 (upd R7 D (.lst (acc ++ [.bl true]))) ∧ (upd R7 D (.lst (acc ++ [.bl true]))) D = some (.lst ((List.replicate (i + 1) true).map V.bl)) := fun R7 s7 => by
        refine ⟨_, s7 _ _ (s6 _ _ hD), ?_, fun b o e => ?_, ?_⟩
        · rw [List.length_map, List.length_replicate]
          exact Nat.lt_of_lt_of_le hi4 (by decide)
        · rw [upd_ne (ne_of_none e nD)]
          exact s7 _ _ (s6 _ _ (s5 _ _ e))
        · rw [upd_same, List.replicate_succ', List.map_append]
          rfl
      have cs : i = 0 ∨ i = 1 ∨ i = 2 ∨ i = 3 := by omega
      rcases cs with rfl | rfl | rfl | rfl
      · cases (Option.some.inj hyi).symm.trans (show _ = V.ref e0 from rfl)
        exact ⟨_, rfl, _, rfl, e0, d0, C0, _, 0, rfl, by decide, s6 _ _ (s5 _ _ (sR4 _ _ xa0)), s6 _ _ (s5 _ _ (sR4 _ _ xb0)), T0.ki, fin⟩
      · cases (Option.some.inj hyi).symm.trans (show _ = V.ref e1 from rfl)
        exact ⟨_, rfl, _, rfl, e1, dd1, C1, _, 1, rfl, by decide, s6 _ _ (s5 _ _ (sR4 _ _ xa1)), s6 _ _ (s5 _ _ (sR4 _ _ xb1)), T1.ki, fin⟩
      · cases (Option.some.inj hyi).symm.trans (show _ = V.ref e2 from rfl)
        exact ⟨_, rfl, _, rfl, e2, dd2, C2, _, 2, rfl, by decide, s6 _ _ (s5 _ _ (sR4 _ _ xa2)), s6 _ _ (s5 _ _ (sR4 _ _ xb2)), T2.ki, fin⟩
      · cases (Option.some.inj hyi).symm.trans (show _ = V.ref e3 from rfl)
        exact ⟨_, rfl, _, rfl, e3, d3, C3, _, 3, rfl, by decide, s6 _ _ (s5 _ _ (sR4 _ _ xa3)), s6 _ _ (s5 _ _ (sR4 _ _ xb3)), T3.ki, fin⟩
    · have e4 : i = 4 := by omega
      subst e4
      refine .inl ⟨⟨_, SqL.of (s5 _ _ hlo4), Nat.le_refl 4⟩, D, List.replicate 4 true, rfl, SqL.of hD, _, rfl, ?_⟩
      refine iteF ?_
      exact ⟨_, _, _, _, _, _, _, rfl, sR.trans (sR4.trans s5)⟩
end
end K

set_option maxRecDepth 100000
set_option maxHeartbeats 3900000
namespace K
open PySem PySem.Spec PyProof.Rows L2
section
variable {P : Program} {K : PySem.W.Frag} {h : Heap} {mg : Str → Option Value}
/-- a class's facts as Txt asks them, out of the written part's answers -/
theorem txt_mk {x n : Str} {C fI CB cda cc : Addr} {c cB : ClassData} {oc kV doc pm ct ccl cl : Value} {od an cdd cld : Option Addr} {osl ccs csl : Array (Option Value)} {vs : Array Value} {p1 p2 q1 q2 q3 q4 q5 q6 q7 q8 q9 q0 : Pos} {text qual file : Str} {k1 : Nat} {tf : Tok}
    (X : K.In h) (G : h.Ns mainGlobals mg) (aC : PySem.W.nsIn K mainGlobals x = some (some (.ref C))) (aS : PySem.W.nsIn K mainGlobals "super" = some none)
    (aB : PySem.W.nsIn K mainGlobals "WithinError" = some (some (.ref CB))) (xC : PySem.W.clsIn K C = some c) (xB : PySem.W.clsIn K CB = some cB) (hm : c.mro = .ref C :: cB.mro) (hv : HandSPX.refsVE cB.mro = true) (hd : c.hasDict = true)
    (fB : PySem.W.findIn K (.ref CB) "__init__" = some (some (.builtin "ValueError.__init__"))) (xi : PySem.W.excInitIn K C PySem.PX.veTail "ValueError.__new__" = true)
    (sa : PySem.W.findIn K (.ref C) "__setattr__" = some (some (.builtin "object.__setattr__"))) (ga : PySem.W.findIn K (.ref C) "__getattribute__" = some (some (.builtin "BaseException.__getattribute__"))) (gg : PySem.W.findIn K (.ref C) "__getattr__" = some none)
    (noN : PySem.W.findIn K (.ref C) n = some none) (iC : PySem.W.findIn K (.ref C) "__init__" = some (some (.ref fI))) (tC : PySem.W.typeIn K (.ref fI) = some (.type "function")) (kC : PySem.W.keepIn K (.ref C) = true)
    (exC : PySem.W.subIn K (.ref C) (.type "BaseException") = some true) (veC : PySem.W.subIn K (.ref C) (.type "ValueError") = some true) (tyC : PySem.W.typeIn K (.ref C) = some (.type "type")) (hdC : PySem.W.hasDictIn K C = true)
    (tp : PySem.W.nsIn K cStatics "thirdparty.any" = some none) (top : (P.main.scope.names.lookup ("super" : Str)).isSome = false)
    (l : K.lookup fI = some ⟨oc, od, .func (PySem.W.ksFn "__init__" qual (PySem.Own.oA n p1 p2) (PySem.Own.oB n text k1 q1 q2 q3 q4 q5 q6 q7 q8 q9 q0) (PySem.Own.oS n) .none kV doc pm an (.ref cda) ct cc), osl⟩) (lI : PySem.W.codeIn K (.ref cda) qual = true)
    (ld : K.lookup cda = some ⟨ccl, cdd, .fields vs, ccs⟩) (lv : vs[2]? = some (.str file tf)) (lf : ((P.main.file : Str) == file) = true) (lc : K.lookup cc = some ⟨cl, cld, .cell (some (.ref C)), csl⟩)
    (nms : (PySem.Own.oS n).names.lookup ("super" : Str) = some .globalImplicit ∧ (PySem.Own.oS n).names.lookup ("__class__" : Str) = some .free ∧ (PySem.Own.oS n).names.lookup ("self" : Str) = some .local ∧ (PySem.Own.oS n).names.lookup n = some .local ∧ (∀ x ∈ (PySem.Own.oS n).names, x.2 ≠ .cell))
    (b1 : ∀ u v : Value, bindArgs (PySem.W.ksFn "__init__" qual (PySem.Own.oA n p1 p2) (PySem.Own.oB n text k1 q1 q2 q3 q4 q5 q6 q7 q8 q9 q0) (PySem.Own.oS n) .none kV doc pm an (.ref cda) ct cc) ⟨[u, v], []⟩ = pure [(("self" : Str), u), (n, v)])
    (b2 : ∀ u v : Value, bindArgs (PySem.W.ksFn "__init__" qual (PySem.Own.oA n p1 p2) (PySem.Own.oB n text k1 q1 q2 q3 q4 q5 q6 q7 q8 q9 q0) (PySem.Own.oS n) .none kV doc pm an (.ref cda) ct cc) ⟨[u], [(n, v)]⟩ = pure [(("self" : Str), u), (n, v)])
    (e1 : (("self" : Str) == n) = false) (e2 : (n == ("__debug__" : Str)) = false) (e3 : (q3.endLine == q5.line) = true) : PySem.Own.Txt P K mg x n C fI := by
  obtain ⟨cB', e4, e5⟩ := PySem.W.kw_along fB
  rw [xB] at e4
  cases e4
  exact { gC := PySem.W.mg_of X G aC, cls := xi, cd := ⟨c, cB.mro, xC, hm, hv, hd, e5⟩, sa := sa, ga := ga, gg := gg, noN := noN, iC := iC, tC := tC, kC := kC, exC := exC, veC := veC, tyC := tyC, hdC := hdC, tp := tp, gS := PySem.W.mg_none_of X G aS, top := top,
          fn := ⟨_, _, _, _, _, _, _, _, _, _, _, _, _, _, _, _, _, _, _, _, _, _, _, _, _, _, _, _, _, _, _, _, _, _, _, l, lI, nms, ld, lv, lf, lc, b1, b2, e1, e2, e3⟩ }
/-- one class of the four, with what isinstance asks -/
theorem cf_mk {x n : Str} {C fI C0 C1 C2 C3 CB : Addr} {c : ClassData} {b0 b1 b2 b3 : Bool} (T : PySem.Own.Txt P K mg x n C fI) (xC : PySem.W.clsIn K C = some c)
    (ha : PySem.W.findIn K (.ref C) "__class__" = some (some (.builtin "object.__class__"))) (hn : PySem.W.specialIn K (.builtin "object.__class__") "__get__" = some (some (.builtin "getset_descriptor.__get__"))) (ht : PySem.W.takesIn K (.builtin "object.__class__") = some true)
    (hm : PySem.W.mroIn K C (.type "object") = some true) (k0 : PySem.W.kitOne K (.ref C) (.ref C0) = some b0) (k1 : PySem.W.kitOne K (.ref C) (.ref C1) = some b1) (k2 : PySem.W.kitOne K (.ref C) (.ref C2) = some b2) (k3 : PySem.W.kitOne K (.ref C) (.ref C3) = some b3)
    (kB : PySem.W.kitOne K (.ref C) (.ref CB) = some true) (kV : PySem.W.kitOne K (.ref C) (.type "ValueError") = some true) : CF P K mg x n C fI C0 C1 C2 C3 CB b0 b1 b2 b3 :=
  ⟨T, ⟨⟨T.ga, T.gg, T.exC, T.hdC, ha, hn, ht, hm⟩, by rw [xC]; rfl, k0, k1, k2, k3, kB, kV⟩⟩
/-- the law's promise, out of its parts -/
theorem all_mk {w : World} {fa C0 C1 C2 C3 CB i0 i1 i2 i3 fT fD fP fG fK fL : Addr} {fdT fdD fdP fdG fdK fdL : FuncData} (X : K.In h) (G : h.Ns mainGlobals mg) (hfa : mg "law" = some (.ref fa))
    (T0 : CF P K mg "NoProgram" "spot" C0 i0 C0 C1 C2 C3 CB true false false false) (T1 : CF P K mg "NoText" "row" C1 i1 C0 C1 C2 C3 CB false true false false)
    (T2 : CF P K mg "NoPlace" "place" C2 i2 C0 C1 C2 C3 CB false false true false) (T3 : CF P K mg "NoRow" "row" C3 i3 C0 C1 C2 C3 CB false false false true)
    (aB : PySem.W.nsIn K mainGlobals "WithinError" = some (some (.ref CB)))
    (nR : PySem.W.nsIn K mainGlobals "range" = some none) (nM : PySem.W.nsIn K mainGlobals "max" = some none) (nm : PySem.W.nsIn K mainGlobals "min" = some none) (nL : PySem.W.nsIn K mainGlobals "len" = some none) (nr : PySem.W.nsIn K mainGlobals "repr" = some none)
    (nA : PySem.W.nsIn K mainGlobals "all" = some none) (nE : PySem.W.nsIn K mainGlobals "enumerate" = some none) (nI : PySem.W.nsIn K mainGlobals "isinstance" = some none) (nV : PySem.W.nsIn K mainGlobals "ValueError" = some none)
    (aT : PySem.W.nsIn K mainGlobals "_law_tape" = some (some (.ref fT))) (FT : Fun K "_law_tape" "_law_tape" sTape fT fdT)
    (aD : PySem.W.nsIn K mainGlobals "_law_draw" = some (some (.ref fD))) (FD : Fun K "_law_draw" "_law_draw" sDraw fD fdD)
    (aP : PySem.W.nsIn K mainGlobals "_law_pick" = some (some (.ref fP))) (FP : Fun K "_law_pick" "_law_pick" sPick fP fdP)
    (aG : PySem.W.nsIn K mainGlobals "_law_thing" = some (some (.ref fG))) (FG : Fun K "_law_thing" "_law_thing" sThing fG fdG)
    (aK : PySem.W.nsIn K mainGlobals "_law_of_one_kind" = some (some (.ref fK))) (FK : Fun K "_law_of_one_kind" "_law_of_one_kind" sKind fK fdK)
    (aL : PySem.W.nsIn K mainGlobals "law" = some (some (.ref fL))) (FL : Fun K "law" "law" sLaw fL fdL) :
    ∃ fd : FuncData, (∀ (s : Shared) (u : Value), BindsTo s fd ⟨[u], []⟩ [("script", u)]) ∧ ∀ base : Heap, K.In base → base.Ns mainGlobals mg → FnG P w K mg base CX0 4 fa fd ["script"] (spLaw K) := by
  have e := hfa.symm.trans (PySem.W.mg_of X G aL)
  cases e
  have g := fun {y : Str} {v : Value} (e : PySem.W.nsIn K mainGlobals y = some (some v)) => PySem.W.mg_of X G e
  have o := fun {y : Str} (e : PySem.W.nsIn K mainGlobals y = some none) => PySem.W.mg_none_of X G e
  have bT : Binds K fdT ["script", "k"] [] := FT.binds fun _ _ _ _ _ _ us hl => match us, hl with | [_, _], _ => rfl
  have bD : Binds K fdD ["tape", "many"] [] := FD.binds fun _ _ _ _ _ _ us hl => match us, hl with | [_, _], _ => rfl
  have bP : Binds K fdP ["tape", "some"] [] := FP.binds fun _ _ _ _ _ _ us hl => match us, hl with | [_, _], _ => rfl
  have bG : Binds K fdG ["tape"] [] := FG.binds fun _ _ _ _ _ _ us hl => match us, hl with | [_], _ => rfl
  have bK : Binds K fdK ["one", "at"] [] := FK.binds fun _ _ _ _ _ _ us hl => match us, hl with | [_, _], _ => rfl
  have B : Bt mg := ⟨o nR, o nM, o nm, o nL, o nr, o nA, o nE⟩
  have N : Nm mg C0 C1 C2 C3 CB := ⟨T0.tx.gC, T1.tx.gC, T2.tx.gC, T3.tx.gC, g aB, o nI, o nV, o nR⟩
  refine ⟨fdL, fun s u => ?_, fun base _ _ => ok_law FL B (ok_tape FT (o nL)) (g aT) FT.kp bT (ok_thing FG (o nL) FD (g aD) bD FP (g aP) bP) (g aG) FG.kp bG (ok_kind FK N) (g aK) FK.kp bK T0 T1 T2 T3⟩
  obtain ⟨_, _, _, _, _, _, _, _, _, rfl, _, _⟩ := FL.ex
  exact .of_eq rfl
end
end K

open PySem PySem.W PyProof.Rows
set_option maxRecDepth 100000 in
set_option maxHeartbeats 0 in
theorem PySem.Challenge.cw_withinall_k08_refusals_made_holds : PySem.Challenge.rw_withinall_k08_refusals_made.Holds := by
  w_on; o_law; k_head; (case hw => w_witness2)
  k_fill
  refine L2.walkG (l := PySem.Challenge.rw_withinall_k08_refusals_made) (n := 63) (k := 4) (x := "script") (sp := K.spLaw) rfl (by decide) rfl ⟨rfl, by decide, by decide⟩ (fun w h Y => PySem.W.kIn_of Y) ?F (fun K H a ns h1 _ h3 => ⟨a, ns, rfl, h3, h1, fun _ => rfl⟩)
  case F =>
    intro w mg fa h KX G hmg
    refine' K.all_mk KX G hmg ?T0 ?T1 ?T2 ?T3 ?aB ?nR ?nM ?nm ?nL ?nr ?nA ?nE ?nI ?nV ?aT ?FT ?aD ?FD ?aP ?FP ?aG ?FG ?aK ?FK ?aL ?FL
    (case aB => k_is); (case nR => k_is); (case nM => k_is); (case nm => k_is); (case nL => k_is); (case nr => k_is); (case nA => k_is); (case nE => k_is); (case nI => k_is); (case nV => k_is)
    (case aT => k_is); (case FT => refine' L2.fun_mk ?l ?c ?k; (case l => k_is); (case c => k_is); (case k => k_is))
    (case aD => k_is); (case FD => refine' L2.fun_mk ?l ?c ?k; (case l => k_is); (case c => k_is); (case k => k_is))
    (case aP => k_is); (case FP => refine' L2.fun_mk ?l ?c ?k; (case l => k_is); (case c => k_is); (case k => k_is))
    (case aG => k_is); (case FG => refine' L2.fun_mk ?l ?c ?k; (case l => k_is); (case c => k_is); (case k => k_is))
    (case aK => k_is); (case FK => refine' L2.fun_mk ?l ?c ?k; (case l => k_is); (case c => k_is); (case k => k_is))
    (case aL => k_is); (case FL => refine' L2.fun_mk ?l ?c ?k; (case l => k_is); (case c => k_is); (case k => k_is))
    case' T0 => refine' K.cf_mk (K.txt_mk KX G ?aC0 ?aS0 ?aB0 ?xC0 ?xB0 ?hm0 ?hv0 ?hd0 ?fB0 ?xi0 ?sa0 ?ga0 ?gg0 ?noN0 ?iC0 ?tC0 ?kC0 ?exC0 ?veC0 ?tyC0 ?hdC0 ?tp0 ?top0 ?l0 ?lI0 ?ld0 ?lv0 ?lf0 ?lc0 ?nms0 ?b10 ?b20 ?e10 ?e20 ?e30) ?cx0 ?ha0 ?hn0 ?ht0 ?ho0 ?p00 ?p10 ?p20 ?p30 ?pB0 ?pV0
    case' T1 => refine' K.cf_mk (K.txt_mk KX G ?aC1 ?aS1 ?aB1 ?xC1 ?xB1 ?hm1 ?hv1 ?hd1 ?fB1 ?xi1 ?sa1 ?ga1 ?gg1 ?noN1 ?iC1 ?tC1 ?kC1 ?exC1 ?veC1 ?tyC1 ?hdC1 ?tp1 ?top1 ?l1 ?lI1 ?ld1 ?lv1 ?lf1 ?lc1 ?nms1 ?b11 ?b21 ?e11 ?e21 ?e31) ?cx1 ?ha1 ?hn1 ?ht1 ?ho1 ?p01 ?p11 ?p21 ?p31 ?pB1 ?pV1
    case' T2 => refine' K.cf_mk (K.txt_mk KX G ?aC2 ?aS2 ?aB2 ?xC2 ?xB2 ?hm2 ?hv2 ?hd2 ?fB2 ?xi2 ?sa2 ?ga2 ?gg2 ?noN2 ?iC2 ?tC2 ?kC2 ?exC2 ?veC2 ?tyC2 ?hdC2 ?tp2 ?top2 ?l2 ?lI2 ?ld2 ?lv2 ?lf2 ?lc2 ?nms2 ?b12 ?b22 ?e12 ?e22 ?e32) ?cx2 ?ha2 ?hn2 ?ht2 ?ho2 ?p02 ?p12 ?p22 ?p32 ?pB2 ?pV2
    case' T3 => refine' K.cf_mk (K.txt_mk KX G ?aC3 ?aS3 ?aB3 ?xC3 ?xB3 ?hm3 ?hv3 ?hd3 ?fB3 ?xi3 ?sa3 ?ga3 ?gg3 ?noN3 ?iC3 ?tC3 ?kC3 ?exC3 ?veC3 ?tyC3 ?hdC3 ?tp3 ?top3 ?l3 ?lI3 ?ld3 ?lv3 ?lf3 ?lc3 ?nms3 ?b13 ?b23 ?e13 ?e23 ?e33) ?cx3 ?ha3 ?hn3 ?ht3 ?ho3 ?p03 ?p13 ?p23 ?p33 ?pB3 ?pV3
    (case aC0 => k_is)
    (case aC1 => k_is)
    (case aC2 => k_is)
    (case aC3 => k_is)
    (case aS0 => k_is); (case aB0 => k_is); (case xC0 => k_is); (case xB0 => k_is); (case hm0 => rfl); (case hv0 => rfl); (case hd0 => rfl); (case fB0 => k_is); (case xi0 => kx_is); (case sa0 => k_is); (case ga0 => k_is); (case gg0 => k_is); (case noN0 => k_is); (case iC0 => k_is); (case tC0 => k_is); (case kC0 => k_is); (case exC0 => k_is); (case veC0 => k_is); (case tyC0 => k_is); (case hdC0 => k_is); (case tp0 => k_is); (case top0 => decide +kernel); (case l0 => k_is); (case lI0 => k_is); (case ld0 => k_is); (case lv0 => rfl); (case lf0 => decide +kernel); (case lc0 => k_is); (case nms0 => exact ⟨rfl, rfl, rfl, rfl, by decide +kernel⟩); (case b10 => exact fun _ _ => rfl); (case b20 => exact fun _ _ => rfl); (case e10 => decide +kernel); (case e20 => decide +kernel); (case e30 => decide +kernel)
    (case cx0 => k_is); (case ha0 => k_is); (case hn0 => k_is); (case ht0 => k_is); (case ho0 => k_is); (case p00 => kit_is); (case p10 => kit_is); (case p20 => kit_is); (case p30 => kit_is); (case pB0 => kit_is); (case pV0 => kit_is)
    (case aS1 => k_is); (case aB1 => k_is); (case xC1 => k_is); (case xB1 => k_is); (case hm1 => rfl); (case hv1 => rfl); (case hd1 => rfl); (case fB1 => k_is); (case xi1 => kx_is); (case sa1 => k_is); (case ga1 => k_is); (case gg1 => k_is); (case noN1 => k_is); (case iC1 => k_is); (case tC1 => k_is); (case kC1 => k_is); (case exC1 => k_is); (case veC1 => k_is); (case tyC1 => k_is); (case hdC1 => k_is); (case tp1 => k_is); (case top1 => decide +kernel); (case l1 => k_is); (case lI1 => k_is); (case ld1 => k_is); (case lv1 => rfl); (case lf1 => decide +kernel); (case lc1 => k_is); (case nms1 => exact ⟨rfl, rfl, rfl, rfl, by decide +kernel⟩); (case b11 => exact fun _ _ => rfl); (case b21 => exact fun _ _ => rfl); (case e11 => decide +kernel); (case e21 => decide +kernel); (case e31 => decide +kernel)
    (case cx1 => k_is); (case ha1 => k_is); (case hn1 => k_is); (case ht1 => k_is); (case ho1 => k_is); (case p01 => kit_is); (case p11 => kit_is); (case p21 => kit_is); (case p31 => kit_is); (case pB1 => kit_is); (case pV1 => kit_is)
    (case aS2 => k_is); (case aB2 => k_is); (case xC2 => k_is); (case xB2 => k_is); (case hm2 => rfl); (case hv2 => rfl); (case hd2 => rfl); (case fB2 => k_is); (case xi2 => kx_is); (case sa2 => k_is); (case ga2 => k_is); (case gg2 => k_is); (case noN2 => k_is); (case iC2 => k_is); (case tC2 => k_is); (case kC2 => k_is); (case exC2 => k_is); (case veC2 => k_is); (case tyC2 => k_is); (case hdC2 => k_is); (case tp2 => k_is); (case top2 => decide +kernel); (case l2 => k_is); (case lI2 => k_is); (case ld2 => k_is); (case lv2 => rfl); (case lf2 => decide +kernel); (case lc2 => k_is); (case nms2 => exact ⟨rfl, rfl, rfl, rfl, by decide +kernel⟩); (case b12 => exact fun _ _ => rfl); (case b22 => exact fun _ _ => rfl); (case e12 => decide +kernel); (case e22 => decide +kernel); (case e32 => decide +kernel)
    (case cx2 => k_is); (case ha2 => k_is); (case hn2 => k_is); (case ht2 => k_is); (case ho2 => k_is); (case p02 => kit_is); (case p12 => kit_is); (case p22 => kit_is); (case p32 => kit_is); (case pB2 => kit_is); (case pV2 => kit_is)
    (case aS3 => k_is); (case aB3 => k_is); (case xC3 => k_is); (case xB3 => k_is); (case hm3 => rfl); (case hv3 => rfl); (case hd3 => rfl); (case fB3 => k_is); (case xi3 => kx_is); (case sa3 => k_is); (case ga3 => k_is); (case gg3 => k_is); (case noN3 => k_is); (case iC3 => k_is); (case tC3 => k_is); (case kC3 => k_is); (case exC3 => k_is); (case veC3 => k_is); (case tyC3 => k_is); (case hdC3 => k_is); (case tp3 => k_is); (case top3 => decide +kernel); (case l3 => k_is); (case lI3 => k_is); (case ld3 => k_is); (case lv3 => rfl); (case lf3 => decide +kernel); (case lc3 => k_is); (case nms3 => exact ⟨rfl, rfl, rfl, rfl, by decide +kernel⟩); (case b13 => exact fun _ _ => rfl); (case b23 => exact fun _ _ => rfl); (case e13 => decide +kernel); (case e23 => decide +kernel); (case e33 => decide +kernel)
    (case cx3 => k_is); (case ha3 => k_is); (case hn3 => k_is); (case ht3 => k_is); (case ho3 => k_is); (case p03 => kit_is); (case p13 => kit_is); (case p23 => kit_is); (case p33 => kit_is); (case pB3 => kit_is); (case pV3 => kit_is)

