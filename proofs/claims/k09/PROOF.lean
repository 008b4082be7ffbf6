import PyProof.Rows.All
import Wide.All
import OpenK.AllK
import Wide.FinOn
import KE.KExcSuper
import HandS.Base
import HandS.Call
import HandS.List
import HandS.Ends
import HandS.Exc
import HandS.ForMost
import HandS.ExcField
import HandS.ExcIs
import HandS.IsInst
import HandS.Wide
import KE.KExcIs
import HandS.DeepEq
import HandS.OwnEq
import PyProof.Rows.ReprOcc
import PyProof.StrLawsIn
import HandS.Text
import HandS.DictComp
import HandS.SetFor
import HandS.Dict
import HandS.More
import HandS.Codes
import HandS.Flt
import HandS.Defaults
import HandS.Zip
import HandS.Walk
import KE.GoesZip
import KE.GoesMore
import KE.GoesEnum
import HandS.TupMul
import HandS.Lambda
import HandS.Comp
import HandS.Star
import HandS.TupAny
import HandS.Conv
import HandS.Style
import HandS.Small
import HandS.NoneIn
import HandS.SortRule
import HandS.SortOrd
import KE.SortKeyHeap
import HandS.TupSets
import HandS.Strs
import HandS.Finally
import HandS.Flow
import HandS.EndTab
import KE.KNestM
import PySem.Challenge.RW_withinall_k09_one_step
set_option Elab.async false
set_option linter.all false
set_option maxRecDepth 100000
set_option maxHeartbeats 3900000
/-! Own exceptions over ValueError, made by place or by name: the class is called, keywords and all, then its own __init__. -/
namespace PySem
namespace Own
open HandSPX

/-- what the heap keeps of such a class, in one bundle -/
structure Kl where
  (nm qn : Str) (ns : Addr) (bs bm : List Value) (hd : Bool) (sn : List Str) (sb : List Value)
  (ab : Bool) (co : Option Bool) (dd : Option Addr) (s0 s1 s2 s3 s5 : Option Value)
def Kl.obj (c : Kl) (C : Addr) : Obj :=
  excClassObj c.nm c.qn C c.ns c.bs c.bm c.hd c.sn c.sb c.ab c.co c.dd c.s0 c.s1 c.s2 c.s3 c.s5 "ValueError.__new__"
/-- at C in h stands such a class, its chain ends as ValueError's does -/
def KlAt (h : Heap) (C : Addr) : Prop :=
  ∃ c : Kl, h.get? C = some (c.obj C) ∧ ∀ X : String, c.bm.contains (.type X) = veTail.contains (.type X)
theorem klAt_of {K : W.Frag} {h : Heap} {C : Addr} (X : K.In h)
    (q : W.excInitIn K C veTail "ValueError.__new__" = true) : KlAt h C := by
  obtain ⟨nm, ns, qn, bs, bm, hd, sn, sb, ab, co, dd, s0, s1, s2, s3, s5, e, t⟩ := W.excInit_of X q
  exact ⟨⟨nm, qn, ns, bs, bm, hd, sn, sb, ab, co, dd, s0, s1, s2, s3, s5⟩, e, t⟩
theorem KlAt.keep {h h' : Heap} {C : Addr} (x : KlAt h C)
    (k : ∀ b o, h.get? b = some o → h'.get? b = some o) : KlAt h' C :=
  let ⟨c, e, t⟩ := x; ⟨c, k _ _ e, t⟩

abbrev VE := F.excBase_ValueError
/-- the freshly made object, its args laid ahead of it -/
abbrev fresh (h : Heap) (C : Addr) (xs : List Value) : Heap := (h.push (W.kdv_tup xs)).push (excO C h.objs.size)

section
variable {M : Model} {A : Around} {X : Value → Shared → Prop} {h : Heap} {C : Addr}
  {gs : Array GenState} {dr : Drawn} {tk : Nat} {os : OsState} {xs : List Value} {kw : List (Str × Value)}

theorem new_checked {Q : Unit → Shared → Prop} (k : KlAt h C) (hq : Q () ⟨h, gs, dr, tk, os⟩) :
    wpAny M A (checkBuiltinCall "ValueError.__new__" ⟨.ref C :: xs, kw⟩) Q X ⟨h, gs, dr, tk, os⟩ := by
  obtain ⟨c, hC, t⟩ := k
  have inB : (Value.ref C :: c.bm).contains (.type "ValueError") = true := by
    rw [List.contains_cons, t, VE.hasB]
    exact Bool.or_true _
  have star := VE.noStar
  simp only [checkBuiltinCall, VE.newSplit, VE.newRow, VE.newKind]
  unfold Kl.obj at hC
  repeat first
    | refine wpAny_staticBase_exc hC ?_
    | refine wpAny_madeBy_exc hC ?_
    | refine wpAny_loadPart_at hC ?_
    | (refine wpAny_isSubtype_exc hC ?_
       rw [inB])
    | simp only [bne_self_eq_false, if_false, Bool.false_eq_true]
    | wp_step
  exact hq
theorem call_checked {Q : Unit → Shared → Prop} (k : KlAt h C) (hq : Q () ⟨h, gs, dr, tk, os⟩) :
    wpAny M A (checkBuiltinCall "type.__call__" ⟨.ref C :: xs, kw⟩) Q X ⟨h, gs, dr, tk, os⟩ := by
  obtain ⟨c, hC, _⟩ := k
  unfold Kl.obj at hC
  have sub := tc_sub
  have ty : (⟨h, gs, dr, tk, os⟩ : Shared).TypeIs (.ref C) "type" := ⟨_, hC, by rfl⟩
  simp only [checkBuiltinCall, tc_split, tc_kind]
  repeat any_goals first
    | assumption
    | with_reducible refine wpAny_map ?_
    | with_reducible refine wpAny_onRaise ?_
    | with_reducible refine wpAny_loadPart_at hC ?_
    | wp_step
end

section
variable {prog : Program} {w : World} {A : Around} {R : Result → Shared → Prop} {h : Heap} {C fI : Addr}
  {gs : Array GenState} {dr : Drawn} {tk : Nat} {os : OsState} {xs : List Value} {kw : List (Str × Value)}

/-- BaseException.__new__: keywords are nothing to it -/
theorem new_made (k : KlAt h C) (small : xs.length ≤ sizeLine)
    (hq : R (.ok (.ret (.ref (h.objs.size + 1)))) ⟨fresh h C xs, gs, dr, tk, os⟩) :
    codeAny (model prog w) A (.builtin "ValueError.__new__" ⟨.ref C :: xs, kw⟩) R ⟨h, gs, dr, tk, os⟩ := by
  obtain ⟨c, hC, t⟩ := k
  unfold Kl.obj at hC
  have inB : (Value.ref C :: c.bm).contains (.type "ValueError") = true := by
    rw [List.contains_cons, t, VE.hasB]
    exact Bool.or_true _
  have noA : (Value.ref C :: c.bm).contains (.type "AttributeError") = false := by
    rw [List.contains_cons, t, VE.noAttr]
    rfl
  have noN : (Value.ref C :: c.bm).contains (.type "NameError") = false := by
    rw [List.contains_cons, t, VE.noName]
    rfl
  have ends := VE.ends
  refine codeAny_builtinAt VE.entry (?_)
  unfold Builtin.«BaseException.__new__» -- the keywords are not looked at
  refine wpAt_bind (show wpAt _ _ _ (stack >>= _) _ _ _ from ?_)
  refine wpAt_bind (wpAt_stack fun _ _ => wpAt_of_wpAny (?_))
  wp_walk
  refine wpAt_of_wpAny ?_
  rw [VE.owner]
  repeat first
    | with_reducible refine wpAny_loadPart_at hC ?_
    | with_reducible refine wpAny_madeHere_exc VE.canon hC ?_
    | (with_reducible refine wpAny_isSubtype_exc hC ?_
       first
         | rw [inB]
         | rw [noA]
         | rw [noN])
    | wp_step
  show R _ _
  rw [Heap.size_push]
  exact hq

/-- type.__call__: made, then the own __init__ with what was handed in -/
theorem called {Q : Fin → Shared → Prop} {X : Value → Shared → Prop} (k : KlAt h C) (small : xs.length ≤ sizeLine)
    (hi : W.Looks (model prog w) h (typeLookup (.ref C) "__init__") (some (.ref fI)))
    (hb : ∀ self, W.Looks (model prog w) h (bindSpecial (.ref fI) self) (.ref fI, [self]))
    (hq : codeAny (model prog w) A (.call (.ref fI) ⟨.ref (h.objs.size + 1) :: xs, kw⟩)
      (fun r s' => match r with
        | .error e => X e s'
        | .ok (.ret v) => v = .none ∧ Q (.done (.ret (.ref (h.objs.size + 1)))) s'
        | .ok _ => False) ⟨fresh h C xs, gs, dr, tk, os⟩) :
    wpAny (model prog w) A (Builtin.«type.__call__» ⟨.ref C :: xs, kw⟩) Q X ⟨h, gs, dr, tk, os⟩ := by
  obtain ⟨c, hC', t⟩ := k
  have k : KlAt h C := ⟨c, hC', t⟩
  have hC := hC'
  unfold Kl.obj at hC
  repeat first
    | with_reducible refine wpAny_madeBy_exc hC ?_
    | with_reducible refine wpAny_loadPart_at hC ?_
    | wp_step
  refine codeAny_call_builtin_code (Code.quiet_builtin _ VE.quiet) (new_checked k (new_made k small ?_))
  show wpAny _ _ _ _ _ _
  have up : ∀ b o, h.get? b = some o → (fresh h C xs).get? b = some o := fun b o e =>
    Heap.get?_push_of_some _ (Heap.get?_push_of_some _ e)
  have hC2 := up _ _ hC
  have it : (fresh h C xs).get? (h.objs.size + 1) = some (excO C h.objs.size) := by
    heap_get
  have self : (Value.ref C :: c.bm).contains (.ref C) = true := by
    simp
  unfold isInstance
  repeat first
    | with_reducible refine wpAny_loadPart_at it ?_
    | (with_reducible refine wpAny_isSubtype_exc hC2 ?_
       rw [self])
    | wp_step
  refine (hi.keeps up).at (?_)
  refine wpAny_holding (wpAny_bind ((((hb (.ref (h.objs.size + 1))).keeps up)).at ?_))
  refine wpAny_bind (wpAny_call (codeAny_mono hq (fun r s' z => ?_)))
  match r, z with
  | .error e, z => exact z
  | .ok (.ret v), ⟨e, z⟩ =>
    subst e
    first
      | exact wpAny_pure (wpAny_pure (by exact z))
      | (wp_walk; exact z)
  | .ok .next, z => exact z.elim
  | .ok .brk, z => exact z.elim
  | .ok .cont, z => exact z.elim

theorem made_of (k : KlAt h C) (small : xs.length ≤ sizeLine)
    (hi : W.Looks (model prog w) h (typeLookup (.ref C) "__init__") (some (.ref fI)))
    (hb : ∀ self, W.Looks (model prog w) h (bindSpecial (.ref fI) self) (.ref fI, [self]))
    (hq : codeAny (model prog w) (A.under (.builtin "type.__call__" ⟨.ref C :: xs, kw⟩))
      (.call (.ref fI) ⟨.ref (h.objs.size + 1) :: xs, kw⟩) (W.InitBack (h.objs.size + 1) R) ⟨fresh h C xs, gs, dr, tk, os⟩) :
    codeAny (model prog w) A (.call (.ref C) ⟨xs, kw⟩) R ⟨h, gs, dr, tk, os⟩ := by
  obtain ⟨c, hC', t⟩ := k
  have k : KlAt h C := ⟨c, hC', t⟩
  have hC := hC'
  unfold Kl.obj at hC
  have look := tc_lookup
  have bind := tc_bind (.ref C)
  have ty : (⟨h, gs, dr, tk, os⟩ : Shared).TypeIs (.ref C) "type" := ⟨_, hC, by rfl⟩
  refine codeAny_of_tree (show wpAny _ _ (callAny (.ref C) _) _ _ _ from ?_)
  repeat any_goals first
    | assumption
    | with_reducible refine wpAny_loadPart_at hC ?_
    | wp_step
  refine ⟨rfl, codeAny_call_builtin_at (Code.quiet_builtin _ (by decide +kernel)) entry_typeCall (call_checked k (called k small hi hb ?_))⟩
  refine codeAny_mono hq (fun r s' z => ?_)
  match r, z with
  | .error e, z => exact z
  | .ok (.ret v), z => exact z
  | .ok .next, z => exact z
  | .ok .brk, z => exact z
  | .ok .cont, z => exact z
end
end Own
end PySem

set_option maxRecDepth 100000
set_option maxHeartbeats 3900000
/-! An own exception's __init__: super().__init__(text), then one field. -/
namespace PySem
namespace Own
open PySem.W PySem.Calls PyProof.Rows HandSPX

abbrev oA (n : Str) (p1 p2 : Pos) : Arguments := { posonlyargs := [], args := [{ arg := "self", annotation := none, pos := p1 }, { arg := n, annotation := none, pos := p2 }], vararg := none, kwonlyargs := [], kw_defaults := [], kwarg := none, defaults := [] }
/-- the scope of such an __init__ -/
abbrev oS (n : Str) : Scope := { kind := .function, names := [("self", .local), (n, .local), ("__class__", .free), ("super", .globalImplicit)], isGenerator := false, isCoroutine := false, more := [] }
abbrev oB (n text : Str) (k1 : Nat) (q1 q2 q3 q4 q5 q6 q7 q8 q9 q0 : Pos) : List Stmt :=
  [.Expr (.Call (.Attribute (.Call (.Name "super" q1) [] [] q2) "__init__" q3) [.Constant (.str text) k1 q4] [] q5) q6,
   .Assign [.Attribute (.Name "self" q7) n q8] (.Name n q9) q0]

/-- what the written part says of an own exception class C, of its __init__ at fI, which keeps one field n -/
structure Txt (prog : Program) (K : Frag) (mg : Str → Option Value) (x n : Str) (C fI : Addr) : Prop where
  gC : mg x = some (.ref C)
  cls : excInitIn K C veTail "ValueError.__new__" = true
  cd : ∃ c bm, clsIn K C = some c ∧ c.mro = .ref C :: bm ∧ refsVE bm = true ∧ c.hasDict = true ∧ alongIn K "__init__" bm = some (some (.builtin "ValueError.__init__"))
  sa : findIn K (.ref C) "__setattr__" = some (some (.builtin "object.__setattr__"))
  ga : findIn K (.ref C) "__getattribute__" = some (some (.builtin "BaseException.__getattribute__"))
  gg : findIn K (.ref C) "__getattr__" = some none
  noN : findIn K (.ref C) n = some none
  iC : findIn K (.ref C) "__init__" = some (some (.ref fI))
  tC : typeIn K (.ref fI) = some (.type "function")
  kC : keepIn K (.ref C) = true
  exC : subIn K (.ref C) (.type "BaseException") = some true
  veC : subIn K (.ref C) (.type "ValueError") = some true
  tyC : typeIn K (.ref C) = some (.type "type")
  hdC : hasDictIn K C = true
  tp : nsIn K cStatics "thirdparty.any" = some none
  gS : mg "super" = none
  top : (prog.main.scope.names.lookup ("super" : Str)).isSome = false
  fn : ∃ (oc : Value) (od : Option Addr) (osl : Array (Option Value)) (dV kV doc pm : Value) (an : Option Addr) (cda cc : Addr) (ct : Value) (p1 p2 q1 q2 q3 q4 q5 q6 q7 q8 q9 q0 : Pos) (text qual : Str) (k1 : Nat)
      (ccl cl : Value) (cdd cld : Option Addr) (vs : Array Value) (ccs csl : Array (Option Value)) (file : Str) (tf : Tok),
    K.lookup fI = some ⟨oc, od, .func (ksFn "__init__" qual (oA n p1 p2) (oB n text k1 q1 q2 q3 q4 q5 q6 q7 q8 q9 q0) (oS n) dV kV doc pm an (.ref cda) ct cc), osl⟩ ∧ codeIn K (.ref cda) qual = true ∧
    ((oS n).names.lookup ("super" : Str) = some .globalImplicit ∧ (oS n).names.lookup ("__class__" : Str) = some .free ∧ (oS n).names.lookup ("self" : Str) = some .local ∧ (oS n).names.lookup n = some .local ∧
      (∀ x ∈ (oS n).names, x.2 ≠ .cell)) ∧
    K.lookup cda = some ⟨ccl, cdd, .fields vs, ccs⟩ ∧ vs[2]? = some (.str file tf) ∧ ((prog.main.file : Str) == file) = true ∧
    K.lookup cc = some ⟨cl, cld, .cell (some (.ref C)), csl⟩ ∧
    (∀ (x v : Value), bindArgs (ksFn "__init__" qual (oA n p1 p2) (oB n text k1 q1 q2 q3 q4 q5 q6 q7 q8 q9 q0) (oS n) dV kV doc pm an (.ref cda) ct cc) ⟨[x, v], []⟩ = pure [(("self" : Str), x), (n, v)]) ∧
    (∀ (x v : Value), bindArgs (ksFn "__init__" qual (oA n p1 p2) (oB n text k1 q1 q2 q3 q4 q5 q6 q7 q8 q9 q0) (oS n) dV kV doc pm an (.ref cda) ct cc) ⟨[x], [(n, v)]⟩ = pure [(("self" : Str), x), (n, v)]) ∧
    (("self" : Str) == n) = false ∧ (n == ("__debug__" : Str)) = false ∧ (q3.endLine == q5.line) = true

/-- what __init__ leaves of a fresh exception at x -/
structure InitEnd (h h' : Heap) (x C dx t1 : Addr) (n : Str) (v : Value) : Prop where
  keep : ∀ b o, b ≠ x → h.get? b = some o → h'.get? b = some o
  obj : h'.get? x = some { cls := .ref C, dict := some dx, data := .fields #[.ref t1, .none, .none, .none, .bool false, .none] }
  dbig : h.objs.size ≤ dx
  dne : dx ≠ x
  ns : h'.Ns1 dx (fun y => if y = n then some v else none)
/-- a made exception -/
structure OwnMade (h h' : Heap) (e C d : Addr) (n : Str) (v : Value) : Prop where
  keep : ∀ b o, h.get? b = some o → h'.get? b = some o
  new : h.objs.size ≤ e
  obj : ∃ oe vs, h'.get? e = some oe ∧ oe.cls = .ref C ∧ oe.dict = some d ∧ oe.data = .fields vs ∧ vs[1]? = some .none ∧ vs[2]? = some .none ∧ 4 < vs.size
  dbig : h.objs.size ≤ d
  dne : d ≠ e
  ns : h'.Ns1 d (fun y => if y = n then some v else none)

theorem drop_own (D : Addr) (r : List Value) :
    ((Value.ref D :: r).dropWhile (· != .ref D)).drop 1 = r := by simp [List.dropWhile_cons]
theorem one_size (v : Value) : [v].length ≤ sizeLine := by
  rw [sizeLine_eq]
  exact (by decide : 1 ≤ 16777216)

section
variable {prog : Program}
variable {w : World}
variable {A : Around} {E : Value → Shared → Prop}
/-- super().__init__(..), the method-wrapper called -/
theorem call_mw {h : Heap} {g : Array GenState} {d : Drawn} {tk : Nat} {os : OsState} {K : Frag} {C u e t0 : Addr} {rest : List Value} {Q : Value → Shared → Prop} (X : K.In h) (q : excInitIn K C veTail "ValueError.__new__" = true)
    (hu : h.get? u = some (kxs_mw "ValueError.__init__" e)) (he : h.get? e = some (excO C t0)) (hz : rest.length ≤ sizeLine)
    (hq : ∀ h' t1, (∀ b o, b ≠ e → h.get? b = some o → h'.get? b = some o) → h'.get? e = some (excO C t1) → Q .none ⟨h', g, d, tk, os⟩) :
    wpAny (model prog w) A (call (.ref u) rest) Q E ⟨h, g, d, tk, os⟩ := by
  obtain ⟨c, hC, _⟩ := klAt_of X q
  unfold Kl.obj at hC
  refine wpAny_call (codeAny_of_tree (show wpAny _ A.in1 (callAny (.ref u) ⟨rest, []⟩) _ _ _ from ?_))
  unfold callAny
  refine wpAny_bind (wpAny_load hu (?_))
  have mw : ∀ a b : Bool, (a || b || (Value.type "method-wrapper" == Value.type "method-wrapper")) = true := fun a b => by
    rw [beq_self_eq_true, Bool.or_true]
  dsimp only [kxs_mw]
  rw [if_pos (mw _ _)]
  refine KFB.if_so (show _ from by decide) ?_
  refine wpAny_bind (check_bound_init F.excBase_ValueError.toExcCallFacts hC he rfl ?_)
  refine wpAny_bind (wpAny_pure (wpAny_pure (?_)))
  refine ⟨plainId_quiet F.excBase_ValueError.init.plain _, codeAny_builtin F.excBase_ValueError.initEntry ?_⟩
  exact exc_init_tree (cls := .ref C) (t0 := t0) (dv := none) (c2 := .none) (c3 := .none) (b4 := .bool false) he hz fun h' k e' _ => hq h' _ k e'

theorem own_init {R : Result → Shared → Prop} {s : Shared} {K : Frag} {mg mb : Str → Option Value} {x0 n : Str} {C fI x t0 : Addr} {v : Value} {args : Args} (T : Txt prog K mg x0 n C fI) (X : K.In s.heap) (hlim : s.heap.NoLimit)
    (G : s.heap.Ns mainGlobals mg) (Bl : s.heap.Ns builtinsNs mb) (hmb : ∀ x : Str, x ≠ "__name__" → mb x = bootBuiltins x)
    (hx : s.heap.get? x = some (excO C t0)) (hnx : K.lookup x = none) (hroom : A.depth < recursionLimit) (ha : args = ⟨[.ref x, v], []⟩ ∨ args = ⟨[.ref x], [(n, v)]⟩)
    (hq : ∀ h' tk dx t1, InitEnd s.heap h' x C dx t1 n v → R (.ok (.ret .none)) { s with heap := h', toks := tk }) :
    codeAny (model prog w) A (.call (.ref fI) args) R s := by
  obtain ⟨oc, od, osl, dV, kV, doc, pm, an, cda, cc, ct, p1, p2, q1, q2, q3, q4, q5, q6, q7, q8, q9, q0, text, qual, k1, ccl, cl, cdd, cld, vs, ccs, csl, file, tf, hf, hcd, ⟨ks, kc, kself, kn, kcell⟩, hcda, hvs, hfile, hcc, hb1, hb2, hsn, hnd, hline⟩ := T.fn
  obtain ⟨cd, bm, hcl, hmro, hbm, hhd, hal⟩ := T.cd
  have hbind : BindsTo s (ksFn "__init__" qual (oA n p1 p2) (oB n text k1 q1 q2 q3 q4 q5 q6 q7 q8 q9 q0) (oS n) dV kV doc pm an (.ref cda) ct cc) args [(("self" : Str), .ref x), (n, v)] := by
    rcases ha with rfl | rfl
    · exact .of_eq (hb1 _ _)
    · exact .of_eq (hb2 _ _)
  have hloc : ∀ y ∈ ([(("self" : Str), Value.ref x), (n, v)] : List (Str × Value)), (oS n).names.lookup y.1 = some .local := by
    intro y hy
    have hy' : y = (("self" : Str), Value.ref x) ∨ y = (n, v) := by simpa using hy
    rcases hy' with rfl | rfl
    · exact kself
    · exact kn
  refine ks_codeAny_call_defAt (fd := ksFn "__init__" qual (oA n p1 p2) (oB n text k1 q1 q2 q3 q4 q5 q6 q7 q8 q9 q0) (oS n) dV kV doc pm an (.ref cda) ct cc) (body := oB n text k1 q1 q2 q3 q4 q5 q6 q7 q8 q9 q0) (binds := [(("self" : Str), Value.ref x), (n, v)]) hroom (X _ _ hf) rfl hlim (codeRec_of X hcd) rfl hbind kcell hloc (fun h₁ hns k₁ => ?_) rfl rfl rfl
  rcases s with ⟨hp, g, d, tk, os⟩
  have X₁ : K.In h₁ := X.keeps k₁
  have hx₁ := k₁ _ _ hx
  have hlt : hp.objs.size < h₁.objs.size := hns.lt
  have mself : (([(("self" : Str), Value.ref x), (n, v)] : List (Str × Value)).reverse.lookup ("self" : Str)) = some (.ref x) := by
    show List.lookup ("self" : Str) [(n, v), (("self" : Str), Value.ref x)] = _
    rw [List.lookup_cons]
    simp only [hsn]
    rfl
  have mn : (([(("self" : Str), Value.ref x), (n, v)] : List (Str × Value)).reverse.lookup n) = some v := by
    show List.lookup n [(n, v), (("self" : Str), Value.ref x)] = _
    rw [List.lookup_cons]
    simp
  -- the class as the heap has it
  obtain ⟨oD, hD1, hD2⟩ : ∃ oD, h₁.get? C = some oD ∧ oD.data = .cls cd := by
    unfold clsIn at hcl
    split at hcl
    · rename_i c d' cd' sl ho
      cases hcl
      exact ⟨_, X₁ _ _ ho, rfl⟩
    · cases hcl
  have hxC : x ≠ C := fun z => by
    rw [z, hD1] at hx₁
    cases hx₁
    cases hD2
  have hsubD : Looks (model prog w) h₁ (isSubtype (.ref C) (.ref C)) true := looks_mroIn X₁ (by
    unfold mroIn
    rw [hcl, Option.bind_some, hmro]
    simp)
  refine ks_wpAt_execs_cons (ks_wpAt_Expr_any ?_ rfl (by first | rfl | with_unfolding_all rfl))
  refine ks_wpAt_MethodCall (pl := (do return (← importBound (.Call (.Name "super" q1) [] [] q2) (callEnv (ksFn "__init__" qual (oA n p1 p2) (oB n text k1 q1 q2 q3 q4 q5 q6 q7 q8 q9 q0) (oS n) dV kV doc pm an (.ref cda) ct cc) hp.objs.size fI)).getD true)) ?_ (by
    rw [arm_eval_Call]
    have hpos : ∀ env, methodCallPos true (.Call (.Name "super" q1) [] [] q2) env q3 q5 = pure q5 := fun env => by unfold methodCallPos; simp [hline]
    unfold methodCall
    rw [show methodCallForm _ _ _ = true from rfl, hpos]
    rfl)
  refine ks_wpAt_super_base (env := callEnv (ksFn "__init__" qual (oA n p1 p2) (oB n text k1 q1 q2 q3 q4 q5 q6 q7 q8 q9 q0) (oS n) dV kV doc pm an (.ref cda) ct cc) hp.objs.size fI) ks kc (by decide +kernel) rfl (X₁ _ _ hf) rfl rfl rfl (X₁ _ _ hcda) rfl hvs hfile T.top ?_
  refine ks_loadName_global rfl ks (loadGlobal_builtin (env := callEnv (ksFn "__init__" qual (oA n p1 p2) (oB n text k1 q1 q2 q3 q4 q5 q6 q7 q8 q9 q0) (oS n) dV kV doc pm an (.ref cda) ct cc) hp.objs.size fI) (G.keeps k₁) T.gS (Bl.keeps k₁) ((hmb _ (by decide +kernel)).trans (by first | boot_by_name | rfl | kernel_rfl)) ⟨rfl, ?_⟩)
  refine wpAny_loadName_free rfl kc rfl ⟨_, X₁ _ _ hcc, rfl⟩ ?_
  refine wpAny_loadName_local rfl kself hns mself ?_
  refine ks_wpAny_isType_cls hD1 hD2 ⟨by rfl, ?_⟩
  refine ks_wpAny_call_super hD1 hD2 hx₁ rfl (fun c z => by cases z) hsubD (fun h₂ hso k₂ => ?_)
  -- super().__init__
  have X₂ : K.In h₂ := X₁.keeps k₂
  have I₂ : PySem.W.InstAt h₂ x (excO C t0) C none := ⟨k₂ _ _ hx₁, rfl, rfl, trivial⟩
  have hI : Looks (model prog w) h₂ (isInstance (.ref x) (.type "ValueError")) true := I₂.type.andThen (looks_subIn X₂ T.veC)
  refine kxs_getMethod kxs_ValueError hso (looks_opaque X₂ T.tp) (l₀ := .ref C :: bm) ?_ (drop_own C bm) X₂ hal hI hxC (by decide +kernel) ?_
  · exact fun A Q E s k q => wpAny_bind ((looks_clsIn X₂ hcl) A _ E s k (wpAny_pure (by rw [hmro]; exact q)))
  have hu : (h₂.push (kxs_mw "ValueError.__init__" x)).get? h₂.objs.size = some (kxs_mw "ValueError.__init__" x) := Heap.get?_push_at rfl rfl
  have k₃ : ∀ b o, h₂.get? b = some o → (h₂.push (kxs_mw "ValueError.__init__" x)).get? b = some o := fun b o e => Heap.get?_push_of_some _ e
  show wpAny _ _ (callWith q5 (.ref h₂.objs.size) [] (backTo q5 (starEach [.Constant (.str text) k1 q4] _)) []) _ _ _
  refine kxs_callWith (i := "ValueError.__init__") (x := x) (by rfl) ?_
  refine evalArgs_plain ?_
  show wpAny _ _ (spliced ((false, eval (.Constant (.str text) k1 q4) _) :: backTo q5 (starEach [] (callEnv (ksFn "__init__" qual (oA n p1 p2) (oB n text k1 q1 q2 q3 q4 q5 q6 q7 q8 q9 q0) (oS n) dV kV doc pm an (.ref cda) ct cc) hp.objs.size fI)))) _ _ _
  refine Calls.spliced_cons (Calls.Constant_str (Calls.spliced_nil (?_)))
  refine ⟨hu, ?_⟩
  refine call_mw (K := K) (C := C) (e := x) (t0 := t0) (X₂.keeps k₃) T.cls hu (k₃ _ _ (k₂ _ _ hx₁)) (one_size _) (fun h₄ t₁ k₄ hx₄ => ?_)
  -- self.n = v
  have kall : ∀ b o, b ≠ x → h₁.get? b = some o → h₄.get? b = some o := fun b o hb e => k₄ b o hb (k₃ _ _ (k₂ _ _ e))
  have X₄ : K.In h₄ := fun b o e => kall b o (fun z => by rw [z, hnx] at e; cases e) (X₁ b o e)
  have hns₄ : h₄.Ns hp.objs.size (fun y => ([(("self" : Str), Value.ref x), (n, v)] : List (Str × Value)).reverse.lookup y) := by
    obtain ⟨oL, es, ep, hL, r⟩ := hns
    have xL : hp.objs.size ≠ x := Nat.ne_of_gt (Heap.lt_size hx)
    exact ⟨oL, es, ep, kall _ _ xL hL, r⟩
  refine ks_wpAt_execs_cons (ks_wpAt_Assign_Attr ?_ (by first | rfl | with_unfolding_all rfl))
  refine wpAt_of_wpAny (wpAny_Name (wpAny_loadName_local rfl kn hns₄ mn ?_) hnd)
  refine wpAny_Name (wpAny_loadName_local rfl kself hns₄ mself ?_) (by decide +kernel)
  refine set_plain X₄ (ox := excO C t₁) (od := none) ⟨hx₄, rfl, rfl, trivial⟩ T.sa ?_
  refine exc_osa X₄ hx₄ hcl (by rw [hmro]; exact hbm) hhd T.noN (fun h₅ tk₅ dx k₅ dn dne hx₅ hn₅ => ?_)
  show wpAt _ _ _ (execs [] _) _ _ _
  refine wpAt_of_wpAny (wpAny_execs_nil ?_)
  have z : hp.objs.size ≤ h₄.objs.size := by
    obtain ⟨oL, es, ep, hL, r⟩ := hns₄
    exact Nat.le_of_lt (Heap.lt_size hL)
  exact hq h₅ tk₅ dx t₁ ⟨fun b o hb e => k₅ b o hb (kall b o hb (k₁ _ _ e)), hx₅, Nat.le_trans z dn, dne, hn₅⟩

theorem own_made {R : Result → Shared → Prop} {s : Shared} {K : Frag} {mg mb : Str → Option Value} {x0 n : Str} {C fI : Addr} {v : Value} {rest : List Value} {kw : List (Str × Value)} (T : Txt prog K mg x0 n C fI) (X : K.In s.heap) (hlim : s.heap.NoLimit)
    (G : s.heap.Ns mainGlobals mg) (Bl : s.heap.Ns builtinsNs mb) (hmb : ∀ x : Str, x ≠ "__name__" → mb x = bootBuiltins x)
    (hroom : A.depth + 1 < recursionLimit) (ha : (rest = [v] ∧ kw = []) ∨ (rest = [] ∧ kw = [(n, v)]))
    (hq : ∀ h' tk e d, OwnMade s.heap h' e C d n v → R (.ok (.ret (.ref e))) { s with heap := h', toks := tk }) :
    codeAny (model prog w) A (.call (.ref C) ⟨rest, kw⟩) R s := by -- the class is called
  obtain ⟨hp, g, dr, tk, os⟩ := s
  have hz : rest.length ≤ sizeLine := by
    rcases ha with ⟨rfl, _⟩ | ⟨rfl, _⟩
    · exact one_size _
    · exact Nat.zero_le _
  have k : ∀ b o, hp.get? b = some o → ((hp.push (kdv_tup rest)).push (excO C hp.objs.size)).get? b = some o := fun b o e => Heap.get?_push_of_some _ (Heap.get?_push_of_some _ e)
  have hget : ((hp.push (kdv_tup rest)).push (excO C hp.objs.size)).get? (hp.objs.size + 1) = some (excO C hp.objs.size) := by heap_get
  have hnx : K.lookup (hp.objs.size + 1) = none := by
    cases e : K.lookup (hp.objs.size + 1) with
    | none => rfl
    | some o =>
      have z : hp.get? (hp.objs.size + 1) = some o := X _ _ e
      exact absurd (Nat.lt_of_succ_lt (Heap.lt_size z)) (Nat.lt_irrefl _)
  refine made_of (klAt_of X T.cls) hz (looks_findIn X T.iC) (fun self => bind_fn X self T.tC) ?_
  refine own_init (s := ⟨(hp.push (kdv_tup rest)).push (excO C hp.objs.size), g, dr, tk, os⟩) (v := v) T (X.keeps k) (hlim.keeps k) (G.keeps k) (Bl.keeps k) hmb hget hnx ?_ ?_ fun h' tk' dx t1 ⟨k', hx, dn, dne, hns⟩ => ?_
  · show A.depth + 1 < recursionLimit
    exact hroom
  · rcases ha with ⟨rfl, rfl⟩ | ⟨rfl, rfl⟩
    · exact .inl rfl
    · exact .inr rfl
  · have old : ∀ b o, hp.get? b = some o → h'.get? b = some o := fun b o e => k' b o (Nat.ne_of_lt (Nat.lt_succ_of_lt (Heap.lt_size e))) (k b o e)
    have z : hp.objs.size + 1 + 1 ≤ dx := by
      first
        | (simpa only [Heap.size_push] using dn)
        | exact dn
        | (have q := dn; rw [Heap.size_push, Heap.size_push] at q; exact q)
    exact ⟨rfl, hq h' tk' (hp.objs.size + 1) dx ⟨old, Nat.le_succ _, ⟨_, _, hx, rfl, rfl, rfl, rfl, rfl, (by show 4 < 6; decide)⟩, Nat.le_trans (Nat.le_trans (Nat.le_succ _) (Nat.le_succ _)) z, dne, hns⟩⟩
end
end Own
end PySem

set_option maxRecDepth 100000
set_option maxHeartbeats 3900000
/-! Own exceptions as values over the hand layer: made, their field read, asked by isinstance. -/
namespace L2
open PySem PySem.Spec PyProof.Rows

/-- an exception object of the class C, not raised yet, at a, its own dict at d -/
def ExV (C d a : Addr) : HO := .ext fun h => ∃ (oe : Obj) (vs : Array Value), h.get? a = some oe ∧ Zc (.ref C) (some d) oe ∧ oe.data = .fields vs ∧ vs[1]? = some .none
theorem exV_ok {P : Program} {w : World} {H : Hp} {h : Heap} {C d a : Addr} {oe : Obj} {vs : Array Value} (e : h.get? a = some oe) (z : Zc (.ref C) (some d) oe) (dt : oe.data = .fields vs) (h1 : vs[1]? = some .none) : ObjOk P w H h a (ExV C d a) :=
  ⟨⟨oe, vs, e, z, dt, h1⟩, ⟨oe, e⟩, fun _ _ ⟨o, v, q, r⟩ k => ⟨o, v, k o q, r⟩⟩

section
variable {X : Cx} {C fI : Addr} {x n : Str}
/-- a new exception of the class C with the field n -/
def mkOwn (C : Addr) (n : Str) (v : V) (H : Hp) (Q : VK) : Prop := ∀ a d, H a = none → H d = none → d ≠ a → Q (.ref a) (upd (upd H d (.xd [(n, v)])) a (ExV C d a))

theorem relO_one {n : Str} {v : V} {v' : Value} (r : RelV v v') (f : Str) : RelO (List.lookup f [(n, v)]) (if f = n then some v' else none) := by
  by_cases hw : f = n
  · subst hw
    rw [if_pos rfl]
    have q : List.lookup f [(f, v)] = some v := by simp [List.lookup]
    rw [q]
    exact r
  · rw [if_neg hw]
    have qw : (f == n) = false := by simpa using hw
    have q2 : List.lookup f [(n, v)] = none := by simp [List.lookup, qw]
    rw [q2]
    trivial

theorem run_own {k : Nat} {pins : List (Addr × Obj)} {σ : St} {H : Hp} {s : Shared} {Q : VK} {v : V} {u : Value} {us : List Value} {kw : List (Str × Value)} (T : PySem.Own.Txt X.prog X.K X.mg x n C fI) (hr : Room k X.A) (I : Inv X pins σ H s) (r : RelV v u)
    (ha : (us = [u] ∧ kw = []) ∨ (us = [] ∧ kw = [(n, u)])) (q : mkOwn C n v H Q) : wpAny (model X.prog X.w) X.A (call (.ref C) us kw) (EP X pins σ Q) X.xe s := by
  obtain ⟨mb, hmb, hbb⟩ := I.mod.blt
  refine wpAny_call (PySem.Own.own_made T I.kIn I.nolimit (I.mod.glob.keeps I.bk) (hmb.keeps I.bk) hbb (by have := hr.dp; omega) ha fun h' tk' e d M => ?_)
  obtain ⟨hp, g, dr, tk, os⟩ := s
  obtain ⟨oe, fv, hoe, hc, hd, hdat, h1, _, _⟩ := M.obj
  have He : H e = none := I.hok.fresh M.new
  have Hd : H d = none := I.hok.fresh M.dbig
  have ob : ObjOk X.prog X.w (upd H d (.xd [(n, v)])) h' d (.xd [(n, v)]) := ⟨_, M.ns, fun f => relO_one r f⟩
  have J : Inv X pins σ (upd H d (.xd [(n, v)])) ⟨h', g, dr, tk', os⟩ := I.laid (t' := tk') M.keep M.dbig ob
  have He2 : (upd H d (.xd [(n, v)])) e = none := by rw [upd_ne (Ne.symm M.dne)]; exact He
  have none_e : hp.get? e = none := Heap.get?_none_of_le M.new
  -- the exception itself: the heap as it stands, tracked now
  have J2 : Inv X pins σ (upd (upd H d (.xd [(n, v)])) e (ExV C d e)) ⟨h', g, dr, tk', os⟩ := by
    have I2 : Un X.fs [] H (upd (upd H d (.xd [(n, v)])) e (ExV C d e)) hp h' := by
      have a1 : Un X.fs [] H (upd H d (.xd [(n, v)])) hp h' := Un.laid M.keep M.dbig Hd
      refine ⟨a1.keep, a1.slot, fun b u q nn hb => ?_, a1.there, fun b xs q => ?_, fun b ob xs q => ?_, fun b ps q => ?_⟩
      · rw [upd_ne (fun z => by rw [z, none_e] at q; cases q)]
        exact a1.free b u q nn hb
      · rw [upd_ne (ne_of_none q He)]; exact a1.tups b xs q
      · rw [upd_ne (ne_of_none q He)]; exact a1.frzs b ob xs q
      · rw [upd_ne (ne_of_none q He)]; exact a1.tbls b ps q
    refine I.un (t' := tk') I2 fun b u q => ?_
    by_cases hb : b = e
    · subst hb
      rw [upd_same] at q
      cases q
      exact exV_ok hoe ⟨hc, hd⟩ hdat h1
    · rw [upd_ne hb] at q
      exact (J.hok b u q).stay (fun c w' _ z => z) (fun c z => by rw [upd_ne (ne_of_none z He2)]; exact z) fun c xs z => by rw [upd_ne (ne_of_none z He2)]; exact z
  exact ⟨.ref e, _, J2, rfl, q e d He Hd M.dne⟩

def tOwn (C : Addr) (n : Str) (ta : TA) : TE := fun σ H Q => ta σ H fun vs H1 => ∃ v, vs = [v] ∧ mkOwn C n v H1 Q
/-- X(e) -/
theorem pe_own {k : Nat} {e : Expr} {ta : TA} {p pos : Pos} (T : PySem.Own.Txt X.prog X.K X.mg x n C fI) (hr : Room k X.A) (ha : PA X [e] ta) (hg : Gl X x := by rfl) (hdb : (x == ("__debug__" : Str)) = false := by decide +kernel)
    (he : starEach (e :: []) X.env = (false, eval e X.env) :: starEach [] X.env := by rfl) (hpl : (backTo pos (starEach [] X.env)).any (·.1) = false := by rfl) :
    PE X (.Call (.Name x p) [e] [] pos) (tOwn C n ta) := by
  refine ⟨fun pins s σ H Q I h => ?_⟩
  refine wpAny_Call_Name_kw (ld_glob I hg T.gC ?_ hdb)
  refine PySem.W.callWith_K (h₀ := X.base) I.ok.mod.kin T.kC (thn (ha.run pos pins s σ H _ I h) fun us s1 hh => ?_) he hpl
  obtain ⟨vs, H1, I1, r1, v, ev, q1⟩ := hh
  subst ev
  refine ⟨I1.kIn, ?_⟩
  obtain ⟨u, rfl, r⟩ := vals1 r1
  exact run_own T hr I1 r (.inl ⟨rfl, rfl⟩) q1
/-- X(n = e) -/
theorem pe_ownK {k : Nat} {kws : List Keyword} {tk : TA} {p pos : Pos} (T : PySem.Own.Txt X.prog X.K X.mg x n C fI) (hr : Room k X.A) (hkw : PK X kws tk) (hg : Gl X x := by rfl) (hdb : (x == ("__debug__" : Str)) = false := by decide +kernel)
    (hall : (backToKw pos (keywordEach kws X.env)).all (·.1.isSome) = true := by rfl) (hks : (backToKw pos (keywordEach kws X.env)).filterMap (·.1) = [n] := by rfl)
    (hpl : ((backTo pos (starEach [] X.env)).any (·.1) || (backToKw pos (keywordEach kws X.env)).any (·.1.isNone)) = false := by rfl) : PE X (.Call (.Name x p) [] kws pos) (tOwn C n tk) := by
  refine ⟨fun pins s σ H Q I h => ?_⟩
  refine wpAny_Call_Name_kw (ld_glob I hg T.gC ?_ hdb)
  refine PySem.W.callWith_KW0 (h₀ := X.base) I.ok.mod.kin T.kC hall ?_ hpl
  refine thn (hkw.run pos pins s σ H _ I h) fun ws s2 ⟨zs, H2, I2, rz, v, ev, q2⟩ => ⟨I2.kIn, ?_⟩
  subst ev
  rw [hks]
  obtain ⟨u, rfl, r⟩ := vals1 rz
  exact run_own T hr I2 r (.inr ⟨rfl, rfl⟩) q2

/-- e.n, e an exception held as a value -/
def tExF (K : PySem.W.Frag) (n : Str) (te : TE) : TE := fun σ H Q => te σ H fun x H1 => ∃ (a d C : Addr) (fs : List (Str × V)) (v : V), x = .ref a ∧ H1 a = some (ExV C d a) ∧ XfC K C ∧ PySem.W.findIn K (.ref C) n = some none ∧ H1 d = some (.xd fs) ∧ fs.lookup n = some v ∧ Q v H1
theorem pe_exf {e : Expr} {te : TE} {pos : Pos} (he : PE X e te) (hb : attributeBase e n X.env (eval e X.env) = eval e X.env := by rfl) : PE X (.Attribute e n pos) (tExF X.K n te) := by
  refine ⟨fun pins s σ H Q I h => ?_⟩
  refine attr_of hb (thn (he.run pins s σ H _ I h) fun u s1 hh => ?_)
  obtain ⟨x, H1, I1, rx, a, d, C, fs, v, ex, ea, T, hno, ed, l, q⟩ := hh
  subst ex
  obtain rfl : u = Value.ref a := rx
  obtain ⟨⟨oe, vs, ho0, hz, hd, _⟩, _, _⟩ := I1.hok a _ ea
  have hx : ObjOk X.prog X.w H1 s1.heap d (.xd fs) := I1.hok d _ ed
  obtain ⟨mA, hns, hr⟩ := hx
  obtain ⟨od, ho, hl⟩ := lookIn_ns hns
  obtain ⟨u, hu, ru⟩ := RelO.some_of (v := v) (o := mA n) (l ▸ hr n)
  have J : PySem.W.InstAt s1.heap a oe C (some od) := ⟨ho0, hz.1, by unfold PySem.W.notCls; rw [hd] <;> rfl, by rw [hz.2]; exact ho⟩
  refine HandSPX.exc_get I1.kIn J T.ga T.gg T.exC ?_ (handed_of ru) ⟨v, H1, I1.tok _, ru, q⟩
  exact PySem.W.findObj_own T.hdC hno rfl (by rw [hl, hu])
end
end L2

set_option maxRecDepth 100000
set_option maxHeartbeats 3900000
/-! isinstance of exceptions held as values; repr of lists. -/
namespace L2
open PySem PySem.Spec PyProof.Rows

section
variable {X : Cx}
/-- isinstance(e, c), e an own exception held as a value -/
def rIsV (K : PySem.W.Frag) : List V → Hp → VK → Prop := fun xs H Q => ∃ (a d C : Addr) (fs : List (Str × V)) (c : V) (cv : Value) (b : Bool), xs = [.ref a, c] ∧ H a = some (ExV C d a) ∧ H d = some (.xd fs) ∧ ExcC K C ∧ (PySem.W.clsIn K C).isSome = true ∧ (∀ u, RelV c u → u = cv) ∧ PySem.W.kitOne K (.ref C) cv = some b ∧ Q (.bl b) H
theorem call_isV : CallR X (.builtin "isinstance") (rIsV X.K) := by
  rintro pins s σ H xs us Q I r ⟨a, d, C, fs, c, cv, b, rfl, ha, hd, T, hcl, hcv, e, q⟩
  cases r with
  | cons rx rr =>
    cases rr with
    | cons rt rr =>
      cases rr
      cases rx
      have ec := hcv _ rt
      subst ec
      obtain ⟨⟨oe, vs, ho0, hz, hdt, _⟩, _, _⟩ := I.hok a _ ha
      have hx : ObjOk X.prog X.w H s.heap d (.xd fs) := I.hok d _ hd
      obtain ⟨mA, hns, hr⟩ := hx
      obtain ⟨od, ho, hl⟩ := lookIn_ns hns
      have J : PySem.W.InstAt s.heap a oe C (some od) := ⟨ho0, hz.1, by unfold PySem.W.notCls; rw [hdt] <;> rfl, by rw [hz.2]; exact ho⟩
      exact PySem.W.kia_one (PySem.W.kitx_exc hcl T.hg T.hk T.hs T.ha T.hn T.ht T.hm) I.kIn J e (fun z => nomatch z) fun tk => ⟨.bl b, H, I.kept (t' := tk) fun _ _ z => z, rfl, q⟩

/-- data, an empty dict too -/
inductive Dq (K : PySem.W.Frag) (H : Hp) : V → PyData → Prop
  | data {v : V} {d : PyData} : Dp K H v d → d.hasDict = false → Dq K H v d
  | emp {a : Addr} : H a = some (.dK []) → Dq K H (.ref a) (.dict [])
theorem Dq.reads {pins : List (Addr × Obj)} {σ : St} {H : Hp} {s : Shared} (I : Inv X pins σ H s) {v : V} {d : PyData} {u : Value} (h : Dq X.K H v d) (r : RelV v u) : ∃ as, Reads s.heap u d as ∧ (d.hasDict = true → sysModules ∉ as) := by
  cases h with
  | data h hn =>
    obtain ⟨as, q⟩ := Dp.reads I d v u h r
    exact ⟨as, q, PyData.noDict_hsm hn⟩
  | @emp a e =>
    cases r
    obtain ⟨_, hsm, vs, rel, o, es, ep, ho, hx, hd, _, hp, _⟩ := dk_of I.hok e
    cases rel
    have e1 : es.toList = [] := by
      generalize es.toList = l at hp
      cases hp
      rfl
    have e0 : es = #[] := by simpa using e1
    subst e0
    refine ⟨_, Reads.dict ho hx.1 hd .nil .nil, fun _ hm => ?_⟩
    have z : sysModules = a := by simpa using hm
    rw [z] at hsm
    simp at hsm
theorem reads_four {h : Heap} {u : Value} {d : PyData} {as : List Addr} (r : Reads h u d as) (hsm : d.hasDict = true → sysModules ∉ as) : ∀ n, ∃ bs, ReadsAll h (List.replicate n u) (List.replicate n d) bs ∧ (PyData.hasDictAll (List.replicate n d) = true → sysModules ∉ bs)
  | 0 => ⟨[], .nil, fun _ => by simp⟩
  | n + 1 => by
    obtain ⟨bs, q, k⟩ := reads_four r hsm n
    refine ⟨as ++ bs, .cons r q, fun hx hm => ?_⟩
    cases hd : d.hasDict with
    | true =>
      rcases (List.mem_append.mp hm) with hm | hm
      · exact hsm hd hm
      · have : PyData.hasDictAll (List.replicate n d) = true ∨ n = 0 := by
          cases n with
          | zero => exact .inr rfl
          | succ n => exact .inl (by simp [List.replicate_succ, PyData.hasDictAll, hd])
        rcases this with t | t
        · exact k t hm
        · subst t
          cases q
          exact nomatch hm
    | false =>
      have : ∀ m, PyData.hasDictAll (List.replicate m d) = false := fun m => by
        induction m with
        | zero => rfl
        | succ m ih => simp [List.replicate_succ, PyData.hasDictAll, hd, ih]
      rw [this] at hx
      cases hx
/-- repr(xs), xs a list of n equal data -/
def rRepN (K : PySem.W.Frag) : List V → Hp → VK → Prop := fun xs H Q => ∃ (p : Addr) (n : Nat) (v : V) (d : PyData), xs = [.ref p] ∧ SqL K H p (List.replicate (n + 1) v) ∧ Dq K H v d ∧ d.showable = true ∧ d.depth ≤ 30 ∧
  (listText (PyData.shownAll (List.replicate (n + 1) d))).length ≤ sizeLine ∧ Q (.str (listText (PyData.shownAll (List.replicate (n + 1) d)))) H
theorem depthAll_rep (d : PyData) : ∀ n, PyData.depthAll (List.replicate n d) ≤ d.depth
  | 0 => Nat.zero_le _
  | n + 1 => by
    have := depthAll_rep d n
    simp only [List.replicate_succ, PyData.depthAll]
    omega
theorem showAll_rep {d : PyData} (h : d.showable = true) : ∀ n, PyData.showableAll (List.replicate n d) = true
  | 0 => rfl
  | n + 1 => by simp [List.replicate_succ, PyData.showableAll, h, showAll_rep h n]
theorem vals_rep {v : V} : ∀ {n : Nat} {us : List Value}, Vals (List.replicate n v) us → ∀ {h : Heap} {d : PyData}, (∀ u, RelV v u → ∃ as, Reads h u d as ∧ (d.hasDict = true → sysModules ∉ as)) → ∃ bs, ReadsAll h us (List.replicate n d) bs ∧ (PyData.hasDictAll (List.replicate n d) = true → sysModules ∉ bs)
  | 0, _, .nil, _, _, _ => ⟨[], .nil, fun _ => by simp⟩
  | n + 1, _, .cons r t, h, d, f => by
    obtain ⟨bs, q, k⟩ := vals_rep t f
    obtain ⟨as, ra, ka⟩ := f _ r
    refine ⟨as ++ bs, .cons ra q, fun hx hm => ?_⟩
    cases hd : d.hasDict with
    | true =>
      rcases (List.mem_append.mp hm) with hm | hm
      · exact ka hd hm
      · cases n with
        | zero =>
          cases q
          exact nomatch hm
        | succ n => exact k (by simp [List.replicate_succ, PyData.hasDictAll, hd]) hm
    | false =>
      have : ∀ m, PyData.hasDictAll (List.replicate m d) = false := fun m => by
        induction m with
        | zero => rfl
        | succ m ih => simp [List.replicate_succ, PyData.hasDictAll, hd, ih]
      rw [this] at hx
      cases hx
theorem call_repN (hg : X.A.guards = some []) (hu : X.A.units + 64 < cLine) : CallR X (.builtin "repr") (rRepN X.K) := by
  rintro pins s σ H xs us Q I r ⟨p, n, v, d, rfl, hp, hd, hs, hdep, hz, q⟩
  rcases vals1 r with ⟨u, rfl, rx⟩
  cases (show u = Value.ref p from rx)
  obtain ⟨its, rv, ⟨o, m, ho, hc, _, hdt⟩, _⟩ := I.list hp
  obtain ⟨as, ra, ka⟩ := vals_rep rv (fun u r => Dq.reads I hd r)
  obtain ⟨bs, hb, hk⟩ := ReprAllK.of_readsAll (prog := X.prog) (w := X.w) ra (showAll_rep hs _) ka (fun t ht => Nat.le_trans (listText_mem_le ht) hz)
  have dp := depthAll_rep d (n + 1)
  have hna : p ∉ bs := not_mem_of_deeper (.list ho hc hdt ra) (by simp only [PyData.depth]; omega) hb
  have hT : s.TypeIs (.ref p) "list" := ⟨o, ho, hc⟩
  refine call_repr_slot (by omega) hT PySem.F.slot_list_repr.toG ?_
  cases its with
  | nil => cases rv
  | cons x l =>
    exact call_list_reprK ho hc hdt hna (by simpa using hk.length_eq) (fun i y e => hk.item i y (by simpa using e)) hg (fun b _ => Clear.nil b) (by show X.A.units + 1 + _ < cLine; omega) (fun _ _ e => e) (fun h' u tk hk' => ⟨_, _, rfl, .str _, H, I.kept (t' := tk) hk', ⟨_, rfl⟩, q⟩) hz
end
end L2

set_option maxRecDepth 100000
set_option maxHeartbeats 3900000
/-! Promises of defs that run where no repr is under way (the list of guards is empty): repr may be asked there. -/
namespace L2
open PySem PySem.Spec PyProof.Rows

/-- as FnOk, kept where no guard stands -/
structure FnG (P : Program) (w : World) (K : PySem.W.Frag) (mg : Str → Option Value) (base : Heap) (CX : CXT) (k : Nat) (f : Addr) (fd : FuncData) (ps : List Str) (sp : Sp) : Prop where
  len : ∀ (vs : List V) (H : Hp) (Q : VK) (E : XK), sp vs H Q E → vs.length = ps.length
  run : ∀ (A : Around) (outer : List Env) (s : Shared) (H : Hp) (args : Args) (us : List Value) (vs : List V) (Q : VK) (E : XK), A.guards = some [] → Room k A →
    Env0 P w K mg base A outer s H → BindsTo s fd args (ps.zip us) → Vals vs us → sp vs H Q E → codeAny (model P w) A (.call (.ref f) args) (CR CX outer P w H s Q E) s
theorem FnOk.g {P : Program} {w : World} {K : PySem.W.Frag} {mg : Str → Option Value} {base : Heap} {CX : CXT} {k : Nat} {f : Addr} {fd : FuncData} {ps : List Str} {sp : Sp}
    (F : FnOk P w K mg base CX k f fd ps sp) : FnG P w K mg base CX k f fd ps sp := ⟨F.len, fun A outer s H args us vs Q E _ => F.run A outer s H args us vs Q E⟩

section
variable {P : Program} {w : World} {K : PySem.W.Frag} {mg : Str → Option Value} {base : Heap}
/-- a def by its body, where no guard stands -/
theorem Fun.okG {x qual : Str} {st : Stmt} {f : Addr} {fd : FuncData} {N ps : List Str} {k : Nat} {sp : Sp} (F : Fun K x qual st f fd) (S : FnScope N ps (defScope st)) (len : ∀ vs H Q E, sp vs H Q E → vs.length = ps.length)
    (body : ∀ (cdv : Value) (A : Around) (outer : List Env) (s : Shared) (H : Hp) (vs : List V) (Q : VK) (E : XK), A.guards = some [] → Room k (A.deeper (envOfC qual (defScope st) s.heap.objs.size f cdv)) → sp vs H Q E →
      ∃ t, PSs (cxOf CX0 P w K mg base N qual (defScope st) f cdv A outer s H E).nox (defBody st) t ∧ t { nx := fun _ H' => Q .non H', rt := Q } (start N vs) H) :
    FnG P w K mg base CX0 (k + 1) f fd ps sp := by
  rcases F.ex with ⟨oc, od, kV, doc, pm, an, cdv, ct, osl, rfl, lk, hcd⟩
  refine ⟨len, fun A outer s H args us vs Q E hg hr e0 hb r hs => ?_⟩
  have here : ∀ b o, base.get? b = some o → s.heap.get? b = some o := fun b o e => (e0.bs b o e).1
  have X : K.In s.heap := e0.mod.kin.keeps here
  have kinds : ∀ y ∈ ps.zip us, (defScope st).names.lookup y.1 = some .local ∨
      ((defScope st).names.lookup y.1 = some .cell ∧ ((cellsFrom (s.heap.objs.size + 1) (defScope st).names []).lookup y.1).isSome = true) := by
    rintro ⟨n, v⟩ hy
    exact (S.par n (List.of_mem_zip hy).1).imp id fun q => ⟨q, PySem.W.cellsFrom_some _ _ _ (.inl q)⟩
  refine codeAny_call_function hr.depth (X _ _ lk) (by rfl) S.co S.gen (by rfl) (PySem.W.codeRec_of X hcd) (hb _ _ _ _ ?_)
  refine wpAny_newFunctionEnv_cells S.kind kinds (fun env he s1 x => ?_)
  cases he
  obtain ⟨t, ht, q⟩ := body cdv A outer s H vs Q E hg (hr.deeper _) hs
  have I := inv_start (CX := CX0) (P := P) (w := w) (K := K) (mg := mg) (base := base) (E := E) S hr.hd e0 (len _ _ _ _ hs) r x
  refine ⟨(e0.mod.nolimit.keeps here).keeps x.toInCall.keep, codeAny_func (wpAny_mono (ht.nox.run [] s1 _ H _ I q) (fun fl s' z => ?_) fun _ _ z => z)⟩
  match fl, z with
  | .ret u, ⟨v, σ', H', J, rv, q'⟩ => exact ⟨v, H', J.os, J.bare, J.base, J.hok, rv, q'⟩
  | .next, ⟨σ', H', J, q'⟩ => exact ⟨V.non, H', J.os, J.bare, J.base, J.hok, rfl, q'⟩
  | .brk, ⟨_, _, _, q'⟩ => exact False.elim q'
  | .cont, ⟨_, _, _, q'⟩ => exact False.elim q'
end

/-- the script alone, as it is tracked ahead of the law's call -/
def scriptHp (a : Addr) (vs : List Value) (ns : List Int) : Hp := fun b => if b = a then some (.frz { cls := .type "list", data := .seq vs.toArray } (.lst (ns.map V.int))) else none

/-- the law's own call, by what its def promises of the script -/
theorem lawG {P : Program} {w : World} {K : PySem.W.Frag} {mg mb : Str → Option Value} {k : Nat} {fa a : Addr} {fd : FuncData} {x : Str} {sp : Sp} {s₁ : Shared} {vs : List Value} {ns : List Int}
    (KX : K.In s₁.heap) (hns : s₁.heap.Ns mainGlobals mg) (hb : s₁.heap.Ns builtinsNs mb) (hbb : ∀ x : Str, x ≠ "__name__" → mb x = bootBuiltins x) (hlim : s₁.heap.NoLimit) (hgen : s₁.gens = #[])
    (ha : s₁.heap.get? a = some { cls := .type "list", data := .seq vs.toArray }) (hi : IntsAre vs ns) (hl : ns.length ≤ sizeLine) (hr : Room k PySem.callerA)
    (F : ∀ base : Heap, K.In base → base.Ns mainGlobals mg → FnG P w K mg base CX0 k fa fd [x] sp) (hbind : ∀ (s : Shared) (u : Value), BindsTo s fd ⟨[u], []⟩ [(x, u)])
    (hsp : ∀ H : Hp, Only H → SqL K H a (ns.map V.int) → sp [.ref a] H (fun v _ => v = .bl true) fun _ _ _ => False) :
    codeAny (model P w) PySem.callerA (.call (.ref fa) ⟨[.ref a], []⟩) (fun r s' => r = .ok (.ret (.bool true)) ∧ OldK s₁.heap s'.heap ∧ s'.os = s₁.os ∧ AllBare s'.gens) s₁ := by
  -- which heap is told of: the script's alone, nothing where the module has it
  suffices main : ∀ H : Hp, Only H → SqL K H a (ns.map V.int) → HOk P w H s₁.heap → (∀ b u, H b = some u → b = a ∧ K.lookup b = none) →
      codeAny (model P w) PySem.callerA (.call (.ref fa) ⟨[.ref a], []⟩) (fun r s' => r = .ok (.ret (.bool true)) ∧ OldK s₁.heap s'.heap ∧ s'.os = s₁.os ∧ AllBare s'.gens) s₁ by
    cases e : K.lookup a with
    | some o =>
      have e' := KX a o e
      rw [ha] at e'
      cases e'
      have few : vs.toArray.size ≤ sizeLine := by
        rw [List.size_toArray]
        exact hi.length ▸ hl
      exact main (fun _ => none) (fun _ => .inl rfl) (.inr ⟨_, vs.toArray, _, e, rfl, rfl, rfl, few, by simpa using vals_ints hi⟩) (fun b u z => nomatch z) fun b u z => nomatch z
    | none =>
      have at_a : scriptHp a vs ns a = some (.frz { cls := .type "list", data := .seq vs.toArray } (.lst (ns.map V.int))) := if_pos rfl
      have else_ : ∀ b u, scriptHp a vs ns b = some u → b = a := fun b u z => Classical.byContradiction fun n => by
        rw [show scriptHp a vs ns b = none from if_neg n] at z
        cases z
      refine main (scriptHp a vs ns) (fun b => ?_) (.inl (.inr ⟨_, at_a⟩)) (fun b u z => ?_) fun b u z => ?_
      · by_cases n : b = a
        · exact .inr ⟨_, _, by rw [n]; exact at_a⟩
        · exact .inl (if_neg n)
      · cases else_ b u z
        rw [at_a] at z
        cases z
        exact ⟨ha, by rw [List.length_map]; exact hl, vs, _, vals_ints hi, ha⟩
      · cases else_ b u z
        exact ⟨rfl, e⟩
  intro H hO hS hok hA
  have low : ∀ {b : Addr} {o : Obj}, s₁.heap.get? b = some o → H b = none → (hidT s₁.heap H).get? b = some o := hidT_get
  have nsLow : ∀ {b : Addr} {m : Str → Option Value}, s₁.heap.Ns b m → (hidT s₁.heap H).Ns b m := fun {b m} ⟨o, es, ep, e, d, r⟩ => by
    refine ⟨o, es, ep, low e ?_, d, r⟩
    cases q : H b with
    | none => rfl
    | some u =>
      obtain ⟨rfl, _⟩ := hA b u q
      rw [ha] at e
      cases e
      exact nomatch d
  have kLow : K.In (hidT s₁.heap H) := fun b o e => low (KX b o e) (by
    cases q : H b with
    | none => rfl
    | some u =>
      rw [(hA b u q).2] at e
      cases e)
  obtain ⟨mc, l1, l2⟩ := hlim
  have e0 : Env0 P w K mg (hidT s₁.heap H) PySem.callerA [] s₁ H :=
    ⟨by rfl, ⟨kLow, nsLow hns, ⟨mb, nsLow hb, hbb⟩, mc, nsLow l1, l2⟩, fun b o e => of_hidT e, Nat.le_of_eq (hidT_size _ _), trivial, fun b z => (by simpa [frs] using z : False).elim, hok, .of_eq hgen⟩
  refine codeAny_mono ((F _ kLow (nsLow hns)).run PySem.callerA [] s₁ H ⟨[.ref a], []⟩ [.ref a] [.ref a] _ _ (by rfl) hr e0 (hbind s₁ (.ref a)) (.cons rfl .nil) (hsp H hO hS)) fun r s' h => ?_
  match r, h with
  | .error _, h => exact False.elim h
  | .ok .next, h => exact False.elim h
  | .ok .brk, h => exact False.elim h
  | .ok .cont, h => exact False.elim h
  | .ok (.ret u), ⟨v, H', os, bare, un, hok', r', q⟩ =>
    cases (show v = V.bl true from q)
    cases (show u = Value.bool true from r')
    refine ⟨rfl, OldK.of_keep fun b o e => (?_), os, bare⟩
    rcases (hO b) with z | ⟨ob, xs, z⟩
    · exact un.keep b o e z (fun m => (by simpa [frs] using m : False).elim) fun m => (by simpa using m : False).elim
    · have e1 := (hok b _ z).1
      rw [e] at e1
      cases e1
      exact (hok' b _ (un.frzs b _ _ z)).1

/-- the goal that the head leaves, from the law's promise -/
theorem walkG {l : PySem.W.OpenLaw} {n k : Nat} {q : Program} {loose : List Str} {XP : (Str → Option Value) → Heap → Prop} {YP : World → Heap → Prop} {d : PySem.DefRec} {K : Params → PySem.W.Frag} {sp : PySem.W.Frag → Sp} {x : Str}
    (hn : l.most = some n) (hn2 : n ≤ sizeLine) (hdf : d.params.defaults = []) (hr : Room k PySem.callerA) (hY : ∀ (w : World) (h : Heap), YP w h → (K w.params).In h)
    (F : ∀ (w : World) (mg : Str → Option Value) (fa : Addr) (h : Heap), (K w.params).In h → h.Ns mainGlobals mg → mg d.name = some (.ref fa) →
      ∃ fd : FuncData, (∀ (s : Shared) (u : Value), BindsTo s fd ⟨[u], []⟩ [(x, u)]) ∧ ∀ base : Heap, (K w.params).In base → base.Ns mainGlobals mg → FnG l.prog w (K w.params) mg base CX0 k fa fd [x] (sp (K w.params)))
    (hsp : ∀ (K : PySem.W.Frag) (H : Hp) (a : Addr) (ns : List Int), ns.length ≤ n → Only H → SqL K H a (ns.map V.int) → sp K [.ref a] H (fun v _ => v = .bl true) fun _ _ _ => False) :
    PySem.W.WalkO q loose XP YP l.row.toRowW d [] fun f vs => PySem.call f vs := by
  refine Att.attach_call hn hdf fun w s₀ s₁ mg mb fa o pm cd doc a vs ns G Y _ _ _ hmg hobj hints hlen hg => ?_
  obtain ⟨fd, hb, hF⟩ := F w mg fa _ (hY w _ Y) G.T.g hmg
  exact lawG (hY w _ Y) G.T.g G.T.b G.T.builtins G.T.nolimit hg hobj hints (Nat.le_trans hlen hn2) hr hF hb fun H hO hS => hsp (K w.params) H a ns hlen hO hS
end L2

set_option maxRecDepth 100000
set_option maxHeartbeats 3900000
namespace K
open PySem PySem.Spec PyProof.Rows L2
/-! ### what is shown in few signs -/
/-- an int of few figures -/
def SmI (i : Int) : Prop := i.natAbs < 1000000000
theorem SmI.weight {i : Int} (h : SmI i) : PyData.weight (.int i) ≤ 40 := by
  unfold SmI at h
  show (if (i == 0) = true then 0 else i.natAbs.log2 + 1) ≤ 40
  split
  · omega
  · rename_i hi
    have hi : i ≠ 0 := fun e => hi (by rw [e]; rfl)
    have : i.natAbs.log2 < 39 := (Nat.log2_lt (by omega)).mpr (Nat.lt_trans h (by decide))
    omega
theorem SmI.short {i : Int} (h : SmI i) : PyData.intsShort 13 (.int i) = true :=
  decide_eq_true (PyData.shown_int_le (Nat.lt_trans h (by decide)))
mutual
theorem sho : ∀ d : PyData, d.hasDict = false → PyData.weight d < 1920 → PyData.showable d = true
  | .none, _, _ => rfl
  | .bool _, _, _ => rfl
  | .str _, _, _ => rfl
  | .int i, _, h => by
    refine decide_eq_true ?_
    have h : (if (i == 0) = true then 0 else i.natAbs.log2 + 1) < 1920 := h
    by_cases e : i = 0
    · rw [e]
      decide
    · rw [if_neg (fun z => e (eq_of_beq z))] at h
      omega
  | .list xs, h, k => shoAll xs h k
  | .tuple xs, h, k => shoAll xs h k
  | .dict _, h, _ => nomatch h
theorem shoAll : ∀ xs : List PyData, PyData.hasDictAll xs = false → PyData.weightAll xs < 1920 → PyData.showableAll xs = true
  | [], _, _ => rfl
  | x :: xs, h, k => by
    have h : (PyData.hasDict x || PyData.hasDictAll xs) = false := h
    rw [Bool.or_eq_false_iff] at h
    have k : PyData.weight x + 1 + PyData.weightAll xs < 1920 := k
    show (PyData.showable x && PyData.showableAll xs) = true
    rw [sho x h.1 (by omega), shoAll xs h.2 (by omega)]
    rfl
end
theorem lay0 {d : PyData} (h : PySem.SeqAt.shaped d = true) (k : PyData.weight d ≤ 2 ^ 20) : PyData.layable0 d = true := by
  unfold PySem.SeqAt.shaped at h
  unfold PyData.layable0
  rw [h, decide_eq_true k]
  rfl
theorem SmI.sho {i : Int} (h : SmI i) : PyData.showable (.int i) = true := K.sho _ rfl (by have := h.weight; omega)
theorem shaped_of {d : PyData} (h : PyData.canLay0 d = true) (k : PyData.depth d ≤ 64) : PySem.SeqAt.shaped d = true := by
  unfold PySem.SeqAt.shaped
  rw [h, decide_eq_true k]
  rfl
theorem same_eq {d : PyData} (h : PySem.SeqAt.shaped d = true) : (!PyData.eqv d d) = false := by
  rw [PySem.SeqAt.eqv_refl d (PySem.SeqAt.canLay_of_shaped h)]
  rfl
/-! ### repr of data -/
section
variable {X : Cx}
def rRepD (K : PySem.W.Frag) : List V → Hp → VK → Prop := fun xs H Q => ∃ (p : Addr) (d : PyData), xs = [.ref p] ∧ Dp K H (.ref p) d ∧ d.hasDict = false ∧ d.showable = true ∧ d.depth ≤ 30 ∧ d.shown.length ≤ sizeLine ∧ Q (.str d.shown) H
theorem call_repD (hg : X.A.guards = some []) (hu : X.A.units + 64 < cLine) : CallR X (.builtin "repr") (rRepD X.K) := by
  rintro pins s σ H xs us Q I r ⟨p, d, rfl, hd, hn, hs, hdep, hz, q⟩
  rcases vals1 r with ⟨u, rfl, rx⟩
  cases (show u = Value.ref p from rx)
  obtain ⟨as, ra⟩ := Dp.reads I d _ _ hd rx
  exact repr_of_reads' ra hs (PyData.noDict_hsm hn) hg (by omega) (fun _ _ e => e) (fun h' u tk hk' => ⟨.str _, H, I.kept (t' := tk) hk', ⟨_, rfl⟩, q⟩) hz
end
/-- data that is shown in few signs -/
def Few (d : PyData) : Prop := PyData.canLay0 d = true ∧ PyData.depth d ≤ 30 ∧ d.hasDict = false ∧ PyData.weight d ≤ 1900 ∧ PyData.intsShort 13 d = true
theorem Few.shaped {d : PyData} (h : Few d) : PySem.SeqAt.shaped d = true := shaped_of h.1 (Nat.le_trans h.2.1 (by decide))
theorem Few.shows {d : PyData} (h : Few d) : d.hasDict = false ∧ d.showable = true ∧ d.depth ≤ 30 ∧ d.shown.length ≤ sizeLine :=
  ⟨h.2.2.1, sho d h.2.2.1 (Nat.lt_of_le_of_lt h.2.2.2.1 (by decide)), h.2.1, PyData.shown_fits_of_layable0 (B := 13) (by decide) (by decide) (lay0 h.shaped (Nat.le_trans h.2.2.2.1 (by decide))) h.2.2.2.2⟩
theorem ints_lay : ∀ ns : List Int, PyData.canLayAll0 (ns.map PyData.int) = true ∧ PyData.depthAll (ns.map PyData.int) = 0
  | [] => ⟨rfl, rfl⟩
  | n :: r => by
    obtain ⟨a, b⟩ := ints_lay r
    refine ⟨?_, ?_⟩
    · show (true && PyData.canLayAll0 (r.map PyData.int)) = true
      rw [a]
      rfl
    · show max 0 (PyData.depthAll (r.map PyData.int)) = 0
      rw [b]
      rfl
theorem ints_shaped (ns : List Int) : PySem.SeqAt.shaped (.list (ns.map PyData.int)) = true := by
  obtain ⟨a, b⟩ := ints_lay ns
  exact shaped_of a (show PyData.depthAll (ns.map PyData.int) + 1 ≤ 64 by omega)
theorem ints_dp {K : PySem.W.Frag} {H : Hp} : ∀ ns : List Int, DpAll K H (ns.map V.int) (ns.map PyData.int)
  | [] => .nil
  | n :: r => .cons (.int n) (ints_dp r)
theorem map_at {α β : Type} {f : α → β} {xs : List α} {i : Nat} {v : β} (h : (xs.map f)[i]? = some v) : ∃ x, xs[i]? = some x ∧ f x = v := by
  rw [List.getElem?_map] at h
  cases e : xs[i]? with
  | none =>
    rw [e] at h
    cases h
  | some k =>
    rw [e] at h
    exact ⟨k, rfl, Option.some.inj h⟩
theorem SmI.of {i w : Int} (hw : w < 1000000) (h : -w ≤ i) (k : i ≤ w) : SmI i := by
  unfold SmI
  omega
end K

set_option maxRecDepth 100000
set_option maxHeartbeats 3900000
namespace K
open PySem PySem.Spec PyProof.Rows L2
/-! ### equal things, dicts among them -/
/-- equal: the same data, or tuples, lists, dicts of equal things; of nesting below n -/
def EqW (K : PySem.W.Frag) (H : Hp) : Nat → V → V → Prop
  | 0 => fun _ _ => False
  | n + 1 => fun x y => (∃ d, Dp K H x d ∧ Dp K H y d ∧ PySem.SeqAt.shaped d = true) ∨ (∃ a, x = .ref a ∧ y = .ref a) ∨ (∃ a b xs ys, x = .ref a ∧ y = .ref b ∧ SqT K H a xs ∧ SqT K H b ys ∧ Paired (EqW K H n) xs ys) ∨ EqR K H (EqW K H n) x y
section
variable {X : Cx} {pins : List (Addr × Obj)} {σ : L2.St} {H : Hp} {s :
    Shared}
theorem tup_run (I : Inv X pins σ H s) {A : Around} {F : V → V → Prop} (hu : A.units < cLine) (ih : ∀ x y v u, F x y → RelV x v → RelV y u → SeqAt.EqP X.prog X.w A.in1 s v u true) {a b : Addr} {xs ys : List V} (ha : SqT X.K H a xs) (hb : SqT X.K H b ys) (hp : Paired F xs ys)
    (E Q : Value → Shared → Prop) (q : Q (.bool true) s) : wpAny (model X.prog X.w) A (richCompare .Eq (.ref a) (.ref b)) Q E s := by
  obtain ⟨us, r1, p1, _⟩ := I.tuple ha
  obtain ⟨ws, r2, p2, _⟩ := I.tuple hb
  have hsz : us.toArray.size = ws.toArray.size :=
      by
    rw [List.size_toArray]
    rw [List.size_toArray, ← r1.length, ← r2.length]
    exact Paired.length hp
  refine GQ.rc_tupG hsz hu (fun _ s' => s' = s) p1 p2 (fun j h1 h2 s' e => ?_) (fun s' e => by rw [e]; exact q) rfl
  subst e
  have k := items_run ih hp r1 r2 j (by simpa using h1) (by simpa using h2)
  exact (by simpa using k : SeqAt.EqP X.prog X.w A.in1 s' us.toArray[j] ws.toArray[j] true) E _ ⟨rfl, rfl⟩
theorem eqW_run (I : Inv X pins σ H s) : ∀ (n : Nat) (A : Around), A.units + n + 64 < cLine → ∀ (x y : V) (v u : Value), EqW X.K H n x y → RelV x v → RelV y u → SeqAt.EqP X.prog X.w A s v u true
  | 0, _, _, _, _, _, _, h, _, _ => (show False from
      h).elim
  | n + 1, A, hu, x, y, v, u, h, rx, ry =>
      by
    have ih := eqW_run I n A.in1 (by show A.units + 1 + n + 64 < cLine; omega)
    rcases h with ⟨d, h1, h2, hs⟩ | ⟨a, rfl, rfl⟩ | ⟨a, b, xs, ys, rfl, rfl, h1, h2, hp⟩ | h
    · obtain ⟨as, r1⟩ := Dp.reads I d _ _ h1 rx
      obtain ⟨bs, r2⟩ := Dp.reads I d _ _ h2 ry
      have cl := SeqAt.canLay_of_shaped hs
      have k := SeqAt.eqAt_reads d d A s v u as bs r1 r2 cl cl (SeqAt.room_of_shaped hs (by omega))
      rw [SeqAt.eqv_refl d cl] at k
      exact k.eqP
    · cases (show v = Value.ref a from
          rx)
      cases (show u = Value.ref a from
          ry)
      exact (SeqAt.EqAt.same _).eqP
    · cases (show v = Value.ref a from
          rx)
      cases (show u = Value.ref b from
          ry)
      by_cases e : a = b
      · subst e
        exact (SeqAt.EqAt.same _).eqP
      · exact SeqAt.eqP_refs e (tup_run I (by omega) ih h1 h2 hp)
    · have step := eqR_run I (A := A) (by omega) ih h rx ry
      obtain ⟨a, b, rfl, rfl⟩ : ∃ a b, x = .ref a ∧ y = .ref b :=
          by
        obtain ⟨a, b, _, _, e1, e2, _⟩ | ⟨a, b, _, _, e1, e2, _⟩ := h
        · exact ⟨a, b, e1, e2⟩
        · exact ⟨a, b, e1, e2⟩
      cases (show v = Value.ref a from
          rx)
      cases (show u = Value.ref b from
          ry)
      by_cases e : a = b
      · subst e
        exact (SeqAt.EqAt.same _).eqP
      · exact SeqAt.eqP_refs e step
end
section
variable {X : Cx}
/-- a == b, of two tuples or two dicts that are equal -/
def rEqW (K : PySem.W.Frag) : R2 := fun x y H Q => ∃ n, n ≤ 30 ∧ ((∃ a b xs ys, x = .ref a ∧ y = .ref b ∧ SqT K H a xs ∧ SqT K H b ys ∧ Paired (EqW K H n) xs ys) ∨ EqR K H (EqW K H n) x y) ∧ Q (.bl true) H
theorem op_eqW (hu : X.A.units + 128 < cLine) : OpR X (compareOp .Eq) (rEqW X.K) := by
  intro pins s σ H x y v u Q I rx
  intro ry h
  obtain ⟨n, hn, h, q⟩ := h
  have ih := eqW_run I n X.A.in1 (by show X.A.units + 1 + n + 64 < cLine; omega)
  rcases h with ⟨a, b, xs, ys, rfl, rfl, h1, h2, hp⟩ | h
  · cases (show v = Value.ref a from
        rx)
    cases (show u = Value.ref b from
        ry)
    exact tup_run I (A := X.A) (by omega) ih h1 h2 hp _ _ ⟨.bl true, H, I, rfl, q⟩
  · exact eqR_run I (A := X.A) (by omega) ih h rx ry _ _ ⟨.bl true, H, I, rfl, q⟩
end
end K

set_option maxRecDepth 100000
set_option maxHeartbeats 3900000
namespace K
open PySem PySem.Spec PyProof.Rows L2
/-! ### what is shown has no great letters -/
/-- no T, no F among its signs -/
def Cf (t : Str) : Prop := 84 ∉ t.cps.toList ∧ 70 ∉ t.cps.toList
theorem none_in {x y : Str} {k : Nat} (h : k ∉ x.cps.toList) (e : y.cps.toList.head? = some k) : (Builtin.Str.occurrences x y 0 x.length 1).isEmpty = true := by
  cases z : (Builtin.Str.occurrences x y 0 x.length 1).isEmpty with
  | true => rfl
  | false =>
    obtain ⟨i, hi, hs⟩ := (StrLaws.found_iff x y).mp (by rw [z]; rfl)
    refine absurd ?_ h
    unfold Builtin.Str.subAt at hs
    have hs := eq_of_beq hs
    have e2 : (x.cps.extract i (i + y.length)).toList.head? = some k := by rw [hs]; exact e
    have : k ∈ (x.cps.extract i (i + y.length)).toList := List.mem_of_mem_head? e2
    rw [Array.toList_extract] at this
    exact List.mem_of_mem_drop (List.mem_of_mem_take this)
theorem Cf.true_out {x : Str} (h : Cf x) : (Builtin.Str.occurrences x "True" 0 x.length 1).isEmpty = true := none_in h.1 (by decide +kernel)
theorem Cf.false_out {x : Str} (h : Cf x) : (Builtin.Str.occurrences x "False" 0 x.length 1).isEmpty = true := none_in h.2 (by decide +kernel)
theorem Cf.app {a b : Str} (h : Cf a) (k : Cf b) : Cf (a ++ b) := ⟨fun m => (mem_cps_append.mp m).elim h.1 k.1, fun m => (mem_cps_append.mp m).elim h.2 k.2⟩
theorem Cf.join {sep : Str} (hs : Cf sep) {ts : List Str} (h : ∀ t ∈ ts, Cf t) : Cf (Str.join sep ts) :=
  ⟨fun m => ((mem_join sep 84 ts).mp m).elim (fun ⟨t, ht, hc⟩ => (h t ht).1 hc) fun z => hs.1 z.2, fun m => ((mem_join sep 70 ts).mp m).elim (fun ⟨t, ht, hc⟩ => (h t ht).2 hc) fun z => hs.2 z.2⟩
theorem cf_int (i : Int) : Cf (PyData.int i).shown := ⟨shown_int_free' (by decide) i, shown_int_free' (by decide) i⟩
/-- a text of small letters -/
def Low (x : Str) : Prop := x.cps.size ≤ 10 ∧ ∀ c ∈ x.cps.toList, 97 ≤ c ∧ c < 123
theorem low_char : ∀ c : Nat, 97 ≤ c → c < 123 → Builtin.Str.reprChar 39 c = [c] ∧ Builtin.Str.reprChar 34 c = [c] := by
  have all : (List.range 123).all (fun c => decide (c < 97) || (decide (Builtin.Str.reprChar 39 c = [c]) && decide (Builtin.Str.reprChar 34 c = [c]))) = true := by decide +kernel
  intro c h1 h2
  have := List.all_eq_true.mp all c (List.mem_range.mpr h2)
  rw [Bool.or_eq_true, Bool.and_eq_true, decide_eq_true_eq, decide_eq_true_eq, decide_eq_true_eq] at this
  exact this.resolve_left (by omega)
theorem fold_low {q : Nat} (hq : q = 39 ∨ q = 34) : ∀ (l : List Nat) (acc : Array Nat), (∀ c ∈ l, 97 ≤ c ∧ c < 123) → (l.foldl (fun out c => out ++ (Builtin.Str.reprChar q c).toArray) acc).toList = acc.toList ++ l
  | [], acc, _ => by simp
  | c :: r, acc, h => by
    obtain ⟨h1, h2⟩ := h c List.mem_cons_self
    have e : Builtin.Str.reprChar q c = [c] := by
      rcases hq with rfl | rfl
      · exact (low_char c h1 h2).1
      · exact (low_char c h1 h2).2
    rw [List.foldl_cons, e, fold_low hq r _ fun d hd => h d (List.mem_cons_of_mem _ hd)]
    simp
theorem quote_is (x : Str) : reprQuote x = 39 ∨ reprQuote x = 34 := by
  unfold reprQuote
  split <;> first | exact .inl rfl | exact .inr rfl
theorem Low.signs {x : Str} (h : Low x) : (reprText x).cps.toList = [reprQuote x] ++ x.cps.toList ++ [reprQuote x] := by
  unfold reprText
  show ((x.cps.foldl (fun out c => out ++ (Builtin.Str.reprChar (reprQuote x) c).toArray) #[reprQuote x]).push (reprQuote x)).toList = _
  rw [Array.toList_push, ← Array.foldl_toList, fold_low (quote_is x) _ _ h.2]
theorem cf_str {x : Str} (h : Low x) : Cf (PyData.str x).shown := by
  rw [PyData.shown_str]
  have q := quote_is x
  have no : ∀ k : Nat, k ≠ 39 → k ≠ 34 → k < 97 → k ∉ (reprText x).cps.toList := fun k k1 k2 k3 m => by
    rw [h.signs, List.mem_append, List.mem_append, List.mem_singleton] at m
    rcases m with (m | m) | m
    · rcases q with q | q <;> omega
    · have := h.2 k m
      omega
    · rcases q with q | q <;> omega
  exact ⟨no 84 (by decide) (by decide) (by decide), no 70 (by decide) (by decide) (by decide)⟩
theorem len_str {x : Str} (h : Low x) : (PyData.str x).shown.length ≤ 12 := by
  rw [PyData.shown_str]
  have e : (reprText x).length = (reprText x).cps.toList.length := by rw [Array.length_toList]; rfl
  have s := h.1
  rw [e, h.signs, List.length_append, List.length_append, Array.length_toList]
  show 1 + x.cps.size + 1 ≤ 12
  omega
theorem cf_all {xs : List PyData} (h : ∀ x ∈ xs, Cf x.shown) : ∀ t ∈ PyData.shownAll xs, Cf t := fun t ht => ⟨shownAll_free (fun x hx => (h x hx).1) t ht, shownAll_free (fun x hx => (h x hx).2) t ht⟩
theorem cf_tup {xs : List PyData} (h : ∀ x ∈ xs, Cf x.shown) : Cf (PyData.tuple xs).shown := by
  rw [PyData.shown_tuple]
  refine Cf.app (Cf.app (by unfold Cf; decide +kernel) (Cf.join (by unfold Cf; decide +kernel) (cf_all h))) ?_
  split <;> (unfold Cf; decide +kernel)
theorem cf_kv : ∀ {kvs : List (PyData × PyData)}, (∀ p ∈ kvs, Cf p.1.shown ∧ Cf p.2.shown) → ∀ t ∈ PyData.shownKv kvs, Cf t
  | [], _, t, ht => by
    rw [PyData.shownKv_nil] at ht
    cases ht
  | (k, v) :: r, h, t, ht => by
    rw [PyData.shownKv_cons, List.mem_cons] at ht
    rcases ht with rfl | ht
    · have := h (k, v) List.mem_cons_self
      exact (this.1.app (by unfold Cf; decide +kernel)).app this.2
    · exact cf_kv (fun p hp => h p (List.mem_cons_of_mem _ hp)) t ht
theorem cf_dict {kvs : List (PyData × PyData)} (h : ∀ p ∈ kvs, Cf p.1.shown ∧ Cf p.2.shown) : Cf (PyData.dict kvs).shown := by
  rw [PyData.shown_dict]
  exact Cf.app (Cf.app (by unfold Cf; decide +kernel) (Cf.join (by unfold Cf; decide +kernel) (cf_kv h))) (by unfold Cf; decide +kernel)
/-! how long -/
theorem len_join {m : Nat} : ∀ {ts : List Str}, (∀ t ∈ ts, t.length ≤ m) → (Str.join ", " ts).length ≤ (m + 2) * ts.length
  | [], _ => Nat.zero_le _
  | [x], h => by
    rw [join_one]
    have := h x List.mem_cons_self
    simp only [List.length_cons,
        List.length_nil]
    omega
  | x :: y :: r, h => by
    rw [join_cons_cons, strLen_append, strLen_append]
    have h1 := h x List.mem_cons_self
    have h2 := len_join (ts := y :: r) fun t ht => h t (List.mem_cons_of_mem _ ht)
    have e : (", " : Str).length = 2 := by decide +kernel
    rw [e, List.length_cons (a := x), Nat.mul_succ]
    omega
theorem len_all {m : Nat} : ∀ {xs : List PyData}, (∀ x ∈ xs, x.shown.length ≤ m) → ∀ t ∈ PyData.shownAll xs, t.length ≤ m
  | [], _, t, ht => by
    rw [PyData.shownAll_nil] at ht
    cases ht
  | x :: r, h, t, ht => by
    rw [PyData.shownAll_cons] at ht
    rw [List.mem_cons] at ht
    rcases ht with rfl | ht
    · exact h x List.mem_cons_self
    · exact len_all (fun y hy => h y (List.mem_cons_of_mem _ hy)) t ht
theorem len_tup {m : Nat} {xs : List PyData} (h : ∀ x ∈ xs, x.shown.length ≤ m) : (PyData.tuple xs).shown.length ≤ (m + 2) * xs.length + 3 := by
  rw [PyData.shown_tuple, strLen_append, strLen_append]
  have h1 := len_join (len_all h)
  rw [PyData.shownAll_length] at h1
  have e : ("(" : Str).length = 1 := by decide +kernel
  have e2 : ((if xs.length == 1 then ",)" else ")" : String) : Str).length ≤ 2 := by split <;> decide +kernel
  omega
theorem len_kv {m : Nat} : ∀ {kvs : List (PyData × PyData)}, (∀ p ∈ kvs, p.1.shown.length + p.2.shown.length ≤ m) → (∀ t ∈ PyData.shownKv kvs, t.length ≤ m + 2) ∧ (PyData.shownKv kvs).length = kvs.length
  | [], _ => by
    rw [PyData.shownKv_nil]
    exact ⟨fun t h => (nomatch h), rfl⟩
  | (k, v) :: r, h => by
    obtain ⟨a, b⟩ := len_kv (kvs := r) fun p hp => h p (List.mem_cons_of_mem _ hp)
    rw [PyData.shownKv_cons]
    refine ⟨fun t ht => ?_, by simp [b]⟩
    rcases List.mem_cons.mp ht with rfl | ht
    · have := h (k, v) List.mem_cons_self
      rw [strLen_append]
      rw [strLen_append]
      have e : (": " : Str).length = 2 := by decide +kernel
      dsimp only at this
      omega
    · exact a t ht
theorem len_dict {m : Nat} {kvs : List (PyData × PyData)} (h : ∀ p ∈ kvs, p.1.shown.length + p.2.shown.length ≤ m) : (PyData.dict kvs).shown.length ≤ (m + 4) * kvs.length + 2 := by
  rw [PyData.shown_dict, strLen_append, strLen_append]
  obtain ⟨a, b⟩ := len_kv h
  have h1 := len_join a
  rw [b, show m + 2 + 2 = m + 4 from rfl] at h1
  have e : ("{" : Str).length = 1 := by decide +kernel
  have e2 : ("}" : Str).length = 1 := by decide +kernel
  omega
theorem len_int {i : Int} (h : SmI i) : (PyData.int i).shown.length ≤ 13 := of_decide_eq_true h.short
end K

set_option maxRecDepth 100000
set_option maxHeartbeats 3900000
namespace K
open PySem PySem.Spec PyProof.Rows L2
/-! ### a dict comprehension put under a name; a text taken out of a list -/
section
variable {X : Cx}
theorem sw_dict {kx vx : Expr} {gs : List Comprehension} {scope : Scope} {pos py : Pos} {y : Str} {l : Nat} {env : Env} (hk : env.scope.kind = .function) (hy : env.scope.names.lookup y = some .local) (hl : (py.line == pos.line) = true)
    (ha : (scope.names.any fun (n, k) => n == y && (k == .local || k == .cell)) = false) : swapsWith (.DictComp kx vx gs scope pos) (some (.Name y py)) l env = pure true := by
  have k1 : env.kindOf y = some .local := hy
  have k2 : env.blockKind = .function := by
    unfold Env.blockKind
    rw [hk]
    rfl
  unfold swapsWith
  simp only [k2, k1, ha, Expr.pos, hl] <;> rfl
theorem ps_setDc {i : Nat} {y : Str} {py : Pos} {kx vx tg iter : Expr} {ifs : List Expr} {scope : Scope} {own : List (Str × Nat)} {pos spos : Pos} {wi : TI} {g : TG} {tt : TT} {tk tv : TE} (hc : X.calm = true) (hN : X.N.Nodup) (hy : X.N[i]? = some y) (hyl : X.env.scope.names.lookup y = some .local)
    (hsw : swapsWith (.DictComp kx vx [⟨tg, iter, ifs, 0⟩] scope pos) (some (.Name y py)) spos.line X.env = pure true) (hi : PI X tg iter wi) (ok : BlkOk X.N X.env.scope scope own)
    (hg : ∀ (s : Shared) (H : Hp) (C : Addr) (cl : List (Str × Addr)) (fp : List Addr), PG (X.blk s H scope (compEnvC scope cl C X.env) fp) tg g)
    (ht : ∀ (s : Shared) (H : Hp) (C : Addr) (cl : List (Str × Addr)) (fp : List Addr), PTs (X.blk s H scope (compEnvC scope cl C X.env) fp) ifs tt)
    (hk : ∀ (s : Shared) (H : Hp) (C : Addr) (cl : List (Str × Addr)) (fp : List Addr), PE (X.blk s H scope (compEnvC scope cl C X.env) fp) kx
        tk)
    (he : ∀ (s : Shared) (H : Hp) (C : Addr) (cl : List (Str × Addr)) (fp : List Addr), PE (X.blk s H scope (compEnvC scope cl C X.env) fp) vx tv)
    (hs : ∀ x, foldedSetIterable iter X.env x = pure x := by intro _; rfl) :
    PS X (.Assign [.Name y py] (.DictComp kx vx [⟨tg, iter, ifs, 0⟩] scope pos) spos) (tAsg (tDc wi g tt tk tv (own.map (·.2))) (gName i)) := by
  refine ⟨fun pins s σ H D I h => ?_⟩
  rw [exec_Assign_Name_used _ _ _ _ hsw] <;> skip
  refine wpAny_bind (wpAny_standAt (wpAny_bind
      ?_))
  show wpAny _ X.A (do let _ ← comprehension (.DictComp kx vx [⟨tg, iter, ifs, 0⟩] scope pos) scope X.env (firstIterPos [⟨tg, iter, ifs, 0⟩] pos) newDict false (eval iter X.env) (some (assign (.Name y py) X.env))) _ _ s
  have h : tDc wi g tt tk tv (own.map (·.2)) σ H (fun x H1 => gName i x σ H1 D.nx) := h
  refine wpAny_bind (thn (dc_core (Qf := fun _ s2 => SP X pins D .next s2) hc hN I hi ok hg ht hk he hs h fun L C s' m H' I' q hn f => ?_) fun _ s2 hq => wpAny_pure (wpAny_pure hq))
  show wpAny _ _ (assign (.Name y py) X.env (.ref L)) _ _
      _
  refine wpAny_assign_Name (store_ok2 (v := V.ref L) I' hN hy (.inl hyl) rfl (fun s2 I2 ⟨a, sb, ha⟩ => ?_) (.inr
      hyl))
  rcases f with ⟨f0, f1, f2, f3, f4, f5⟩
  have away : C ≠ a := by
    rcases ha with z | z
    · exact z ▸ f1
    · exact fun e => (f4 y a z e.symm).elim
  exact ⟨m, hn.sameBut sb away, fun h3 sb3 => ⟨_, H', I2.turned (t' := s2.toks) (fun b o hb e => (sb3.2 b hb).trans e) f0 f1 f3 f4 f5, q⟩⟩
def eqs (x : Str) (v : Value) : Bool := match v with
  | .str y _ => y == x
  | _ => false
theorem eqs_gives {x : Str} {t : Tok} : ∀ {us : List Value} {xs : List Str}, Vals (xs.map V.str) us → ∀ y ∈ us, MeetsSeq.EqGives y (.str x t) (eqs x y)
  | _, [], .nil => fun y hy => nomatch hy
  | _, z :: r, .cons ⟨u, e⟩ h => fun y hy => by
    rcases List.mem_cons.mp hy with k | k
    · subst k
      subst e
      show MeetsSeq.EqGives (.str z u) (.str x t) (z == x)
      rw [← SeqAt.str_beq]
      exact SeqRoads2.EqGives.str z x u t
    · exact eqs_gives h y k
theorem erase_mapS : ∀ (l : List Str) (j : Nat), (l.map V.str).eraseIdx j = (l.eraseIdx j).map V.str
  | [], _ => rfl
  | _ :: _, 0 => rfl
  | a :: r, j + 1 => congrArg (V.str a :: ·) (erase_mapS r j)
theorem strs_get : ∀ {xs : List Str} {us : List Value} {j : Nat} {x : Str}, Vals (xs.map V.str) us → xs[j]? = some x → ∃ t, us[j]? = some (.str x t)
  | z :: r, _, 0, x, .cons ⟨u, e⟩ h, k => by
    obtain rfl := Option.some.inj k
    exact ⟨u, congrArg some e⟩
  | z :: r, _, j + 1, x, .cons _ h, k => strs_get (xs := r) (j := j) h k
def rRemS : V → List V → Hp → VK → Prop := fun x xs H Q => ∃ (l : Addr) (ns : List Str) (k : Str) (j : Nat), x = .ref l ∧ xs = [.str k] ∧ H l = some (.lst (ns.map V.str)) ∧ ns[j]? = some k ∧ (∀ m : Nat, m < j → ns[m]? ≠ some k) ∧ Q .non (upd H l (.lst ((ns.eraseIdx j).map V.str)))
theorem mt_removeS : MtM X "list.remove" rRemS := by
  intro pins s σ H x xs v us Q I rx
  intro rxs h
  rcases h with ⟨l, ns, k, j, rfl, rfl, hH, hj, hno, q⟩
  cases rx
  rcases rxs.one with ⟨u, rfl, ru⟩
  obtain ⟨t, rfl⟩ := ru
  rcases I.lstM hH with ⟨z, its, n, r, hl, e⟩
  have rl := r.length
  rw [List.length_map] at hl z rl
  have jn : j < ns.length := (List.getElem?_eq_some_iff.mp hj).1
  have jl : j < its.toArray.size := by
    rw [List.size_toArray]
    omega
  have at' : ∀ (m : Nat) (x : Str) (hm : m < its.toArray.size), ns[m]? = some x → ∃ tm, its.toArray[m] = .str x tm := fun m x hm e1 => by
    obtain ⟨tm, ht⟩ := strs_get r e1
    obtain ⟨h1, h2⟩ := List.getElem?_eq_some_iff.mp ht
    exact ⟨tm, by simpa using h2⟩
  refine call_meets PySem.F.slot_list_remove ⟨_, e, rfl⟩ PySem.F.entry_list_remove (PySem.F.args_list_remove_2 _
      _)
    (MeetsSeq.list_remove l its.toArray n (.str k t) (eqs k) (fun y hy => eqs_gives r y (by simpa using hy)) j jl ?_ ?_ (by rw [List.size_toArray]; omega)) ⟨e, ?_⟩
  · obtain ⟨tj, e1⟩ := at' j k jl hj
    rw [e1]
    exact beq_self_eq_true k
  · intro m hm hmj
    have mn : m < ns.length := by omega
    obtain ⟨tm, e1⟩ := at' m ns[m] hm (List.getElem?_eq_getElem mn)
    rw [e1]
    refine beq_eq_false_iff_ne.mpr fun e2 => hno m hmj
        ?_
    rw [List.getElem?_eq_getElem mn, e2]
  · have rr := r.eraseIdx j
    rw [erase_mapS] at rr
    refine ⟨.non, _, I.lset (its' := its.eraseIdx j) (t' := s.toks) hH e ?_ rr ?_, rfl,
        q⟩
    · show its.toArray.eraseIdxIfInBounds j = (its.eraseIdx
          j).toArray
      rw [List.eraseIdxIfInBounds_toArray] <;> skip
    · have := len_erase ns j
      rw [List.length_map]
      omega
end
/-! ### states: dicts of names -/
def sK (f : Str → V) (ys : List Str) : List (Key × V) := ys.map fun y => (Sum.inr y, f y)
theorem sK_val {f : Str → V} : ∀ {ys : List Str} {y : Str}, y ∈ ys → valV (sK f ys) (Sum.inr y) = some (f y)
  | z :: r, y, h => by
    unfold valV sK
    rw [List.map_cons, List.find?_cons]
    by_cases e : z = y
    · subst e
      simp
    · have : decide ((Sum.inr z : Key) = Sum.inr y) = false := decide_eq_false fun k => e (Sum.inr.inj k)
      simp only [this]
      have ih := sK_val (f := f) (ys := r) ((List.mem_cons.mp h).resolve_left fun k => e k.symm)
      unfold valV sK at ih
      exact ih
def fput (f : Str → V) (y : Str) (v : V) : Str → V := fun z => if z = y then v else f z
theorem sK_put {f : Str → V} {ys : List Str} {y : Str} {v : V} (h : y ∈ ys) : putK (sK f ys) (Sum.inr y) v = sK (fput f y v) ys := by
  unfold putK sK
  rw [if_pos]
  · rw [List.map_map]
    refine List.map_congr_left fun z _ => ?_
    show (if (Sum.inr z : Key) = Sum.inr y then ((Sum.inr z : Key), v) else (Sum.inr z, f z)) = _
    unfold fput
    by_cases e : z = y
    · rw [if_pos (by rw [e]), if_pos e]
    · rw [if_neg (fun k : (Sum.inr z : Key) = Sum.inr y => e (Sum.inr.inj k)), if_neg e]
  · rw [List.any_map, List.any_eq_true]
    exact ⟨y, h, decide_eq_true rfl⟩
theorem sK_new {f : Str → V} {ys : List Str} {y : Str} {v : V} (h : y ∉ ys) : putK (sK f ys) (Sum.inr y) v = sK (fput f y v) (ys ++ [y]) := by
  unfold putK sK
  rw [if_neg]
  · rw [List.map_append]
    congr 1
    · refine List.map_congr_left fun z hz => ?_
      unfold fput
      rw [if_neg fun e : z = y => h (by rw [← e]; exact hz)]
    · show [((Sum.inr y : Key), v)] = [(Sum.inr y, fput f y v y)]
      unfold fput
      rw [if_pos rfl]
  · rw [List.any_map, List.any_eq_true]
    rintro ⟨z, hz, e⟩
    have e2 : (Sum.inr z : Key) = Sum.inr y := of_decide_eq_true e
    rw [Sum.inr.inj e2] at hz
    exact h hz
/-- what a name is worth: a number or a row of numbers -/
inductive Cel (K : PySem.W.Frag) (H : Hp) : V → PyData → Prop
  | num (i : Int) (h : SmI i) : Cel K H (.int i) (.int i)
  | row {a : Addr} {ns : List Int} (h : SqT K H a (ns.map V.int)) (l : ns.length ≤ 100) (k : ∀ i ∈ ns, SmI i) : Cel K H (.ref a) (.tuple (ns.map .int))
/-- a state of these names: what each is worth -/
def StW (K : PySem.W.Frag) (H : Hp) (a : Addr) (ys : List Str) (f : Str → V) (g : Str → PyData) : Prop := H a = some (.dK (sK f ys)) ∧ ∀ y ∈ ys, Cel K H (f y) (g y)
def stW (ys : List Str) (g : Str → PyData) : PyData := .dict (ys.map fun y => (.str y, g y))
theorem Cel.dp {K : PySem.W.Frag} {H : Hp} {v : V} {d : PyData} (h : Cel K H v d) : Dp K H v d ∧ PySem.SeqAt.shaped d = true := by
  cases h with
  | num i _ => exact ⟨.int i, rfl⟩
  | @row a ns h l _ =>
    obtain ⟨c1, c2⟩ := ints_lay ns
    exact ⟨.tup h (ints_dp ns), shaped_of c1 (show PyData.depthAll (ns.map PyData.int) + 1 ≤ 64 by omega)⟩
theorem Cel.sq {K : PySem.W.Frag} {H H' : Hp} {v : V} {d : PyData} (h : Cel K H v d) (k : ∀ a xs, SqT K H a xs → SqT K H' a xs) : Cel K H' v d := by
  cases h with
  | num i h => exact .num i h
  | row h l m => exact .row (k _ _ h) l m
/-- alike, told and due -/
theorem StW.eq {K : PySem.W.Frag} {H : Hp} {a b : Addr} {ys : List Str} {f1 f2 : Str → V} {g : Str → PyData} (h1 : StW K H a ys f1 g) (h2 : StW K H b ys f2 g) (n : Nat) : EqR K H (EqW K H (n + 1)) (.ref a) (.ref b) := by
  refine .inr ⟨a, b, _, _, rfl, rfl, h1.1, h2.1, ?_, fun p hp => ?_⟩
  · unfold sK
    rw [List.length_map, List.length_map]
  · unfold sK at hp
    obtain ⟨y, hy, rfl⟩ := List.mem_map.mp hp
    obtain ⟨d1, sh⟩ := (h1.2 y hy).dp
    exact ⟨f2 y, sK_val hy, .inl ⟨g y, d1, ((h2.2 y hy).dp).1, sh⟩⟩
end K

set_option maxRecDepth 100000
set_option maxHeartbeats 3900000
namespace K
open PySem PySem.Spec PyProof.Rows L2
/-! ### repr of states -/
section
variable {X : Cx} {pins : List (Addr × Obj)} {σ : L2.St} {H : Hp} {s :
    Shared}
theorem reads_ints {h : Heap} : ∀ {ns : List Int} {us : List Value}, Vals (ns.map V.int) us → ReadsAll h us (ns.map PyData.int) []
  | [], _, .nil => .nil
  | n :: r, _, .cons ⟨t, e⟩ hr => by
    subst e
    exact (ReadsAll.cons (.int n t) (reads_ints (ns := r) hr) : ReadsAll h _ _ ([] ++ []))
theorem Cel.reads (I : Inv X pins σ H s) {v : V} {d : PyData} {u : Value} (h : Cel X.K H v d) (r : RelV v u) : Reads s.heap u d [] := by
  cases h with
  | num i _ =>
    obtain ⟨t, rfl⟩ := r
    exact .int i t
  | @row a ns h _ _ =>
    cases (show u = Value.ref a from r)
    obtain ⟨its, rv, ⟨o, ho, hc, n, hd⟩, _⟩ := I.tuple h
    exact Reads.tuple ho hc hd (by simpa using reads_ints rv)
/-- the entries of a state -/
theorem state_entries (I : Inv X pins σ H s) {f : Str → V} {g : Str → PyData} : ∀ {ys : List Str} {va : List (Key × Value)} {es : List DictEntry}, (∀ y ∈ ys, Cel X.K H (f y) (g y)) → KV (sK f ys) va → Pairs (mixKind X.prog X.w) es va →
    ReadsAll s.heap (es.map (·.key)) (ys.map PyData.str) [] ∧ ReadsAll s.heap (es.map (·.val)) (ys.map g) []
  | [], _, _, _, .nil, .nil => ⟨.nil, .nil⟩
  | y :: r, _, _, hc, .cons (b := b) ⟨h1, h2⟩ hr, .cons (e := e) k1 k2 kr => by
    obtain ⟨a1, a2⟩ := state_entries I (ys := r) (fun z hz => hc z (List.mem_cons_of_mem _ hz)) hr kr
    have h1 : (Sum.inr y : Key) = b.1 := h1
    rw [← h1] at k1
    obtain ⟨t, et⟩ : ∃ t, e.key = .str y t := by
      rcases keyIs_shape (show keyIs (Sum.inr y) e.key = true from k1) with ⟨i, t, z, _⟩ | ⟨x, t, z, e⟩
      · cases z
      · obtain rfl := Sum.inr.inj z
        exact ⟨t, e⟩
    refine ⟨?_, ?_⟩
    · show ReadsAll s.heap (e.key :: _) (.str y :: _) []
      rw [et]
      exact (ReadsAll.cons (.str y t) a1 : ReadsAll s.heap _ _ ([] ++ []))
    · show ReadsAll s.heap (e.val :: _) (g y :: _) []
      rw [k2]
      exact (ReadsAll.cons ((hc y List.mem_cons_self).reads I h2) a2 : ReadsAll s.heap _ _ ([] ++ []))
theorem StW.reads (I : Inv X pins σ H s) {a : Addr} {ys : List Str} {f : Str → V} {g : Str → PyData} (h : StW X.K H a ys f g) : Reads s.heap (.ref a) (stW ys g) [a] ∧ a ≠ sysModules := by
  obtain ⟨_, ya, va, ra, o, es, ep, ho, hx, hd, _, hp, _⟩ := (show ObjOk X.prog X.w H s.heap a (.dK (sK f ys)) from I.hok a _ h.1)
  obtain ⟨r1, r2⟩ := state_entries I h.2 ra hp
  refine ⟨?_, fun e => by rw [e] at ya; exact absurd ya (by decide)⟩
  have := Reads.dict (kvs := ys.map fun y => (.str y, g y)) ho hx.1 hd (by rw [List.map_map]; exact r1) (by rw [List.map_map]; exact r2)
  exact this
end
/-- how a state is shown -/
structure Fine (d : PyData) : Prop where
  sh : d.showable = true
  dp : d.depth ≤ 29
  ln : d.shown.length ≤ 4000000
  cf : Cf d.shown
theorem Cel.fine {K : PySem.W.Frag} {H : Hp} {v : V} {d : PyData} (h : Cel K H v d) : d.showable = true ∧ d.depth ≤ 1 ∧ d.shown.length ≤ 1503 ∧ Cf d.shown := by
  cases h with
  | num i h => exact ⟨h.sho, Nat.zero_le _, Nat.le_trans (len_int h) (by decide), cf_int i⟩
  | @row a ns h l k =>
    have all : ∀ ns : List Int, (∀ i ∈ ns, SmI i) → PyData.showableAll (ns.map .int) = true := fun ns => by
      induction ns with
      | nil => exact fun _ => rfl
      | cons n r ih =>
        intro k
        show (PyData.showable (.int n) && PyData.showableAll (r.map .int)) = true
        rw [(k n List.mem_cons_self).sho, ih fun i hi => k i (List.mem_cons_of_mem _ hi)]
        rfl
    refine ⟨all ns k, ?_, ?_, cf_tup fun x hx => ?_⟩
    · show PyData.depthAll (ns.map .int) + 1 ≤ 1
      rw [(ints_lay ns).2]
      exact Nat.le_refl _
    · have := len_tup (m := 13) (xs := ns.map .int) fun x hx => by
        obtain ⟨i, hi, rfl⟩ := List.mem_map.mp hx
        exact len_int (k i hi)
      rw [List.length_map] at this
      have e : (13 + 2) * ns.length ≤ 15 * 100 := Nat.mul_le_mul_left 15 l
      omega
    · obtain ⟨i, hi, rfl⟩ := List.mem_map.mp hx
      exact cf_int i
theorem StW.fine {K : PySem.W.Frag} {H : Hp} {a : Addr} {ys : List Str} {f : Str → V} {g : Str → PyData} (h : StW K H a ys f g) (lo : ∀ y ∈ ys, Low y) (few : ys.length ≤ 1000) : (stW ys g).showable = true ∧ (stW ys g).depth ≤ 2 ∧ (stW ys g).shown.length ≤ 1600000 ∧ Cf (stW ys g).shown := by
  have hc := h.2
  refine ⟨?_, ?_, ?_, ?_⟩
  · show PyData.showableKv (ys.map fun y => (.str y, g y)) = true
    clear few lo h
    induction ys with
    | nil => rfl
    | cons y r ih =>
      show (PyData.showable (.str y) && PyData.showable (g y) && PyData.showableKv (r.map fun y => (.str y, g y))) = true
      rw [(hc y List.mem_cons_self).fine.1, ih fun z hz => hc z (List.mem_cons_of_mem _ hz)]
      rfl
  · show PyData.depthKv (ys.map fun y => (.str y, g y)) + 1 ≤ 2
    have : PyData.depthKv (ys.map fun y => (.str y, g y)) ≤ 1 := by
      clear few lo h
      induction ys with
      | nil => exact Nat.zero_le _
      | cons y r ih =>
        show max (max 0 (PyData.depth (g y))) (PyData.depthKv (r.map fun y => (.str y, g y))) ≤ 1
        have h1 := (hc y List.mem_cons_self).fine.2.1
        have h2 := ih fun z hz => hc z (List.mem_cons_of_mem _ hz)
        omega
    omega
  · have := len_dict (m := 1515) (kvs := ys.map fun y => (.str y, g y)) fun p hp => by
      obtain ⟨y, hy, rfl⟩ := List.mem_map.mp hp
      have h1 := len_str (lo y hy)
      have h2 := (hc y hy).fine.2.2.1
      dsimp only
      omega
    rw [List.length_map] at this
    have e : (1515 + 4) * ys.length ≤ 1519 * 1000 := Nat.mul_le_mul_left 1519 few
    show (PyData.dict (ys.map fun y => (.str y, g y))).shown.length ≤ _
    omega
  · exact cf_dict fun p hp => by
      obtain ⟨y, hy, rfl⟩ := List.mem_map.mp hp
      exact ⟨cf_str (lo y hy), (hc y hy).fine.2.2.2⟩
/-- a state, or where it goes on and how -/
def RdW (K : PySem.W.Frag) (H : Hp) (v : V) (d : PyData) : Prop :=
  (∃ a ys f g, v = .ref a ∧ StW K H a ys f g ∧ d = stW ys g) ∨ ∃ t a x i ys f g, v = .ref t ∧ SqT K H t [.str x, .int i, .ref a] ∧ StW K H a ys f g ∧ d = .tuple [.str x, .int i, stW ys g]
section
variable {X : Cx}
def rRepW (K : PySem.W.Frag) : List V → Hp → VK → Prop := fun xs H Q => ∃ (p : Addr) (d : PyData), xs = [.ref p] ∧ RdW K H (.ref p) d ∧ d.showable = true ∧ d.depth ≤ 30 ∧ d.shown.length ≤ sizeLine ∧ Q (.str d.shown) H
theorem call_repW (hg : X.A.guards = some []) (hu : X.A.units + 64 < cLine) : CallR X (.builtin "repr") (rRepW X.K) := by
  rintro pins s σ H xs us Q I r ⟨p, d, rfl, hd, hs, hdep, hz, q⟩
  rcases vals1 r with ⟨u, rfl, rx⟩
  cases (show u = Value.ref p from rx)
  obtain ⟨as, ra, no⟩ : ∃ as, Reads s.heap (.ref p) d as ∧ sysModules ∉ as := by
    rcases hd with ⟨a, ys, f, g, e, h, rfl⟩ | ⟨t, a, x, i, ys, f, g, e, ht, h, rfl⟩
    · cases e
      obtain ⟨r1, r2⟩ := h.reads I
      exact ⟨_, r1, by rw [List.mem_singleton]; exact fun z => r2 z.symm⟩
    · cases e
      obtain ⟨r1, r2⟩ := h.reads I
      obtain ⟨its, rv, ⟨o, ho, hc, n, hdd⟩, _⟩ := I.tuple ht
      match its, rv with
      | [_, _, _], .cons ⟨tx, e1⟩ (.cons ⟨ti, e2⟩ (.cons e3 .nil)) =>
        have e3 : _ = Value.ref a := e3
        subst e1 e2 e3
        have := Reads.tuple (xs := [.str x, .int i, stW ys g]) ho hc hdd (ReadsAll.cons (.str x tx) (ReadsAll.cons (.int i ti) (ReadsAll.cons r1 .nil)))
        exact ⟨_, this, by simpa using fun z : sysModules = a => r2 z.symm⟩
  exact repr_of_reads' ra hs (fun _ => no) hg (by omega) (fun _ _ e => e) (fun h' u tk hk' => ⟨.str _, H, I.kept (t' := tk) hk', ⟨_, rfl⟩, q⟩) hz
end
end K

set_option maxRecDepth 100000
set_option maxHeartbeats 3900000
namespace K
open PySem PySem.Spec PyProof.Rows L2
/-! ### calls of own defs by keywords -/
structure CalN (P : Program) (w : World) (K : PySem.W.Frag) (mg : Str → Option Value) (base : Heap) (k : Nat) (x : Str) (sp : Sp) (n : Nat) (ks : List Str) (gV : List V → List V → List V) : Prop where
  ex : ∃ (f : Addr) (fd : FuncData) (ps : List Str) (g : List Value → List Value → List Value), FnOk P w K mg base CX0 k f fd ps sp ∧ mg x = some (.ref f) ∧ PySem.W.keepIn K (.ref f) = true ∧ KBn K fd ps n ks g gV
section
variable {X : Cx} {k j n : Nat} {x : Str} {sp : Sp} {p pos : Pos} {e : Expr} {es : List Expr} {kws : List Keyword} {t tk : TA} {ks : List Str} {gV : List V → List V → List V}
theorem pe_cN (c : CalN X.prog X.w X.K X.mg X.base k x sp n ks gV) (hr : Room j X.A) (hk : k ≤ j) (hg : Gl X x) (ha : PA X (e :: es) t) (hkw : PK X kws tk)
    (hall : (backToKw pos (keywordEach kws X.env)).all (·.1.isSome) = true := by rfl) (hks : (backToKw pos (keywordEach kws X.env)).filterMap (·.1) = ks := by rfl)
    (nodb : (x == ("__debug__" : Str)) = false := by decide) (est : starEach (e :: es) X.env = (false, eval e X.env) :: starEach es X.env := by rfl)
    (plain : ((backTo pos (starEach (e :: es) X.env)).any (·.1) || (backToKw pos (keywordEach kws X.env)).any (·.1.isNone)) = false := by rfl) :
    PE X (.Call (.Name x p) (e :: es) kws pos) (tCallN n ks.length sp gV E0 t tk) := by
  obtain ⟨f, fd, ps, g, F, hm, kp, b⟩ := c.ex
  exact pe_callN F (hr.mono hk) hg hm kp b pass0 ha hkw hall hks nodb est plain
theorem pe_cN0 (c : CalN X.prog X.w X.K X.mg X.base k x sp 0 ks gV) (hr : Room j X.A) (hk : k ≤ j) (hg : Gl X x) (hkw : PK X kws tk)
    (hall : (backToKw pos (keywordEach kws X.env)).all (·.1.isSome) = true := by rfl) (hks : (backToKw pos (keywordEach kws X.env)).filterMap (·.1) = ks := by rfl)
    (nodb : (x == ("__debug__" : Str)) = false := by decide)
    (plain : ((backTo pos (starEach [] X.env)).any (·.1) || (backToKw pos (keywordEach kws X.env)).any (·.1.isNone)) = false := by rfl) :
    PE X (.Call (.Name x p) [] kws pos) (tCallN 0 ks.length sp gV E0 tNil tk) := by
  obtain ⟨f, fd, ps, g, F, hm, kp, b⟩ := c.ex
  refine ⟨fun pins s σ H Q I h => ?_⟩
  refine wpAny_Call_Name_kw (ld_glob (x := x) I hg hm ?_ nodb)
  refine PySem.W.callWith_KW0 (h₀ := X.base) I.ok.mod.kin kp hall ?_ plain
  refine thn (hkw.run pos pins s σ H _ I h) fun ws s2 ⟨zs, H2, J, rz, m1, m2, qq⟩ => ⟨J.kIn, ?_⟩
  rw [hks]
  exact run_fnN F (hr.mono hk) b pass0 J .nil rz m1 m2 qq
end
theorem kbn_of {K : PySem.W.Frag} {x qual : Str} {st : Stmt} {f : Addr} {fd : FuncData} {ps : List Str} (F : Fun K x qual st f fd) (n : Nat) (ks : List Str) (g : {α : Type} → List α → List α → List α)
    (hrel : ∀ {vs : List V} {us : List Value} {zs : List V} {ws : List Value}, Vals vs us → Vals zs ws → Vals (g vs zs) (g us ws))
    (h : ∀ (kV doc pm : Value) (an : Option Addr) (cdv ct : Value) (us ws : List Value), us.length = n → ws.length = ks.length → bindArgs (PySem.W.fnOf x qual (defArgs st) (defBody st) (defScope st) .none kV doc pm an cdv ct) ⟨us, ks.zip ws⟩ = pure (ps.zip (g us ws))) :
    KBn K fd ps n ks (fun us ws => g us ws) (fun us ws => g us ws) := by
  obtain ⟨_, _, kV, doc, pm, an, cdv, ct, _, rfl, _, _⟩ := F.ex
  exact ⟨fun s us ws _ l1 l2 => .of_eq (h kV doc pm an cdv ct us ws l1 l2), fun a b => hrel a b⟩
end K

set_option maxRecDepth 100000
set_option maxHeartbeats 3900000
namespace K
open PySem PySem.Spec PyProof.Rows L2
/-! ### calls of own defs that run where no repr is under way -/
structure CalG (P : Program) (w : World) (K : PySem.W.Frag) (mg : Str → Option Value) (base : Heap) (k : Nat) (x : Str) (sp : Sp) : Prop where
  ex : ∃ (f : Addr) (fd : FuncData) (ps : List Str), FnG P w K mg base CX0 k f fd ps sp ∧ mg x = some (.ref f) ∧ PySem.W.keepIn K (.ref f) = true ∧ Binds K fd ps []
section
variable {X : Cx} {k j : Nat} {x : Str} {sp : Sp} {p pos : Pos} {e : Expr} {es : List Expr} {t : TA} {f : Addr} {fd : FuncData} {ps : List Str}
theorem run_fnG {pins : List (Addr × Obj)} {σ : L2.St} {H : Hp} {s : Shared} {Q : VK} {us : List Value} {vs : List V} (F : FnG X.prog X.w X.K X.mg X.base CX0 k f fd ps sp) (hq : X.A.guards = some []) (hr : Room k X.A) (hb : Binds X.K fd ps [])
    (I : Inv X pins σ H s) (r : Vals vs us) (h : sp vs H Q E0) : wpAny (model X.prog X.w) X.A (call (.ref f) us) (EP X pins σ Q) X.xe s := by
  have h' : sp (vs ++ []) H Q E0 := by rwa [List.append_nil]
  have hl : (us ++ []).length = ps.length := by rw [← (r.append (.nil : Vals [] [])).length]; exact F.len _ _ _ _ h'
  refine wpAny_call (codeAny_mono (F.run X.A X.stack s H ⟨us, []⟩ (us ++ []) (vs ++ []) Q E0 hq hr I.env0 (hb s us I.kIn hl) (r.append .nil) h') fun r s' hq => ?_)
  cases r with
  | error e => exact (pass0 (X := X)) pins σ H s e s' I hq
  | ok fl =>
    cases fl with
    | ret u => exact I.after hq
    | next => exact False.elim hq
    | brk => exact False.elim hq
    | cont => exact False.elim hq
theorem pe_cG (c : CalG X.prog X.w X.K X.mg X.base k x sp) (hq : X.A.guards = some []) (hr : Room j X.A) (hk : k ≤ j) (hg : Gl X x) (ha : PA X (e :: es) t)
    (hdb : (x == ("__debug__" : Str)) = false := by decide) (he : starEach (e :: es) X.env = (false, eval e X.env) :: starEach es X.env := by rfl) (hpl : (backTo pos (starEach es X.env)).any (·.1) = false := by rfl)
        :
    PE X (.Call (.Name x p) (e :: es) [] pos) (tCall sp [] E0 t) := by
  obtain ⟨f, fd, ps, F, hm, kp, b⟩ := c.ex
  refine ⟨fun pins s σ H Q I h => ?_⟩
  refine wpAny_Call_Name_kw (ld_glob I hg hm ?_
      hdb)
  refine PySem.W.callWith_K (h₀ := X.base) I.ok.mod.kin kp (thn (ha.run pos pins s σ H _ I h) fun us s1 ⟨vs, H1, I1, r, q⟩ => ⟨I1.kIn, ?_⟩) he hpl
  exact run_fnG F hq (hr.mono hk) b I1 r (by simpa using q)
end
end K

set_option maxRecDepth 100000
set_option maxHeartbeats 3900000
/-! Walks of own: zip of a list and a tuple, either way about; enumerate of a tuple. A side is a tuple where its mark is true, else a list. -/
namespace Zm
open PySem PySem.Spec PyProof.Rows L2
def Sq (K : PySem.W.Frag) (m : Bool) (H : Hp) (a : Addr) (xs : List V) : Prop := match m with
  | true => SqT K H a xs
  | false => SqL K H a xs
def Seq (m : Bool) (h : Heap) (l : Addr) (its : Array Value) : Prop := match m with
  | true => h.IsTuple l its
  | false => h.IsList l its
def Itr (m : Bool) (h : Heap) (it l : Addr) (i : Nat) : Prop := match m with
  | true => h.IsTupleIter it l i
  | false => h.IsListIter it l i
def its0 (m : Bool) (l : Addr) : Obj := match m with
  | true => { cls := .type "tuple_iterator", data := .fields #[.ref l, .int 0 0] }
  | false => { cls := .type "list_iterator", data := .fields #[.ref l, .int 0 0] }
theorem begins (m : Bool) (l : Addr) (its : Array Value) : Begins (.ref l) (its0 m l) (fun h => Seq m h l its) := by
  cases m
  · exact begins_list l its
  · exact begins_tuple l its
theorem draws {P : Program} {w : World} {A : Around} (m : Bool) (hh : A.handled = none) (it l : Addr) (ne : l ≠ it) (xs : Array Value) :
    Draws P w A it [it, l] xs.size (fun i v => xs[i]? = some v) (fun i h => Itr m h it l i ∧ Seq m h l xs) := by
  cases m
  · exact Draws.list hh it l ne xs
  · exact Draws.tuple hh it l ne xs
theorem itr0 {m : Bool} {h : Heap} {it l : Addr} (e : h.get? it = some (its0 m l)) : Itr m h it l 0 := by
  cases m
  · exact ⟨_, e, rfl, rfl⟩
  · exact ⟨_, e, rfl, rfl⟩
theorem Itr.lives {m : Bool} {h : Heap} {it l : Addr} {i : Nat} (x : Itr m h it l i) : ∃ o, h.get? it = some o ∧ ∀ v, o.data ≠ .cell v := by
  cases m
  · obtain ⟨o, e, _, d⟩ := x
    exact ⟨o, e, fun v q => by rw [d] at q; cases q⟩
  · obtain ⟨o, e, _, d⟩ := x
    exact ⟨o, e, fun v q => by rw [d] at q; cases q⟩
theorem Itr.kept {m : Bool} {h h' : Heap} {it l : Addr} {i : Nat} (x : Itr m h it l i) (k : ∀ o, h.get? it = some o → h'.get? it = some o) : Itr m h' it l i := by
  cases m
  · obtain ⟨o, e, c⟩ := x
    exact ⟨o, k o e, c⟩
  · obtain ⟨o, e, c⟩ := x
    exact ⟨o, k o e, c⟩
theorem side {X : Cx} {pins : List (Addr × Obj)} {σ : L2.St} {H : Hp} {s : Shared} {m : Bool} {a : Addr} {xs : List V} (I : Inv X pins σ H s) (h : Sq X.K m H a xs) : ∃ us : List Value, Vals xs us ∧ Seq m s.heap a us.toArray ∧ a < s.heap.objs.size := by
  cases m
  · obtain ⟨us, r, p, _⟩ := I.list h
    exact ⟨us, r, p.isList, p.lt⟩
  · obtain ⟨us, r, p, _⟩ := I.tuple h
    obtain ⟨o, e, q⟩ := id p
    exact ⟨us, r, p, Heap.lt_size e⟩
theorem one {X : Cx} {pins : List (Addr × Obj)} {σ : L2.St} {H : Hp} {s : Shared} {m : Bool} {a : Addr} {xs ys : List V} (I : Inv X pins σ H s) (h : Sq X.K m H a xs) (k : Sq X.K m H a ys) : xs = ys := by
  cases m
  · exact I.list_inj h k
  · exact I.tuple_inj h k
/-- the two as they stand at each turn, their items in new pairs -/
def ItM (K : PySem.W.Frag) (m k : Bool) (a b : Addr) : It :=
  ⟨fun i H => ∃ xs ys x y, Sq K m H a xs ∧ Sq K k H b ys ∧ xs[i]? = some x ∧ ys[i]? = some y,
   fun i H v H' => ∃ T x y, v = .ref T ∧ H T = none ∧ H' = upd H T (.tup [x, y]) ∧ (∀ xs, Sq K m H a xs → xs[i]? = some x) ∧ (∀ ys, Sq K k H b ys → ys[i]? = some y),
   fun i H => ∃ xs ys, Sq K m H a xs ∧ Sq K k H b ys ∧ i ≤ xs.length ∧ i ≤ ys.length ∧ (xs.length ≤ i ∨ ys.length ≤ i)⟩
def five (n : Nat) : List Nat := [n + 4, n + 2, n + 3, n, n + 1]
theorem five_out {n c : Nat} (h : c ∉ five n) : c ≠ n + 4 ∧ c ≠ n + 2 ∧ c ≠ n + 3 ∧ c ≠ n ∧ c ≠ n + 1 := by
  simp only [five, List.mem_cons, List.not_mem_nil, or_false, not_or] at h
  exact ⟨h.1, h.2.1, h.2.2.1, h.2.2.2.1, h.2.2.2.2⟩
theorem five_in {n c : Nat} (h : c ∈ five n) : n ≤ c ∧ c < n + 5 := by
  simp only [five, List.mem_cons, List.not_mem_nil, or_false] at h
  omega
theorem apart {n a b : Nat} (ha : a < n) (hb : b < n) : ZipSep2 (n + 4) (n + 2) (n + 3) n (n + 1) [n, a] [n + 1, b] := by
  have out : ∀ {x y z : Nat}, x ≠ y → x ≠ z → x ∉ [y, z] := fun h k => by
    simp only [List.mem_cons, List.not_mem_nil, or_false, not_or]
    exact ⟨h, k⟩
  have ne : ∀ {x y : Nat}, x ≠ y → @Ne Addr x y := fun h => h
  exact ⟨ne (by omega), ne (by omega), ne (by omega), ne (by omega), List.mem_cons_self, out (by omega) (by omega), out (by omega) (by omega), ne (by omega), List.mem_cons_self, out (by omega) (by omega), out (by omega) (by omega), out (by omega) (by omega), out (by omega) (by omega)⟩
theorem turn {P : Program} {w : World} {K : PySem.W.Frag} {es : List Expr} {kk : Nat} {tp : Pos} {m k : Bool} {a b : Addr} {n : Nat} (ha : (a : Nat) < n) (hb : (b : Nat) < n) :
    Turn P w K (.Tuple es kk tp) (ItM K m k a b) (five n) (n + 4 : Nat) (fun i h => IsZip h (n + 4 : Nat) (n + 2 : Nat) (n + 3 : Nat) .none ∧ IsTupOf2 h (n + 2 : Nat) (.ref (n : Nat)) (.ref (n + 1 : Nat)) ∧ (∃ x y, IsTupOf2 h (n + 3 : Nat) x y) ∧ Itr m h (n : Nat) a i ∧ Itr k h (n + 1 : Nat) b i) where
  mem := List.mem_cons_self
  obj := fun i h ⟨z, ti, ⟨x, y, to⟩, u1, u2⟩ c hc => by
    simp only [five, List.mem_cons, List.not_mem_nil, or_false] at hc
    rcases hc with q | q | q | q | q
    · exact q ▸ ⟨_, z, fun v r => nomatch r⟩
    · exact q ▸ ⟨_, ti, fun v r => nomatch r⟩
    · exact q ▸ ⟨_, to, fun v r => nomatch r⟩
    · exact q ▸ u1.lives
    · exact q ▸ u2.lives
  keep := fun i h h' ⟨z, ti, ⟨x, y, to⟩, u1, u2⟩ kp =>
    have mem : ∀ c : Nat, c = n + 4 ∨ c = n + 2 ∨ c = n + 3 ∨ c = n ∨ c = n + 1 → c ∈ five n := fun c q => by
      simp only [five, List.mem_cons, List.not_mem_nil, or_false]
      exact q
    ⟨kp _ (mem _ (by omega)) _ z, kp _ (mem _ (by omega)) _ ti, ⟨x, y, kp _ (mem _ (by omega)) _ to⟩, u1.kept fun o e => kp _ (mem _ (by omega)) o e, u2.kept fun o e => kp _ (mem _ (by omega)) o e⟩
  item := by
    intro X eP ew eK hc i pins s σ H E I hf ⟨hz, hTI, ⟨x0, y0, hTO⟩, h1, h2⟩ ⟨xs, ys, x, y, hx, hy, gx, gy⟩
    subst eP ew eK
    obtain ⟨us, r1, p1, l1⟩ := side I hx
    obtain ⟨vs, r2, p2, l2⟩ := side I hy
    obtain ⟨u, gu, ru⟩ := r1.get gx
    obtain ⟨v, gv, rv⟩ := r2.get gy
    have z5 : (n + 4 : Nat) < s.heap.objs.size := Heap.lt_size hz
    have nn : ∀ {x y : Nat}, x ≠ y → @Ne Addr x y := fun h => h
    have na : @Ne Addr a (n : Nat) := Nat.ne_of_lt ha
    have nb : @Ne Addr b (n + 1 : Nat) := Nat.ne_of_lt (Nat.lt_succ_of_lt hb)
    have D1 := draws (P := X.prog) (w := X.w) (A := X.A.in1) m (I.ok.hd hc) (n : Nat) a na us.toArray
    have D2 := draws (P := X.prog) (w := X.w) (A := X.A.in1) k (I.ok.hd hc) (n + 1 : Nat) b nb vs.toArray
    have i1 : i < us.toArray.size := by
      have := (List.getElem?_eq_some_iff.mp gu).1
      simpa using this
    have i2 : i < vs.toArray.size := by
      have := (List.getElem?_eq_some_iff.mp gv).1
      simpa using this
    refine wpAny_pyNext_zipD2_item (apart ha hb) D1 D2 hz hTI hTO ⟨h1, p1⟩ ⟨h2, p2⟩ i1 i2 fun x1 x2 h' tk q1 q2 z' TO' s1 s2 hT hsz hk => ?_
    have eu : x1 = u := by
      have q1 : us.toArray[i]? = some x1 := q1
      rw [List.getElem?_toArray, gu] at q1
      exact (Option.some.inj q1).symm
    have ev : x2 = v := by
      have q2 : vs.toArray[i]? = some x2 := q2
      rw [List.getElem?_toArray, gv] at q2
      exact (Option.some.inj q2).symm
    subst eu ev
    refine ⟨_, rfl, wpAny_letOwnedTupleGo_zip (s := { s with heap := h', toks := tk }) z' fun h'' z'' sb => ?_⟩
    have sz : (s.heap.objs.size : Nat) ≠ n + 4 := by omega
    have hT2 : h''.get? s.heap.objs.size = some { cls := .type "tuple", data := .seq #[x1, x2] } := (sb.2 _ sz).trans hT
    have new : ObjOk X.prog X.w (upd H s.heap.objs.size (.tup [x, y])) h'' s.heap.objs.size (.tup [x, y])
        :=
      ⟨(by show 2 ≤ sizeLine; decide), [x1, x2], .cons ru (.cons rv .nil), _, hT2, rfl, _, rfl⟩
    have I1 : Inv X pins σ (upd H s.heap.objs.size (.tup [x, y])) { s with heap := h'', toks := tk } :=
      I.turnedNew (t' := tk) (ch := five n) (fun c o hc' q => by
        obtain ⟨c1, c2, c3, c4, c5⟩ := five_out hc'
        exact (sb.2 c c1).trans (hk c o c1 c3 c4 c5 q)) hf (Nat.le_refl _) new
    refine ⟨.ref s.heap.objs.size, _, I1, rfl, ⟨_, x, y, rfl, I.hok.fresh (Nat.le_refl _), rfl, fun l hl => by rw [one I hl hx]; exact gx, fun l hl => by rw [one I hl hy]; exact gy⟩, ⟨z'', ?_, ⟨x1, x2, ?_⟩, ?_, ?_⟩, fun c hcm => ?_⟩
    · exact (sb.2 _ (nn (by omega))).trans (hk _ _ (nn (by omega)) (nn (by omega)) (nn (by omega)) (nn (by omega)) hTI)
    · exact (sb.2 _ (nn (by omega))).trans TO'
    · exact s1.1.kept fun o q => (sb.2 _ (nn (by omega))).trans q
    · exact s2.1.kept fun o q => (sb.2 _ (nn (by omega))).trans q
    · have := (five_in hcm).2
      rw [upd_ne (Nat.ne_of_lt (Nat.lt_of_lt_of_le this z5))]
      exact (hf c hcm).1
  done := by
    intro X eP ew eK hc i pins s σ H E I hf ⟨hz, hTI, ⟨x0, y0, hTO⟩, h1, h2⟩ ⟨xs, ys, hx, hy, le1, le2, hend⟩
    subst eP ew eK
    obtain ⟨us, r1, p1, l1⟩ := side I hx
    obtain ⟨vs, r2, p2, l2⟩ := side I hy
    have nn : ∀ {x y : Nat}, x ≠ y → @Ne Addr x y := fun h => h
    have na : @Ne Addr a (n : Nat) := Nat.ne_of_lt ha
    have nb : @Ne Addr b (n + 1 : Nat) := Nat.ne_of_lt (Nat.lt_succ_of_lt hb)
    have D1 := draws (P := X.prog) (w := X.w) (A := X.A.in1) m (I.ok.hd hc) (n : Nat) a na us.toArray
    have D2 := draws (P := X.prog) (w := X.w) (A := X.A.in1) k (I.ok.hd hc) (n + 1 : Nat) b nb vs.toArray
    have e1 := r1.length
    have e2 := r2.length
    refine wpAny_pyNext_zipD2_end (i := i) (apart ha hb) D1 D2 hz hTI hTO ⟨h1, p1⟩ ⟨h2, p2⟩ (by rw [List.size_toArray]; omega) (by rw [List.size_toArray]; omega) ?_ fun h' tk hk => ⟨rfl, I.turnedL (t' := tk) (ch := five n) (fun c o hc' q => ?_) hf⟩
    · rw [List.size_toArray, List.size_toArray]
      omega
    · obtain ⟨c1, c2, c3, c4, c5⟩ := five_out hc'
      exact hk c o c1 c3 c4 c5 q
  self := fun A i s Q E st h => wpAny_pyIter_zip st.1
      h
def iZipM (K : PySem.W.Frag) (m k : Bool) (ta : TA) : TI := fun σ H R => ta σ H fun vs H1 => ∃ a b xs ys, vs = [.ref a, .ref b] ∧ Sq K m H1 a xs ∧ Sq K k H1 b ys ∧ R (ItM K m k a b) H1
/-- for .. in zip(e, e2): lists or tuples, by their marks -/
theorem pi_zipM (m k : Bool) {X : Cx} {e e2 : Expr} {ta : TA} {p pos tp : Pos} {es : List Expr} {kk : Nat} (hg : Gl X "zip") (hm : X.mg "zip" = none) (ha : PA X [e, e2] ta)
    (hs : starEach [e, e2] X.env = (false, eval e X.env) :: starEach [e2] X.env := by rfl) (hpl : (backTo pos (starEach [e2] X.env)).any (·.1) = false := by rfl) : PI X (.Tuple es kk tp) (.Call (.Name "zip" p) [e, e2] [] pos) (iZipM X.K m k ta) := by
  refine ⟨fun pins s σ H R I h => Call_ (ld_blt I hg hm PyProof.Rows.boot_zip (PyProof.Rows.callWith_type1 (thn (ha.run pos pins s σ H _ I h) fun us s1 ⟨vs, H1, I1, r1, q1⟩ => ?_) hs hpl))⟩
  obtain ⟨a, b, xs, ys, rfl, hx, hy, q⟩ := q1
  obtain ⟨u1, u2, rfl, ra, rb⟩ := vals2 r1
  cases ra
  cases rb
  obtain ⟨us, _, p1, l1⟩ := side I1 hx
  obtain ⟨vs, _, p2, l2⟩ := side I1 hy
  refine zip_begins2 (begins m a us.toArray) (begins k b vs.toArray) p1 p2 fun h' hz hTI hTO g1 g2 hsz hk => wpAny_pyIter_zip hz ?_
  exact ⟨(s1.heap.objs.size + 4 : Nat), five s1.heap.objs.size, _, _, H1, rfl, I1.kept (t' := s1.toks) hk, turn (n := s1.heap.objs.size) l1 l2, ⟨hz, hTI, ⟨_, _, hTO⟩, itr0 g1, itr0 g2⟩, fun c hc => I1.fpOk (five_in hc).1 (I1.hok.fresh (five_in hc).1), q⟩
theorem walk {K : PySem.W.Frag} {m k : Bool} {a b : Addr} {xs ys : List V} {n : Nat} (hn : n = min xs.length ys.length) : Walk (ItM K m k a b) n (fun H => Sq K m H a xs ∧ Sq K k H b ys) (YPair (fun i => xs[i]?) (fun i => ys[i]?)) := by
  subst hn
  refine ⟨fun i H hi q => ?_, fun H q => ⟨xs, ys, q.1, q.2, by omega, by omega, by omega⟩, fun i H v H' _ q y => ?_⟩
  · exact ⟨xs, ys, _, _, q.1, q.2, List.getElem?_eq_getElem (by omega), List.getElem?_eq_getElem (by omega)⟩
  · obtain ⟨T, x, z, e1, e2, e3, e4, e5⟩ := y
    exact ⟨T, x, z, e1, e2, e3, e4 xs q.1, e5 ys q.2⟩
end Zm
namespace Zm
open PySem PySem.Spec PyProof.Rows L2
/-- enumerate(v), v anything whose iter is known -/
theorem meets_enum {v : Value} {o : Obj} {Hv : Heap → Prop} (B : Begins v o Hv) : Meets (Builtin.«enumerate.__new__» ⟨[.type "enumerate", v], []⟩) (fun _ R s => Hv s.heap ∧
      R (.ok (.ret (.ref (s.heap.push o).objs.size))) { s with heap := (s.heap.push o).push { cls := .type "enumerate", data := .fields #[.none, .bool false, .ref s.heap.objs.size, rawInt 0, .none, .none] } }) := .of_wp fun prog w A R s h => by
    rcases s with ⟨hp, g, d, tk, os⟩
    obtain ⟨h1, h⟩ := h
    have hsub := sub_enumerate
    have begun : ∀ {A' : Around} {E : Value → Shared → Prop} {Q : Value → Shared → Prop}, Q (.ref hp.objs.size) ⟨hp.push o, g, d, tk, os⟩ → wpAny (model prog w) A' (pyIter v) Q E ⟨hp, g, d, tk, os⟩ := fun q => B.iter prog w _ _ ⟨hp, g, d, tk, os⟩ _ h1 q
    wp_walk using begun
    refine wpAny_stack_any fun st => wpAny_pure
        ?_
    split
    · rename_i c _ _ _ _ _
      cases (c == Value.type "enumerate") <;> (wp_walk using begun; exact ⟨_, rfl, h⟩)
    · wp_walk using begun
      exact ⟨_, rfl, h⟩
end Zm

set_option maxRecDepth 100000
set_option maxHeartbeats 3900000
namespace Zm
open PySem PySem.Spec PyProof.Rows L2
/-- the one as it stands at each turn, each item in a new pair behind its number -/
def ItE (K : PySem.W.Frag) (m : Bool) (a : Addr) : It :=
  ⟨fun i H => ∃ xs x, Sq K m H a xs ∧ xs[i]? = some x,
   fun i H v H' => ∃ T x, v = .ref T ∧ H T = none ∧ H' = upd H T (.tup [.int (i : Nat), x]) ∧ (∀ xs, Sq K m H a xs → xs[i]? = some x),
   fun i H => ∃ xs, Sq K m H a xs ∧ xs.length = i⟩
def two (n : Nat) : List Nat := [n + 1, n]
theorem two_out {n c : Nat} (h : c ∉ two n) : c ≠ n + 1 ∧ c ≠ n := by
  simp only [two, List.mem_cons, List.not_mem_nil, or_false, not_or] at h
  exact h
theorem two_in {n c : Nat} (h : c ∈ two n) : n ≤ c ∧ c < n + 2 := by
  simp only [two, List.mem_cons, List.not_mem_nil, or_false] at h
  omega
theorem turnE {P : Program} {w : World} {K : PySem.W.Frag} {es : List Expr} {kk : Nat} {tp : Pos} {m : Bool} {a : Addr} {n : Nat} (ha : (a : Nat) < n) :
    Turn P w K (.Tuple es kk tp) (ItE K m a) (two n) (n + 1 : Nat) (fun i h => (∃ old, IsEnum h (n + 1 : Nat) (n : Nat) ((i : Nat) : Int) old) ∧ Itr m h (n : Nat) a i) where
  mem := List.mem_cons_self
  obj := fun i h ⟨⟨old, e⟩, u⟩ c hc => by
    simp only [two, List.mem_cons, List.not_mem_nil, or_false] at hc
    rcases hc with q | q
    · exact q ▸ ⟨_, e, fun v r => nomatch r⟩
    · exact q ▸ u.lives
  keep := fun i h h' ⟨⟨old, e⟩, u⟩ kp => ⟨⟨old, kp _ List.mem_cons_self _ e⟩, u.kept fun o q => kp _ (List.mem_cons_of_mem _ List.mem_cons_self) o q⟩
  item := by
    intro X eP ew eK hc i pins s σ H E I hf ⟨⟨old, he⟩, h1⟩ ⟨xs, x, hx, gx⟩
    subst eP ew eK
    obtain ⟨us, r1, p1, l1⟩ := side I hx
    obtain ⟨u, gu, ru⟩ := r1.get gx
    have z5 : (n + 1 : Nat) < s.heap.objs.size := Heap.lt_size he
    have nn : ∀ {x y : Nat}, x ≠ y → @Ne Addr x y := fun h => h
    have na : @Ne Addr a (n : Nat) := Nat.ne_of_lt ha
    have nb : @Ne Addr (n + 1 : Nat) a := Nat.ne_of_gt (Nat.lt_succ_of_lt ha)
    have D := draws (P := X.prog) (w := X.w) (A := X.A.in1) m (I.ok.hd hc) (n : Nat) a na us.toArray
    have i1 : i < us.toArray.size := by
      have := (List.getElem?_eq_some_iff.mp gu).1
      simpa using this
    refine wpAny_pyNext_enum_itemD D he ⟨h1, p1⟩ i1 (nn (Nat.succ_ne_self n)) (fun q => ?_) fun y h' tk q1 out s1 hT hsz hk => ?_
    · obtain q | q := List.mem_cons.mp q
      · exact Nat.succ_ne_self n q
      · exact nb (List.mem_singleton.mp q)
    have eu : y = u := by
      have q1 : us.toArray[i]? = some y := q1
      rw [List.getElem?_toArray, gu] at q1
      exact (Option.some.inj q1).symm
    subst eu
    refine ⟨_, rfl, wpAny_letOwnedTupleGo_enum (s := { s with heap := h', toks := tk + 1 }) out fun h'' e'' sb => ?_⟩
    have sz : (s.heap.objs.size : Nat) ≠ n + 1 := by omega
    have hT2 : h''.get? s.heap.objs.size = some { cls := .type "tuple", data := .seq #[.int i tk, y] } := (sb.2 _ sz).trans hT
    have new : ObjOk X.prog X.w (upd H s.heap.objs.size (.tup [.int (i : Nat), x])) h'' s.heap.objs.size (.tup [.int (i : Nat), x])
        :=
      ⟨(by show 2 ≤ sizeLine; decide), [.int i tk, y], .cons ⟨_, rfl⟩ (.cons ru .nil), _, hT2, rfl, _, rfl⟩
    have I1 : Inv X pins σ (upd H s.heap.objs.size (.tup [.int (i : Nat), x])) { s with heap := h'', toks := tk + 1 } :=
      I.turnedNew (t' := tk + 1) (ch := two n) (fun c o hc' q => by
        obtain ⟨c1, c2⟩ := two_out hc'
        exact (sb.2 c c1).trans (hk c o c1 c2 q)) hf (Nat.le_refl _) new
    refine ⟨.ref s.heap.objs.size, _, I1, rfl, ⟨_, x, rfl, I.hok.fresh (Nat.le_refl _), rfl, fun l hl => by rw [one I hl hx]; exact gx⟩, ⟨⟨y, ?_⟩, ?_⟩, fun c hcm => ?_⟩
    · have e1 : ((i + 1 : Nat) : Int) = (i : Int) + 1 := by
          omega
      rw [e1]
      exact e''
    · exact s1.1.kept fun o q => (sb.2 _ (nn (Nat.ne_of_lt (Nat.lt_succ_self n)))).trans q
    · have := (two_in hcm).2
      rw [upd_ne (Nat.ne_of_lt (Nat.lt_of_lt_of_le this z5))]
      exact (hf c hcm).1
  done := by
    intro X eP ew eK hc i pins s σ H E I hf ⟨⟨old, he⟩, h1⟩ ⟨xs, hx, hend⟩
    subst eP ew eK
    obtain ⟨us, r1, p1, l1⟩ := side I hx
    have na : @Ne Addr a (n : Nat) := Nat.ne_of_lt ha
    have D := draws (P := X.prog) (w := X.w) (A := X.A.in1) m (I.ok.hd hc) (n : Nat) a na us.toArray
    have e1 : us.toArray.size = i := by
      rw [List.size_toArray, ← r1.length]
      exact hend
    rw [e1] at D
    exact wpAny_pyNext_enum_endD D he ⟨h1, p1⟩ fun h' eb => ⟨rfl, I.turnedL (t' := s.toks) (ch := two n) (fun c o hc' q => eb c o (two_out hc').2 q) hf⟩
  self := fun A i s Q E st h => let ⟨⟨_, he⟩, _⟩ := st; wpAny_pyIter_enum he
      h
def iEnumM (K : PySem.W.Frag) (m : Bool) (ta : TA) : TI := fun σ H R => ta σ H fun vs H1 => ∃ a xs, vs = [.ref a] ∧ Sq K m H1 a xs ∧ R (ItE K m a) H1
/-- for .. in enumerate(e): a list or a tuple, by its mark -/
theorem pi_enumM (m : Bool) {X : Cx} {e : Expr} {ta : TA} {p pos tp : Pos} {es : List Expr} {kk : Nat} (hg : Gl X "enumerate") (hm : X.mg "enumerate" = none) (ha : PA X [e] ta) (hs : starEach [e] X.env = [(false, eval e X.env)] := by rfl) :
    PI X (.Tuple es kk tp) (.Call (.Name "enumerate" p) [e] [] pos) (iEnumM X.K m ta) := by
  refine ⟨fun pins s σ H R I h => Call_ (ld_blt I hg hm boot_enumerate (PyProof.Rows.callWith_type1 (thn (ha.run pos pins s σ H _ I h) fun us s1 ⟨vs, H1, I1, r1, q1⟩ => ?_) hs rfl))⟩
  obtain ⟨a, xs, rfl, hx, q⟩ := q1
  obtain ⟨u1, rfl, ra⟩ := vals1 r1
  cases ra
  obtain ⟨us, _, p1, l1⟩ := side I1 hx
  have B := begins m a us.toArray
  refine callType_new F.called_enumerate (by decide) (F.typeCall_enumerate_1 _) (F.newCall_enumerate_1 _) (fun obj => F.args_object_init_2 obj _) F.entry_enumerate_new (meets_enum B) ⟨p1, ?_⟩
  have hz : (s1.heap.push (its0 m a)).objs.size = s1.heap.objs.size + 1 := Heap.size_push ..
  obtain ⟨en, een⟩ : ∃ en : Obj, en = { cls := .type "enumerate", data := .fields #[.none, .bool false, .ref s1.heap.objs.size, rawInt 0, .none, .none] } := ⟨_, rfl⟩
  have ge : ((s1.heap.push (its0 m a)).push en).get? (s1.heap.objs.size + 1) = some en := by
    have := Heap.get?_push_size (s1.heap.push (its0 m a)) (o := en) (by rw [een]; rfl)
    rwa [hz] at this
  have gi : ((s1.heap.push (its0 m a)).push en).get? s1.heap.objs.size = some (its0 m a) := Heap.get?_push_of_some _ (Heap.get?_push_size _ B.free)
  have he : IsEnum ((s1.heap.push (its0 m a)).push en) (s1.heap.objs.size + 1) s1.heap.objs.size 0 .none := by
    rw [een] at ge ⊢
    exact ge
  show _ ∧ _
  rw [hz, ← een]
  refine ⟨⟨_, ge, by rw [een]⟩, wpAny_pyIter_enum he ?_⟩
  exact ⟨(s1.heap.objs.size + 1 : Nat), two s1.heap.objs.size, _, _, H1, rfl, I1.kept (t' := s1.toks) (fun b o x => Heap.get?_push_of_some _ (Heap.get?_push_of_some _ x)), turnE (n := s1.heap.objs.size) l1, ⟨⟨_, he⟩, itr0 gi⟩, fun c hc => I1.fpOk (two_in hc).1 (I1.hok.fresh (two_in hc).1), q⟩
theorem walkE {K : PySem.W.Frag} {m : Bool} {a : Addr} {xs : List V} : Walk (ItE K m a) xs.length (fun H => Sq K m H a xs) (YPair (fun i => some (.int (i : Nat))) (fun i => xs[i]?)) := by
  refine ⟨fun i H hi q => ⟨xs, _, q, List.getElem?_eq_getElem hi⟩, fun H q => ⟨xs, q, rfl⟩, fun i H v H' _ q y => ?_⟩
  obtain ⟨T, x, e1, e2, e3, e4⟩ := y
  exact ⟨T, .int (i : Nat), x, e1, e2, e3, rfl, e4 xs q⟩
end Zm

set_option maxRecDepth 100000
set_option maxHeartbeats 3900000
/-! Methods of own: xs.extend(a tuple), d.update(a dict). -/
namespace Zm
open PySem PySem.Spec PyProof.Rows L2
theorem meets_extT (l : Addr) (xs : Array Value) (n : Nat) (b : Addr) (ys : Array Value) (few : ¬ (!xs.isEmpty && Builtin.List.listTooLong (xs.size + ys.size)) = true) (h1 : xs.size ≤ sizeLine) (h2 : xs.size + ys.size ≤ sizeLine + 1) :
    Meets (Builtin.«list.extend» ⟨[.ref l, .ref b], []⟩) (fun _ R s => s.heap.get? l = some { cls := .type "list", dict := none, data := .seq xs n, slots := #[] } ∧ s.heap.IsTuple b ys ∧
      R (.ok (.ret Value.none)) { s with heap := s.heap.update l (Obj.mapSeq fun x => x ++ ys), toks := s.toks }) := .of_wp fun prog w A R s h => by
    rcases s with ⟨hp, g, d, tk, os⟩
    obtain ⟨hl, ⟨⟨c, dct, dt, sl⟩, hb, hc, n2, hd⟩, h⟩ := h
    replace hc : c = .type "tuple" := hc
    replace hd : dt = .seq ys n2 := hd
    subst hc hd
    have a1 := AutoSeq1.idx_int
    have a2 := AutoSeq1.sub_tuple_tuple
    have a3 := AutoSeq1.sub_list_list
    have a4 := AutoSeq1.sub_tuple_list
    have a5 := AutoSeq1.sub_list_tuple
    have fits : (xs ++ ys).size ≤ sizeLine + 1 := by
      rw [Array.size_append]
      exact h2
    wp_walk using (wpAny_updateSeq hl rfl (hz := h1) (_hz' := fits)), AutoSeq1.wpAny_loadPart' hl, AutoSeq1.wpAny_loadPart' hb
    exact ⟨_, rfl, h⟩
/-- xs.extend(t) -/
def rExtT (K : PySem.W.Frag) : V → List V → Hp → VK → Prop := fun x vs H Q => ∃ l b xs zs, x = .ref l ∧ vs = [.ref b] ∧ H l = some (.lst xs) ∧ SqT K H b zs ∧ xs.length + zs.length ≤ sizeLine ∧ Q .non (upd H l (.lst (xs ++ zs)))
theorem mt_extendT {X : Cx} : MtM X "list.extend" (rExtT X.K) := by
  intro pins s σ H x vs v us Q I rx
  intro rv h
  rcases h with ⟨l, b, xs, zs, rfl, rfl, hH, hB, hz, q⟩
  cases rx
  obtain ⟨u, rfl, ru⟩ := rv.one
  cases ru
  rcases I.lstM hH with ⟨z, its, n, r, hl, e⟩
  obtain ⟨its2, r2, p2, _⟩ := I.tuple hB
  have e2 := r2.length
  have few : its.toArray.size + its2.toArray.size ≤ sizeLine := by
    rw [List.size_toArray]
    rw [List.size_toArray]
    omega
  refine call_meets F.slot_list_extend ⟨_, e, rfl⟩ F.entry_list_extend (F.args_list_extend_2 _ _) (meets_extT l its.toArray n b its2.toArray ?_ (by omega) (by omega)) ⟨e, p2, .non, _, I.lset (its' := its ++ its2) hH e (by simp) (r.append r2) ?_, rfl, q⟩
  · rw [notLongL few, Bool.and_false]
    exact Bool.false_ne_true
  · rw [List.length_append]
    omega
theorem mergeK_len : ∀ (ls ks : List (Key × V)), (mergeK ks ls).length ≤ ks.length + ls.length
  | [], ks => Nat.le_refl _
  | p :: r, ks => by
    have h1 := mergeK_len r (putK ks p.1 p.2)
    have h2 := length_putK ks p.1 p.2
    show (mergeK (putK ks p.1 p.2) r).length ≤ _
    rw [List.length_cons]
    omega
/-- d.update(e) -/
def rUpd : V → List V → Hp → VK → Prop := fun x vs H Q => ∃ d e ks ls, x = .ref d ∧ vs = [.ref e] ∧ H d = some (.dK ks) ∧ H e = some (.dK ls) ∧ d ≠ e ∧ ks.length + ls.length ≤ sizeLine ∧ Q .non (upd H d (.dK (mergeK ks ls)))
theorem mt_update {X : Cx} : MtR X "dict.update" rUpd := by
  intro pins s σ H x vs v us Q I rx
  intro rv h
  obtain ⟨d, e, ks, ls, rfl, rfl, h1, h2, ne, hz, q⟩ := h
  cases rx
  obtain ⟨u, rfl, ru⟩ := rv.one
  cases ru
  obtain ⟨_, lo, ps, rel, dd⟩ := dk_of I.hok h1
  obtain ⟨_, lo2, qs, rel2, dd2⟩ := dk_of I.hok h2
  have e1 := rel.length
  have e2 := rel2.length
  refine call_meetsIn PySem.F.slot_dict_update dd.typeIs PySem.F.entry_dict_update (PySem.F.args_dict_update_2 _ _) (meets_dict_update (mixKind X.prog X.w) d e ne lo2) ⟨ps, qs, dd, dd2, by omega, fun h' dd' _ hs => ?_⟩
  have there : ∃ z, h'.get? d = some z := let ⟨z, _, _, hz, _⟩ := dd'; ⟨z, hz⟩
  refine ⟨.non, _, d_write (t' := s.toks) I (by rw [h1]; exact True.intro) hs there (dk_new ?_ lo (rel2.merge rel) dd'), rfl, q⟩
  exact Nat.le_trans (mergeK_len ls ks) (by omega)
end Zm

set_option maxRecDepth 100000
set_option maxHeartbeats 3900000
namespace K
open PySem PySem.Spec PyProof.Rows L2
/-! ### the tape -/
/-- at t the tape of the draws: [own, cell, count], at most n counted -/
def Tp (H : Hp) (t : Addr) (n : Nat) : Prop := ∃ a b c : Int, H t = some (.lst [.int a, .int b, .int c]) ∧ 0 ≤ c ∧ c ≤ (n : Int)
/-- all but t as it was -/
def But (t : Addr) (H H' : Hp) : Prop := ∀ x o, H x = some o → x ≠ t → H' x = some o
theorem But.refl {t : Addr} {H : Hp} : But t H H := fun _ _ h _ => h
theorem But.trans {t : Addr} {H H1 H2 : Hp} (a : But t H H1) (b : But t H1 H2) : But t H H2 := fun x o h n => b x o (a x o h n) n
theorem But.new {t p : Addr} {H : Hp} {o : HO} (h : H p = none) : But t H (upd H p o) := fun x u e _ => by
  rw [upd_ne (ne_of_none e h)]
  exact e
theorem But.set {t : Addr} {H : Hp} {o : HO} : But t H (upd H t o) := fun x u e n => by
  rw [upd_ne n]
  exact e
theorem But.seq {K : PySem.W.Frag} {t a : Addr} {H H' : Hp} {xs : List V} (b : But t H H') (h : SqL K H a xs) (n : a ≠ t) : SqL K H' a xs := by
  rcases h with (⟨h⟩ | ⟨o, h⟩) | ⟨h⟩
  · exact .inl (.inl (b _ _ h n))
  · exact .inl (.inr ⟨o, b _ _ h n⟩)
  · exact .inr h
theorem same_new {H : Hp} {p : Addr} {o : HO} (h : H p = none) : Same H (upd H p o) := fun b x e => by
  rw [upd_ne (ne_of_none e h)]
  exact e
def primes : List Int := [2147483489, 2147483477, 2147483423, 2147483399, 2147483353, 2147483323, 2147483269, 2147483249]
theorem prime_at {i : Int} (h0 : 0 ≤ i) (h1 : i < 8) : ∃ q : Int, atI (primes.map V.int) i = some (.int q) ∧ 0 < q ∧ q < 2147483648 := by
  have : i = 0 ∨ i = 1 ∨ i = 2 ∨ i = 3 ∨ i = 4 ∨ i = 5 ∨ i = 6 ∨ i = 7 := by omega
  rcases this with rfl | rfl | rfl | rfl | rfl | rfl | rfl | rfl
  · exact ⟨2147483489, atI_nat (j := 0) rfl, by decide, by decide⟩
  · exact ⟨2147483477, atI_nat (j := 1) rfl, by decide, by decide⟩
  · exact ⟨2147483423, atI_nat (j := 2) rfl, by decide, by decide⟩
  · exact ⟨2147483399, atI_nat (j := 3) rfl, by decide, by decide⟩
  · exact ⟨2147483353, atI_nat (j := 4) rfl, by decide, by decide⟩
  · exact ⟨2147483323, atI_nat (j := 5) rfl, by decide, by decide⟩
  · exact ⟨2147483269, atI_nat (j := 6) rfl, by decide, by decide⟩
  · exact ⟨2147483249, atI_nat (j := 7) rfl, by decide, by decide⟩

theorem Tp.same {H H' : Hp} {t : Addr} {n : Nat} (h : Tp H t n) (s : Same H H') : Tp H' t n := let ⟨a, b, c, e, x, y⟩ := h; ⟨a, b, c, s _ _ e, x, y⟩
theorem Tp.mono {H : Hp} {t : Addr} {n m : Nat} (h : Tp H t n) (l : n ≤ m) : Tp H t m := let ⟨a, b, c, e, x, y⟩ := h; ⟨a, b, c, e, x, by omega⟩
end K

set_option maxRecDepth 100000
set_option maxHeartbeats 3900000
namespace Lf
open PySem PySem.Spec PyProof.Rows L2 K
/-! # data without addresses -/
/-- a key of a dict, as a thing -/
def kD : Key → PyData
  | .inl i => .int i
  | .inr x => .str x
mutual
/-- v stands for the thing d in the heap H -/
inductive Rp (K : PySem.W.Frag) (H : Hp) : V → PyData → Prop
  | non : Rp K H .non .none
  | bl (b : Bool) : Rp K H (.bl b) (.bool b)
  | int (i : Int) : Rp K H (.int i) (.int i)
  | str (x : Str) : Rp K H (.str x) (.str x)
  | lst {a : Addr} {xs : List V} {ds : List PyData} : H a = some (.lst xs) → RpAll K H xs ds → Rp K H (.ref a) (.list ds)
  | tup {a : Addr} {xs : List V} {ds : List PyData} : SqT K H a xs → RpAll K H xs ds → Rp K H (.ref a) (.tuple ds)
  | dic {a : Addr} {kvs : List (Key × V)} {ds : List (PyData × PyData)} : H a = some (.dK kvs) → RpK K H kvs ds → Rp K H (.ref a) (.dict ds)
  | dit {a : Addr} {kvs : List (List Key × V)} {ds : List (PyData × PyData)} : H a = some (.dT kvs) → kvs ≠ [] → RpT K H kvs ds → Rp K H (.ref a) (.dict ds)
inductive RpAll (K : PySem.W.Frag) (H : Hp) : List V → List PyData → Prop
  | nil : RpAll K H [] []
  | cons {v : V} {vs : List V} {d : PyData} {ds : List PyData} : Rp K H v d → RpAll K H vs ds → RpAll K H (v :: vs) (d :: ds)
inductive RpK (K : PySem.W.Frag) (H : Hp) : List (Key × V) → List (PyData × PyData) → Prop
  | nil : RpK K H [] []
  | cons {k : Key} {v : V} {vs : List (Key × V)} {d : PyData} {ds : List (PyData × PyData)} : Rp K H v d → RpK K H vs ds → RpK K H ((k, v) :: vs) ((kD k, d) :: ds)
inductive RpT (K : PySem.W.Frag) (H : Hp) : List (List Key × V) → List (PyData × PyData) → Prop
  | nil : RpT K H [] []
  | cons {k : List Key} {v : V} {vs : List (List Key × V)} {d : PyData} {ds : List (PyData × PyData)} : Rp K H v d → RpT K H vs ds → RpT K H ((k, v) :: vs) ((.tuple (k.map kD), d) :: ds)
end
theorem sqL_same {K : PySem.W.Frag} {H H' : Hp} {a : Addr} {xs : List V} (s : Same H H') (h : SqL K H a xs) : SqL K H' a xs := by
  rcases h with (⟨h⟩ | ⟨o, h⟩) | ⟨h⟩
  · exact .inl (.inl (s _ _ h))
  · exact .inl (.inr ⟨o, s _ _ h⟩)
  · exact .inr h
theorem sqT_same {K : PySem.W.Frag} {H H' : Hp} {a : Addr} {xs : List V} (s : Same H H') (h : SqT K H a xs) : SqT K H' a xs := by
  rcases h with (⟨h⟩ | ⟨o, h⟩) | ⟨h⟩
  · exact .inl (.inl (s _ _ h))
  · exact .inl (.inr ⟨o, s _ _ h⟩)
  · exact .inr h
mutual
theorem Rp.same {K : PySem.W.Frag} {H H' : Hp} (s : Same H H') : ∀ {v : V} {d : PyData}, Rp K H v d → Rp K H' v d
  | _, _, .non => .non
  | _, _, .bl b => .bl b
  | _, _, .int i => .int i
  | _, _, .str x => .str x
  | _, _, .lst h r => .lst (s _ _ h) (RpAll.same s r)
  | _, _, .tup h r => .tup (sqT_same s h) (RpAll.same s r)
  | _, _, .dic h r => .dic (s _ _ h) (RpK.same s r)
  | _, _, .dit h n r => .dit (s _ _ h) n (RpT.same s r)
theorem RpAll.same {K : PySem.W.Frag} {H H' : Hp} (s : Same H H') : ∀ {vs : List V} {ds : List PyData}, RpAll K H vs ds → RpAll K H' vs ds
  | _, _, .nil => .nil
  | _, _, .cons h r => .cons (Rp.same s h) (RpAll.same s r)
theorem RpK.same {K : PySem.W.Frag} {H H' : Hp} (s : Same H H') : ∀ {vs : List (Key × V)} {ds : List (PyData × PyData)}, RpK K H vs ds → RpK K H' vs ds
  | _, _, .nil => .nil
  | _, _, .cons h r => .cons (Rp.same s h) (RpK.same s r)
theorem RpT.same {K : PySem.W.Frag} {H H' : Hp} (s : Same H H') : ∀ {vs : List (List Key × V)} {ds : List (PyData × PyData)}, RpT K H vs ds → RpT K H' vs ds
  | _, _, .nil => .nil
  | _, _, .cons h r => .cons (Rp.same s h) (RpT.same s r)
end
section
variable {K : PySem.W.Frag} {H : Hp}
theorem RpAll.len : ∀ {vs : List V} {ds : List PyData}, RpAll K H vs ds → vs.length = ds.length
  | _, _, .nil => rfl
  | _, _, .cons _ r => congrArg (· + 1) r.len
theorem RpAll.at : ∀ {vs : List V} {ds : List PyData} {i : Nat} {v : V}, RpAll K H vs ds → vs[i]? = some v → ∃ d, ds[i]? = some d ∧ Rp K H v d
  | _, _, 0, _, .cons h _, e => ⟨_, rfl, by cases e; exact h⟩
  | _, _, i + 1, _, .cons _ r, e => RpAll.at (i := i) r e
theorem RpAll.get : ∀ {vs : List V} {ds : List PyData} {i : Nat} {d : PyData}, RpAll K H vs ds → ds[i]? = some d → ∃ v, vs[i]? = some v ∧ Rp K H v d
  | _, _, 0, _, .cons h _, e => ⟨_, rfl, by cases e; exact h⟩
  | _, _, i + 1, _, .cons _ r, e => RpAll.get (i := i) r e
theorem RpAll.append : ∀ {vs ws : List V} {ds es : List PyData}, RpAll K H vs ds → RpAll K H ws es → RpAll K H (vs ++ ws) (ds ++ es)
  | _, _, _, _, .nil, r => r
  | _, _, _, _, .cons h t, r => .cons h (RpAll.append t r)
theorem RpAll.take : ∀ {vs : List V} {ds : List PyData} (n : Nat), RpAll K H vs ds → RpAll K H (vs.take n) (ds.take n)
  | _, _, 0, _ => .nil
  | _, _, _ + 1, .nil => .nil
  | _, _, n + 1, .cons h t => .cons h (RpAll.take n t)
theorem RpAll.drop : ∀ {vs : List V} {ds : List PyData} (n : Nat), RpAll K H vs ds → RpAll K H (vs.drop n) (ds.drop n)
  | _, _, 0, r => r
  | _, _, _ + 1, .nil => .nil
  | _, _, n + 1, .cons _ t => RpAll.drop n t
theorem RpAll.set {v : V} {d : PyData} (h : Rp K H v d) : ∀ {vs : List V} {ds : List PyData} (n : Nat), RpAll K H vs ds → RpAll K H (vs.set n v) (ds.set n d)
  | _, _, _, .nil => .nil
  | _, _, 0, .cons _ t => .cons h t
  | _, _, n + 1, .cons k t => .cons k (RpAll.set h n t)
theorem RpAll.reverse : ∀ {vs : List V} {ds : List PyData}, RpAll K H vs ds → RpAll K H vs.reverse ds.reverse
  | _, _, .nil => .nil
  | _, _, .cons h t => by
    rw [List.reverse_cons]
    rw [List.reverse_cons]
    exact (RpAll.reverse t).append (.cons h .nil)
theorem RpAll.eraseIdx : ∀ {vs : List V} {ds : List PyData} (n : Nat), RpAll K H vs ds → RpAll K H (vs.eraseIdx n) (ds.eraseIdx n)
  | _, _, _, .nil => .nil
  | _, _, 0, .cons _ t => t
  | _, _, n + 1, .cons h t => .cons h (RpAll.eraseIdx n t)
theorem RpAll.one {vs : List V} {d : PyData} (h : RpAll K H vs [d]) : ∃ v, vs = [v] ∧ Rp K H v d := by
  cases h with
  | cons h t => cases t; exact ⟨_, rfl, h⟩
theorem RpAll.two {vs : List V} {d e : PyData} (h : RpAll K H vs [d, e]) : ∃ v u, vs = [v, u] ∧ Rp K H v d ∧ Rp K H u e := by
  cases h with
  | cons h t => obtain ⟨u, rfl, k⟩ := t.one; exact ⟨_, _, rfl, h, k⟩
theorem Rp.intI {v : V} {i : Int} (h : Rp K H v (.int i)) : v = .int i := by cases h; rfl
theorem Rp.strI {v : V} {i : Str} (h : Rp K H v (.str i)) : v = .str i := by cases h; rfl
theorem Rp.blI {v : V} {i : Bool} (h : Rp K H v (.bool i)) : v = .bl i := by cases h; rfl
theorem Rp.nonI {v : V} (h : Rp K H v .none) : v = .non := by cases h; rfl
theorem Rp.lstI {v : V} {ds : List PyData} (h : Rp K H v (.list ds)) : ∃ a xs, v = .ref a ∧ H a = some (.lst xs) ∧ RpAll K H xs ds := by
  cases h with
  | lst h r => exact ⟨_, _, rfl, h, r⟩
theorem Rp.tupI {v : V} {ds : List PyData} (h : Rp K H v (.tuple ds)) : ∃ a xs, v = .ref a ∧ SqT K H a xs ∧ RpAll K H xs ds := by
  cases h with
  | tup h r => exact ⟨_, _, rfl, h, r⟩
theorem Rp.dicI {v : V} {ds : List (PyData × PyData)} (h : Rp K H v (.dict ds)) : ∃ a, v = .ref a ∧ ((∃ kvs, H a = some (.dK kvs) ∧ RpK K H kvs ds) ∨ ∃ kvs, H a = some (.dT kvs) ∧ kvs ≠ [] ∧ RpT K H kvs ds) := by
  cases h with
  | dic h r => exact ⟨_, rfl, .inl ⟨_, h, r⟩⟩
  | dit h n r => exact ⟨_, rfl, .inr ⟨_, h, n, r⟩⟩
theorem rp_ints : ∀ ns : List Int, RpAll K H (ns.map V.int) (ns.map PyData.int)
  | [] => .nil
  | n :: r => .cons (.int n) (rp_ints r)
theorem rp_strs : ∀ ns : List Str, RpAll K H (ns.map V.str) (ns.map PyData.str)
  | [] => .nil
  | n :: r => .cons (.str n) (rp_strs r)
theorem strs_rp : ∀ {ns : List Str} {vs : List V}, RpAll K H vs (ns.map PyData.str) → vs = ns.map V.str
  | [], _, .nil => rfl
  | n :: r, _, .cons h t => by
    rw [h.strI, strs_rp t]
    rfl
theorem ints_rp : ∀ {ns : List Int} {vs : List V}, RpAll K H vs (ns.map PyData.int) → vs = ns.map V.int
  | [], _, .nil => rfl
  | n :: r, _, .cons h t => by
    rw [h.intI, ints_rp t]
    rfl
mutual
/-- a thing without dicts, as the library reads it -/
theorem Rp.dp : ∀ {v : V} {d : PyData}, Rp K H v d → d.hasDict = false → Dp K H v d
  | _, _, .non, _ => .non
  | _, _, .bl b, _ => .bl b
  | _, _, .int i, _ => .int i
  | _, _, .str x, _ => .str x
  | _, _, .lst h r, e => .lst (SqL.of h) (RpAll.dp r e)
  | _, _, .tup h r, e => .tup h (RpAll.dp r e)
  | _, _, .dic _ _, e => nomatch e
  | _, _, .dit _ _ _, e => nomatch e
theorem RpAll.dp : ∀ {vs : List V} {ds : List PyData}, RpAll K H vs ds → PyData.hasDictAll ds = false → DpAll K H vs ds
  | _, _, .nil, _ => .nil
  | _, _, .cons h r, e => by
    have e : (PyData.hasDict _ || PyData.hasDictAll _) = false := e
    rw [Bool.or_eq_false_iff] at e
    exact .cons (Rp.dp h e.1) (RpAll.dp r e.2)
end
end
/-! ## what the names hold -/
/-- what a name holds: a thing that nobody changes, a list or dict of its own, the tape -/
inductive Ho where
  | dat (d : PyData)
  | own (d : PyData)
  | oth (k : Option (List Int))
/-- the law's tape; the law's script -/
abbrev Ho.tp : Ho := .oth none
abbrev Ho.scr (ns : List Int) : Ho := .oth (some ns)
structure Om where
  vs : List (Option Ho)
  n : Nat
/-- what is fixed through a body: where the tape is; the heap at the entry; what of it is known to stay -/
structure Fc where
  T : Option Addr
  H0 : Hp
  G0 : Hp
/-- the tables of code objects that the program's own lambdas write: where they are, and the lambda's name -/
class Tabled (K : PySem.W.Frag) where
  TB : List (Addr × Str)
def tabA (K : PySem.W.Frag) [Tabled K] (a : Addr) : Prop := a ∈ (Tabled.TB K).map (·.1)
def TabsOf (K : PySem.W.Frag) [Tabled K] (H : Hp) : Prop := LamX.Tabs (Tabled.TB K) H
/-- all but the tables stays -/
def ExtT (K : PySem.W.Frag) [Tabled K] (H H' : Hp) : Prop := ∀ a x, H a = some x → ¬ tabA K a → H' a = some x
def ButT (K : PySem.W.Frag) [Tabled K] (t : Addr) (H H' : Hp) : Prop := ∀ a x, H a = some x → a ≠ t → ¬ tabA K a → H' a = some x
theorem TabsOf.tbl {K : PySem.W.Frag} [Tabled K] {H : Hp} (t : TabsOf K H) {a : Addr} (h : tabA K a) : ∃ ps, H a = some (.tbl ps) := by
  rcases List.mem_map.mp h with ⟨p, hp, rfl⟩
  obtain ⟨ps, e, _⟩ := t p hp
  exact ⟨ps, e⟩
theorem TabsOf.same {K : PySem.W.Frag} [Tabled K] {H H' : Hp} (t : TabsOf K H) (s : Same H H') : TabsOf K H' := LamX.Tabs.ext t s
theorem TabsOf.but {K : PySem.W.Frag} [Tabled K] {H H' : Hp} (t : TabsOf K H) {a : Addr} (s : ∀ x o, H x = some o → x ≠ a → H' x = some o) (n : (∃ xs, H a = some (.lst xs)) ∨ (∃ xs, H a = some (.dK xs)) ∨ H a = none) : TabsOf K H' := by
  intro p hp
  obtain ⟨ps, e, h1, h2⟩ := t p hp
  have ne : ∀ {b : Addr} {o : HO}, H b = some o → (∀ xs, o ≠ .lst xs) → (∀ xs, o ≠ .dK xs) → b ≠ a := fun {b o} e n1 n2 z => by
    rw [z] at e
    rcases n with ⟨xs, h⟩ | ⟨xs, h⟩ | h
    · rw [h] at e; exact n1 xs (Option.some.inj e).symm
    · rw [h] at e; exact n2 xs (Option.some.inj e).symm
    · rw [h] at e; cases e
  refine ⟨ps, s _ _ e (ne e (fun _ z => nomatch z) fun _ z => nomatch z), h1, fun pos cv h3 => ?_⟩
  obtain ⟨c, e1, e2⟩ := h2 pos cv h3
  exact ⟨c, e1, s _ _ e2 (ne e2 (fun _ z => by unfold LamX.CodeO at z; cases z) fun _ z => by unfold LamX.CodeO at z; cases z)⟩
theorem TabsOf.lst {K : PySem.W.Frag} [Tabled K] {H : Hp} (t : TabsOf K H) {a : Addr} {x : HO} (e : H a = some x) (n : ∀ ps, x ≠ .tbl ps) : ¬ tabA K a := fun h => by
  obtain ⟨ps, e2⟩ := t.tbl h
  rw [e] at e2
  exact n ps (Option.some.inj e2)
theorem TabsOf.tape {K : PySem.W.Frag} [Tabled K] {H : Hp} (t : TabsOf K H) {a : Addr} {n : Nat} (h : Tp H a n) : ¬ tabA K a := by
  obtain ⟨p, q, r, e, _⟩ := h
  exact t.lst e fun ps z => nomatch z
theorem TabsOf.none {K : PySem.W.Frag} [Tabled K] {H : Hp} (t : TabsOf K H) {a : Addr} (h : H a = none) : ¬ tabA K a := fun z => by
  obtain ⟨ps, e2⟩ := t.tbl z
  rw [h] at e2
  cases e2
theorem ext_same {K : PySem.W.Frag} [Tabled K] {H H' : Hp} (s : Same H H') : ExtT K H H' := fun a x e _ => s a x e
def OwnAt (K : PySem.W.Frag) (G H : Hp) (a : Addr) : PyData → Prop
  | .list ds => ∃ xs, H a = some (.lst xs) ∧ RpAll K G xs ds
  | .dict ds => ∃ kvs, H a = some (.dK kvs) ∧ RpK K G kvs ds
  | _ => False
/-- an address of one's own -/
structure Mine (K : PySem.W.Frag) (c : Fc) (G H : Hp) (d : PyData) (a : Addr) : Prop where
  off : G a = none
  new : c.H0 a = none
  at' : OwnAt K G H a d
def RW (K : PySem.W.Frag) (c : Fc) (G H : Hp) : Ho → V → Prop
  | .dat d, v => Rp K G v d
  | .own d, v => ∃ a, v = .ref a ∧ Mine K c G H d a
  | .oth none, v => ∃ t, c.T = some t ∧ v = .ref t
  | .oth (some ns), v => ∃ a, v = .ref a ∧ SqL K G a (ns.map V.int)
/-- a is no name's own -/
def Apart (o : Om) (σ : L2.St) (a : Addr) : Prop := ∀ (j : Nat) (e : PyData), o.vs[j]? = some (some (Ho.own e)) → σ[j]? ≠ some (some (V.ref a))
structure Rs (K : PySem.W.Frag) [Tabled K] (c : Fc) (G : Hp) (o : Om) (σ : L2.St) (H : Hp) : Prop where
  sub : Same G H
  g0 : Same c.G0 G
  gn : ∀ (a : Addr) (x : HO), G a = some x → c.G0 a = some x ∨ c.H0 a = none
  old : ∀ (a : Addr) (x : HO), c.H0 a = some x → c.T ≠ some a → ¬ tabA K a → H a = some x
  tape : ∀ t, c.T = some t → G t = none ∧ c.H0 t ≠ none ∧ Tp H t o.n
  len : σ.length = o.vs.length
  var : ∀ (i : Nat) (w : Ho), o.vs[i]? = some (some w) → ∃ v, σ[i]? = some (some v) ∧ RW K c G H w v
  dis : ∀ (i j : Nat) (d e : PyData) (a : Addr), i ≠ j → o.vs[i]? = some (some (Ho.own d)) → o.vs[j]? = some (some (Ho.own e)) → σ[i]? = some (some (V.ref a)) → σ[j]? ≠ some (some (V.ref a))
  tabs : TabsOf K H
  toff : ∀ a, tabA K a → G a = none
theorem OwnAt.ne {K : PySem.W.Frag} {G H : Hp} {a : Addr} {d : PyData} (h : OwnAt K G H a d) : H a ≠ none := by
  cases d with
  | list ds => obtain ⟨xs, e, _⟩ := h; rw [e]; exact fun z => nomatch z
  | dict ds => obtain ⟨xs, e, _⟩ := h; rw [e]; exact fun z => nomatch z
  | _ => exact h.elim
theorem OwnAt.grow {K : PySem.W.Frag} {G H G' H' : Hp} {a : Addr} {d : PyData} (h : OwnAt K G H a d) (g : Same G G') (k : ∀ x, H a = Option.some x → H' a = Option.some x) : OwnAt K G' H' a d := by
  cases d with
  | list ds => obtain ⟨xs, e, r⟩ := h; exact ⟨xs, k _ e, r.same g⟩
  | dict ds => obtain ⟨xs, e, r⟩ := h; exact ⟨xs, k _ e, r.same g⟩
  | _ => exact h.elim
theorem OwnAt.rp {K : PySem.W.Frag} {G H : Hp} {a : Addr} {d : PyData} (h : OwnAt K G H a d) (s : Same G H) : Rp K H (.ref a) d := by
  cases d with
  | list ds => obtain ⟨xs, e, r⟩ := h; exact .lst e (r.same s)
  | dict ds => obtain ⟨xs, e, r⟩ := h; exact .dic e (r.same s)
  | _ => exact h.elim
theorem same_some {H H' : Hp} (s : Same H H') {a : Addr} (h : H a ≠ none) : H' a ≠ none := by
  cases e : H a with
  | none => exact absurd e h
  | some x => rw [s a x e]; exact fun z => nomatch z
/-- what is known to stay grows by new things only -/
def New (G H G' : Hp) : Prop := ∀ a x, G' a = some x → G a = some x ∨ H a = none
theorem New.none {G H G' : Hp} (n : New G H G') {a : Addr} (g : G a = none) (h : H a ≠ none) : G' a = none := by
  cases e : G' a with
  | none => rfl
  | some x =>
    rcases n a x e with z | z
    · rw [g] at z; cases z
    · exact absurd z h
theorem New.refl {G H : Hp} : New G H G := fun _ _ e => .inl e
section
variable {K : PySem.W.Frag} [Tabled K] {c : Fc} {G G' H H' : Hp} {o : Om} {σ : L2.St}
theorem tp_some {H : Hp} {t : Addr} {n : Nat} (h : Tp H t n) : H t ≠ none := by
  obtain ⟨a, b, d, e, _⟩ := h
  rw [e]
  exact fun z => nomatch z
theorem Rs.h0 (r : Rs K c G o σ H) {a : Addr} (h : H a = none) : c.H0 a = none := by
  cases e : c.H0 a with
  | none => rfl
  | some x =>
    by_cases ht : c.T = some a
    · exact absurd h (tp_some (r.tape a ht).2.2)
    · rw [r.old a x e ht (r.tabs.none h)] at h
      cases h
theorem Rs.ht (r : Rs K c G o σ H) {t : Addr} (h : c.T = some t) : H t ≠ none := tp_some (r.tape t h).2.2
theorem Mine.ne (r : Rs K c G o σ H) {d : PyData} {a t : Addr} (m : Mine K c G H d a) (h : c.T = some t) : t ≠ a := fun e => (r.tape t h).2.1 (by rw [e]; exact m.new)
theorem Mine.grow {d : PyData} {a : Addr} (m : Mine K c G H d a) (g : Same G G') (n : New G H G') (k : ∀ x, H a = Option.some x → H' a = Option.some x) : Mine K c G' H' d a := ⟨n.none m.off m.at'.ne, m.new, m.at'.grow g k⟩
theorem OwnAt.ntab {d : PyData} {a : Addr} (m : OwnAt K G H a d) (t : TabsOf K H) : ¬ tabA K a := by
  cases d with
  | list ds => obtain ⟨xs, e, _⟩ := m; exact t.lst e fun ps z => nomatch z
  | dict ds => obtain ⟨xs, e, _⟩ := m; exact t.lst e fun ps z => nomatch z
  | _ => exact m.elim
/-- the heap has grown -/
theorem Rs.growT (r : Rs K c G o σ H) (g : Same G G') (s : ExtT K H H') (tb : TabsOf K H') (k : Same G' H') (n : New G H G') : Rs K c G' o σ H' where
  sub := k
  g0 := fun a x e => g a x (r.g0 a x e)
  gn := fun a x e => (n a x e).elim (r.gn a x) fun z => .inr (r.h0 z)
  old := fun a x e h h2 => s a x (r.old a x e h h2) h2
  tape := fun t e => by
    obtain ⟨z1, z2, a, b, d, z3, z4, z5⟩ := r.tape t e
    exact ⟨n.none z1 (r.ht e), z2, a, b, d, s _ _ z3 (r.tabs.lst z3 fun ps z => nomatch z), z4, z5⟩
  len := r.len
  var := fun i w e => by
    obtain ⟨v, h1, h2⟩ := r.var i w e
    refine ⟨v, h1, ?_⟩
    cases w with
    | dat d => exact Rp.same g h2
    | oth k =>
      cases k with
      | none => exact h2
      | some ns => obtain ⟨a, rfl, h3⟩ := h2; exact ⟨a, rfl, sqL_same g h3⟩
    | own d => obtain ⟨a, rfl, m⟩ := h2; exact ⟨a, rfl, m.grow g n fun x e => s a x e (m.at'.ntab r.tabs)⟩
  dis := r.dis
  tabs := tb
  toff := fun a h => n.none (r.toff a h) fun z => r.tabs.none z h
theorem Rs.grow (r : Rs K c G o σ H) (g : Same G G') (s : Same H H') (k : Same G' H') (n : New G H G') : Rs K c G' o σ H' := r.growT g (ext_same s) (r.tabs.same s) k n
/-- .. and the tape has been drawn from -/
theorem Rs.drawnT (r : Rs K c G o σ H) {t : Addr} (ht : c.T = some t) (b : ButT K t H H') (tb : TabsOf K H') {m : Nat} (g : Same G G') (k : Same G' H') (n : New G H G') (hT : Tp H' t m) : Rs K c G' { o with n := m } σ H' where
  sub := k
  g0 := fun a x e => g a x (r.g0 a x e)
  gn := fun a x e => (n a x e).elim (r.gn a x) fun z => .inr (r.h0 z)
  old := fun a x e h h2 => b a x (r.old a x e h h2) (fun z => h (by rw [z]; exact ht)) h2
  tape := fun u e => by
    rw [ht] at e
    cases e
    exact ⟨n.none (r.tape t ht).1 (r.ht ht), (r.tape t ht).2.1, hT⟩
  len := r.len
  var := fun i w e => by
    obtain ⟨v, h1, h2⟩ := r.var i w e
    refine ⟨v, h1, ?_⟩
    cases w with
    | dat d => exact Rp.same g h2
    | oth k =>
      cases k with
      | none => exact h2
      | some ns => obtain ⟨a, rfl, h3⟩ := h2; exact ⟨a, rfl, sqL_same g h3⟩
    | own d => obtain ⟨a, rfl, q⟩ := h2; exact ⟨a, rfl, q.grow g n fun x e => b a x e (Ne.symm (q.ne r ht)) (q.at'.ntab r.tabs)⟩
  dis := r.dis
  tabs := tb
  toff := fun a h => n.none (r.toff a h) fun z => r.tabs.none z h
/-- a new object that stays -/
theorem Rs.alloc (r : Rs K c G o σ H) {p : Addr} (h : H p = none) (x : HO) : Rs K c (upd G p x) o σ (upd H p x) ∧ Same G (upd G p x) := by
  have gp : G p = none := by
    cases e : G p with
    | none => rfl
    | some y => rw [r.sub p y e] at h; cases h
  have g := same_new (o := x) gp
  refine ⟨r.grow g (same_new h) (fun a y e => ?_) (fun a y e => ?_), g⟩
  · by_cases hp : a = p
    · subst hp
      rw [upd_same] at e ⊢
      exact e
    · rw [upd_ne hp] at e ⊢
      exact r.sub a y e
  · by_cases hp : a = p
    · subst hp
      exact .inr h
    · rw [upd_ne hp] at e
      exact .inl e
/-- a new object of one's own -/
theorem Rs.mine (r : Rs K c G o σ H) {p : Addr} (h : H p = none) (x : HO) : Rs K c G o σ (upd H p x) ∧ G p = none ∧ c.H0 p = none ∧ Apart o σ p := by
  have gp : G p = none := by
    cases e : G p with
    | none => rfl
    | some y => rw [r.sub p y e] at h; cases h
  refine ⟨r.grow (Same.refl G) (same_new h) (fun a y e => ?_) New.refl, gp, r.h0 h, fun j e h1 h2 => ?_⟩
  · rw [upd_ne (ne_of_none e gp)]
    exact r.sub a y e
  · obtain ⟨v, h3, a, rfl, m⟩ := r.var j _ h1
    rw [h2] at h3
    cases h3
    exact m.at'.ne h
/-- what is one's own and is handed on stays from now on -/
theorem Rs.freeze (r : Rs K c G o σ H) {a : Addr} {d : PyData} (m : Mine K c G H d a) (ap : Apart o σ a) : ∃ G', Rs K c G' o σ H ∧ Same G G' ∧ Rp K G' (.ref a) d := by
  obtain ⟨x, hx⟩ : ∃ x, H a = Option.some x := by
    cases e : H a with
    | none => exact absurd e m.at'.ne
    | some x => exact ⟨x, rfl⟩
  have g := same_new (o := x) m.off
  have at1 : ∀ b y, upd G a x b = some y → (b = a ∧ y = x) ∨ G b = some y := fun b y e => by
    by_cases hb : b = a
    · subst hb
      rw [upd_same] at e
      exact .inl ⟨rfl, (Option.some.inj e).symm⟩
    · rw [upd_ne hb] at e
      exact .inr e
  have off : ∀ b, b ≠ a → G b = none → upd G a x b = none := fun b hb e => by
    rw [upd_ne hb]
    exact e
  refine ⟨upd G a x, ⟨fun b y e => ?_, fun b y e => g b y (r.g0 b y e), fun b y e => ?_, r.old, fun t ht => ?_, r.len, fun i w e => ?_, r.dis, r.tabs, fun b hb => ?_⟩, g, ?_⟩
  · rcases at1 b y e with ⟨rfl, rfl⟩ | e
    · exact hx
    · exact r.sub b y e
  · rcases at1 b y e with ⟨rfl, rfl⟩ | e
    · exact .inr m.new
    · exact r.gn b y e
  · exact ⟨off t (m.ne r ht) (r.tape t ht).1, (r.tape t ht).2⟩
  · obtain ⟨v, h1, h2⟩ := r.var i w e
    refine ⟨v, h1, ?_⟩
    cases w with
    | dat d => exact Rp.same g h2
    | oth k =>
      cases k with
      | none => exact h2
      | some ns => obtain ⟨a, rfl, h3⟩ := h2; exact ⟨a, rfl, sqL_same g h3⟩
    | own d' =>
      obtain ⟨b, rfl, q⟩ := h2
      have hb : b ≠ a := fun z => ap i d' e (by rw [← z]; exact h1)
      exact ⟨b, rfl, off b hb q.off, q.new, q.at'.grow g fun x e => e⟩
  · exact off b (fun z => m.at'.ntab r.tabs (by rw [← z]; exact hb)) (r.toff b hb)
  · have k := m.at'
    cases d with
    | list ds =>
      obtain ⟨xs, e, rr⟩ := k
      rw [hx] at e
      cases e
      exact .lst upd_same (rr.same g)
    | dict ds =>
      obtain ⟨xs, e, rr⟩ := k
      rw [hx] at e
      cases e
      exact .dic upd_same (rr.same g)
    | _ => exact k.elim
/-- a name comes to hold a thing -/
def Om.put (o : Om) (i : Nat) (w : Ho) : Om := { o with vs := o.vs.set i (some w) }
def Om.off (o : Om) (i : Nat) : Om := { o with vs := o.vs.set i none }
theorem set_some {α : Type} {l : List α} {i j : Nat} {x y : α} (h : (l.set i x)[j]? = some y) : (j = i ∧ y = x) ∨ (j ≠ i ∧ l[j]? = some y) := by
  by_cases e : j = i
  · subst e
    rw [List.getElem?_set] at h
    simp at h
    exact .inl ⟨rfl, h.2.symm⟩
  · rw [List.getElem?_set_ne (Ne.symm e)] at h
    exact .inr ⟨e, h⟩
theorem Rs.put (r : Rs K c G o σ H) {i : Nat} {d : PyData} {v : V} (h : Rp K G v d) : Rs K c G (o.put i (.dat d)) (σ.set i (some v)) H where
  sub := r.sub
  g0 := r.g0
  gn := r.gn
  old := r.old
  tape := r.tape
  len := by show (σ.set i (some v)).length = (o.vs.set i _).length; rw [List.length_set, List.length_set]; exact r.len
  var := fun j w e => by
    have lt : j < σ.length := by
      rw [r.len]
      have := (List.getElem?_eq_some_iff.mp e).1
      rwa [show (o.put i (.dat d)).vs = o.vs.set i (some (.dat d)) from rfl, List.length_set] at this
    rcases set_some e with ⟨rfl, e2⟩ | ⟨ne, e2⟩
    · cases e2
      exact ⟨v, by rw [List.getElem?_set_self lt], h⟩
    · rw [List.getElem?_set_ne (Ne.symm ne)]
      exact r.var j w e2
  dis := fun j k d1 e1 a ne h1 h2 h3 => by
    rcases set_some h1 with ⟨_, e2⟩ | ⟨n1, e1⟩
    · cases e2
    rcases set_some h2 with ⟨_, e2⟩ | ⟨n2, e2⟩
    · cases e2
    rw [List.getElem?_set_ne (Ne.symm n1)] at h3
    rw [List.getElem?_set_ne (Ne.symm n2)]
    exact r.dis j k _ _ a ne e1 e2 h3
  tabs := r.tabs
  toff := r.toff
theorem Rs.putOwn (r : Rs K c G o σ H) {i : Nat} {d : PyData} {a : Addr} (m : Mine K c G H d a) (ap : Apart o σ a) : Rs K c G (o.put i (.own d)) (σ.set i (some (.ref a))) H where
  sub := r.sub
  g0 := r.g0
  gn := r.gn
  old := r.old
  tape := r.tape
  len := by show (σ.set i _).length = (o.vs.set i _).length; rw [List.length_set, List.length_set]; exact r.len
  var := fun j w e => by
    have lt : j < σ.length := by
      rw [r.len]
      have := (List.getElem?_eq_some_iff.mp e).1
      rwa [show (o.put i (.own d)).vs = o.vs.set i (some (.own d)) from rfl, List.length_set] at this
    rcases set_some e with ⟨rfl, e2⟩ | ⟨ne, e2⟩
    · cases e2
      exact ⟨_, by rw [List.getElem?_set_self lt], a, rfl, m⟩
    · rw [List.getElem?_set_ne (Ne.symm ne)]
      exact r.var j w e2
  dis := fun j k d1 e1 b ne h1 h2 h3 => by
    have lt : ∀ j, j < σ.length → True := fun _ _ => trivial
    rcases set_some h1 with ⟨rfl, e2⟩ | ⟨n1, e1⟩
    · rcases set_some h2 with ⟨z, _⟩ | ⟨n2, e3⟩
      · exact absurd z.symm ne
      rcases set_some h3 with ⟨_, e4⟩ | ⟨z, _⟩
      · cases e4
        rw [List.getElem?_set_ne (Ne.symm n2)]
        exact ap k _ e3
      · exact absurd rfl z
    · rw [List.getElem?_set_ne (Ne.symm n1)] at h3
      rcases set_some h2 with ⟨rfl, e3⟩ | ⟨n2, e3⟩
      · intro h4
        rcases set_some h4 with ⟨_, e4⟩ | ⟨z, _⟩
        · cases e4
          exact ap j _ e1 h3
        · exact absurd rfl z
      · rw [List.getElem?_set_ne (Ne.symm n2)]
        exact r.dis j k _ _ b ne e1 e3 h3
  tabs := r.tabs
  toff := r.toff
/-- a name's own thing changes -/
theorem Rs.write (r : Rs K c G o σ H) {i : Nat} {d d' : PyData} {a : Addr} {x : HO} (hi : o.vs[i]? = some (some (Ho.own d))) (hs : σ[i]? = some (some (V.ref a))) (h : OwnAt K G (upd H a x) a d') : Rs K c G (o.put i (.own d')) σ (upd H a x) := by
  obtain ⟨v, h1, b, rfl, m⟩ := r.var i _ hi
  rw [hs] at h1
  cases h1
  refine ⟨fun b y e => ?_, r.g0, r.gn, fun b y e n n2 => ?_, fun t ht => ?_, by show _ = (o.vs.set i _).length; rw [List.length_set]; exact r.len, fun j w e => ?_, fun j k d1 e1 b ne h1 h2 h3 => ?_, ?_, r.toff⟩
  · have : b ≠ a := fun z => by rw [z, m.off] at e; cases e
    rw [upd_ne this]
    exact r.sub b y e
  · have : b ≠ a := fun z => by rw [z, m.new] at e; cases e
    rw [upd_ne this]
    exact r.old b y e n n2
  · obtain ⟨t1, t2, p, q, s, e, t3⟩ := r.tape t ht
    exact ⟨t1, t2, p, q, s, by rw [upd_ne (m.ne r ht)]; exact e, t3⟩
  · rcases set_some e with ⟨rfl, e2⟩ | ⟨ne, e2⟩
    · cases e2
      exact ⟨_, hs, a, rfl, m.off, m.new, h⟩
    · obtain ⟨v, h1, h2⟩ := r.var j w e2
      refine ⟨v, h1, ?_⟩
      cases w with
      | dat d => exact h2
      | oth k =>
        cases k with
        | none => exact h2
        | some ns => exact h2
      | own d2 =>
        obtain ⟨b, rfl, q⟩ := h2
        have hb : b ≠ a := fun z => r.dis j i _ _ a ne e2 hi (by rw [← z]; exact h1) hs
        exact ⟨b, rfl, q.off, q.new, q.at'.grow (fun _ _ e => e) fun x e => by rw [upd_ne hb]; exact e⟩
  · have own : ∀ j d, (o.put i (.own d')).vs[j]? = some (some (Ho.own d)) → ∃ d, o.vs[j]? = some (some (Ho.own d)) := fun j d e => by
      rcases set_some e with ⟨rfl, _⟩ | ⟨_, e⟩
      · exact ⟨_, hi⟩
      · exact ⟨_, e⟩
    obtain ⟨_, k1⟩ := own j _ h1
    obtain ⟨_, k2⟩ := own k _ h2
    exact r.dis j k _ _ b ne k1 k2 h3
  · refine r.tabs.but (a := a) (fun x o e n => by rw [upd_ne n]; exact e) ?_
    have q := m.at'
    cases d with
    | list ds => obtain ⟨xs, e, _⟩ := q; exact .inl ⟨xs, e⟩
    | dict ds => obtain ⟨xs, e, _⟩ := q; exact .inr (.inl ⟨xs, e⟩)
    | _ => exact q.elim
/-- a name's own thing is looked at no more as its own -/
theorem Rs.fz (r : Rs K c G o σ H) {i : Nat} {d : PyData} (hi : o.vs[i]? = some (some (Ho.own d))) : ∃ G' v, Rs K c G' (o.put i (.dat d)) σ H ∧ Same G G' ∧ σ[i]? = some (some v) ∧ Rp K G' v d := by
  obtain ⟨v, h1, a, rfl, m⟩ := r.var i _ hi
  have r1 : Rs K c G (o.off i) σ H := by
    refine ⟨r.sub, r.g0, r.gn, r.old, r.tape, by show _ = (o.vs.set i _).length; rw [List.length_set]; exact r.len, fun j w e => ?_, fun j k d1 e1 b ne h1 h2 h3 => ?_, r.tabs, r.toff⟩
    · rcases set_some e with ⟨rfl, e2⟩ | ⟨ne, e2⟩
      · cases e2
      · exact r.var j w e2
    · rcases set_some h1 with ⟨_, e2⟩ | ⟨n1, e1⟩
      · cases e2
      rcases set_some h2 with ⟨_, e2⟩ | ⟨n2, e2⟩
      · cases e2
      exact r.dis j k _ _ b ne e1 e2 h3
  have ap : Apart (o.off i) σ a := fun j e h => by
    rcases set_some h with ⟨_, e2⟩ | ⟨n1, e1⟩
    · cases e2
    · exact fun h4 => r.dis j i _ _ a n1 e1 hi h4 h1
  obtain ⟨G', r2, g, p⟩ := r1.freeze (d := d) ⟨m.off, m.new, m.at'⟩ ap
  have r3 := r2.put (i := i) p
  have e1 : (o.off i).put i (.dat d) = o.put i (.dat d) := by
    unfold Om.off Om.put
    simp
  have e2 : σ.set i (some (.ref a)) = σ := by
    apply List.ext_getElem?
    intro j
    by_cases e : j = i
    · subst e
      rw [List.getElem?_set_self (List.getElem?_eq_some_iff.mp h1).1, h1]
    · rw [List.getElem?_set_ne (Ne.symm e)]
  rw [e1, e2] at r3
  exact ⟨G', _, r3, g, h1, p⟩
end
/-- what a call asks for and leaves -/
structure Rdy (K : PySem.W.Frag) [Tabled K] (G H : Hp) : Prop where
  sub : Same G H
  tabs : TabsOf K H
  toff : ∀ a, tabA K a → G a = none
theorem Rs.rdy {K : PySem.W.Frag} [Tabled K] {c : Fc} {G H : Hp} {o : Om} {σ : L2.St} (r : Rs K c G o σ H) : Rdy K G H := ⟨r.sub, r.tabs, r.toff⟩
theorem Rs.drawn {K : PySem.W.Frag} [Tabled K] {c : Fc} {G G' H H' : Hp} {o : Om} {σ : L2.St} (r : Rs K c G o σ H) {t : Addr} (ht : c.T = some t) (b : But t H H') {m : Nat} (g : Same G G') (k : Same G' H') (n : New G H G') (hT : Tp H' t m) : Rs K c G' { o with n := m } σ H' :=
  r.drawnT ht (fun a x e h _ => b a x e h) (r.tabs.but (a := t) (fun x o e h => b x o e h) (by obtain ⟨p, q, s, e, _⟩ := (r.tape t ht).2.2; exact .inl ⟨_, e⟩)) g k n hT
/-! ## things whose parts are new -/
mutual
/-- a thing that has no list and no dict in it -/
def immD : PyData → Bool
  | .list _ => false
  | .dict _ => false
  | .tuple ds => immAll ds
  | _ => true
def immAll : List PyData → Bool
  | [] => true
  | d :: r => immD d && immAll r
end
def immK (ds : List (PyData × PyData)) : Bool := ds.all fun p => immD p.2
mutual
/-- v stands for d, and what of it can change lies in Z -/
inductive Rz (K : PySem.W.Frag) (Z : Addr → Prop) (G : Hp) : V → PyData → Prop
  | imm {v : V} {d : PyData} : Rp K G v d → immD d = true → Rz K Z G v d
  | lst {a : Addr} {xs : List V} {ds : List PyData} : G a = some (.lst xs) → Z a → RzAll K Z G xs ds → Rz K Z G (.ref a) (.list ds)
  | tup {a : Addr} {xs : List V} {ds : List PyData} : SqT K G a xs → RzAll K Z G xs ds → Rz K Z G (.ref a) (.tuple ds)
  | dic {a : Addr} {kvs : List (Key × V)} {ds : List (PyData × PyData)} : G a = some (.dK kvs) → Z a → RpK K G kvs ds → immK ds = true → Rz K Z G (.ref a) (.dict ds)
  | dit {a : Addr} {kvs : List (List Key × V)} {ds : List (PyData × PyData)} : G a = some (.dT kvs) → Z a → kvs ≠ [] → RpT K G kvs ds → immK ds = true → Rz K Z G (.ref a) (.dict ds)
inductive RzAll (K : PySem.W.Frag) (Z : Addr → Prop) (G : Hp) : List V → List PyData → Prop
  | nil : RzAll K Z G [] []
  | cons {v : V} {vs : List V} {d : PyData} {ds : List PyData} : Rz K Z G v d → RzAll K Z G vs ds → RzAll K Z G (v :: vs) (d :: ds)
end
mutual
theorem Rz.rp {K : PySem.W.Frag} {Z : Addr → Prop} {G : Hp} : ∀ {v : V} {d : PyData}, Rz K Z G v d → Rp K G v d
  | _, _, .imm h _ => h
  | _, _, .lst h _ r => .lst h (RzAll.rp r)
  | _, _, .tup h r => .tup h (RzAll.rp r)
  | _, _, .dic h _ r _ => .dic h r
  | _, _, .dit h _ n r _ => .dit h n r
theorem RzAll.rp {K : PySem.W.Frag} {Z : Addr → Prop} {G : Hp} : ∀ {vs : List V} {ds : List PyData}, RzAll K Z G vs ds → RpAll K G vs ds
  | _, _, .nil => .nil
  | _, _, .cons h r => .cons (Rz.rp h) (RzAll.rp r)
end
mutual
theorem Rz.same {K : PySem.W.Frag} {Z Z' : Addr → Prop} {G G' : Hp} (g : Same G G') (z : ∀ a, Z a → Z' a) : ∀ {v : V} {d : PyData}, Rz K Z G v d → Rz K Z' G' v d
  | _, _, .imm h i => .imm (h.same g) i
  | _, _, .lst h n r => .lst (g _ _ h) (z _ n) (RzAll.same g z r)
  | _, _, .tup h r => .tup (sqT_same g h) (RzAll.same g z r)
  | _, _, .dic h n r i => .dic (g _ _ h) (z _ n) (RpK.same g r) i
  | _, _, .dit h n k r i => .dit (g _ _ h) (z _ n) k (RpT.same g r) i
theorem RzAll.same {K : PySem.W.Frag} {Z Z' : Addr → Prop} {G G' : Hp} (g : Same G G') (z : ∀ a, Z a → Z' a) : ∀ {vs : List V} {ds : List PyData}, RzAll K Z G vs ds → RzAll K Z' G' vs ds
  | _, _, .nil => .nil
  | _, _, .cons h r => .cons (Rz.same g z h) (RzAll.same g z r)
end
/-! ## the judgements -/
section
variable (K : PySem.W.Frag) [Tabled K]
abbrev FT := Om → (PyData → Om → Prop) → Prop
abbrev FTt := Om → (Bool → Om → Prop) → Prop
abbrev FTa := Om → (List PyData → Om → Prop) → Prop
structure Fe where
  nx : Om → Prop
  rt : PyData → Om → Prop := fun _ _ => False
  ro : PyData → Om → Prop := fun _ _ => False
  bk : Om → Prop := fun _ => False
  ct : Om → Prop := fun _ => False
  rf : PyData → Om → Prop := fun _ _ => False
abbrev FTs := Fe → Om → Prop
def up (τ : FT) : TE := fun σ H Q => ∃ c G o P, Rs K c G o σ H ∧ τ o P ∧ ∀ d o' G' v H', P d o' → Same G G' → Rs K c G' o' σ H' → Rp K G' v d → Q v H'
/-- a thing of one's own -/
def upO (τ : FT) : TE := fun σ H Q => ∃ c G o P, Rs K c G o σ H ∧ τ o P ∧ ∀ d o' G' a H', P d o' → Same G G' → Rs K c G' o' σ H' → Mine K c G' H' d a → Apart o' σ a → Q (.ref a) H'
def upT (τ : FTt) : TT := fun σ H Q => ∃ c G o P, Rs K c G o σ H ∧ τ o P ∧ ∀ b o' G' H', P b o' → Same G G' → Rs K c G' o' σ H' → Q b H'
def upA (τ : FTa) : TA := fun σ H Q => ∃ c G o P, Rs K c G o σ H ∧ τ o P ∧ ∀ ds o' G' vs H', P ds o' → Same G G' → Rs K c G' o' σ H' → RpAll K G' vs ds → Q vs H'
structure Cont (c : Fc) (G : Hp) (E : Fe) (D : Ends) : Prop where
  nx : ∀ o' G' σ' H', E.nx o' → Same G G' → Rs K c G' o' σ' H' → D.nx σ' H'
  rt : ∀ d o' G' σ' v H', E.rt d o' → Same G G' → Rs K c G' o' σ' H' → Rp K G' v d → D.rt v H'
  ro : ∀ d o' G' σ' a H', E.ro d o' → Same G G' → Rs K c G' o' σ' H' → Mine K c G' H' d a → Apart o' σ' a → D.rt (.ref a) H'
  bk : ∀ o' G' σ' H', E.bk o' → Same G G' → Rs K c G' o' σ' H' → D.bk σ' H'
  ct : ∀ o' G' σ' H', E.ct o' → Same G G' → Rs K c G' o' σ' H' → D.ct σ' H'
  rf : ∀ d o' G' σ' v H', E.rf d o' → Same G G' → Rs K c G' o' σ' H' → Rz K (fun a => c.H0 a = none) G' v d → D.rt v H'
def upS (τ : FTs) : TS := fun D σ H => ∃ c G o E, Rs K c G o σ H ∧ τ E o ∧ Cont K c G E D
end
theorem PE.imp {X : Cx} {e : Expr} {t t' : TE} (h : PE X e t) (i : ∀ σ H Q, t' σ H Q → t σ H Q) : PE X e t' := ⟨fun pins s σ H Q I q => h.run pins s σ H Q I (i σ H Q q)⟩
theorem PT.imp {X : Cx} {e : Expr} {t t' : TT} (h : PT X e t) (i : ∀ σ H Q, t' σ H Q → t σ H Q) : PT X e t' := ⟨fun pins s σ H Q I q => h.run pins s σ H Q I (i σ H Q q)⟩
theorem PW.imp {X : Cx} {e : Expr} {t t' : TT} (h : PW X e t) (i : ∀ σ H Q, t' σ H Q → t σ H Q) : PW X e t' := ⟨fun whole pins s σ H Q I q => h.run whole pins s σ H Q I (i σ H Q q)⟩
theorem PA.imp {X : Cx} {e : List Expr} {t t' : TA} (h : PA X e t) (i : ∀ σ H Q, t' σ H Q → t σ H Q) : PA X e t' := ⟨fun pos pins s σ H Q I q => h.run pos pins s σ H Q I (i σ H Q q)⟩
theorem PS.imp {X : Cx} {e : Stmt} {t t' : TS} (h : PS X e t) (i : ∀ D σ H, t' D σ H → t D σ H) : PS X e t' := ⟨fun pins s σ H D I q => h.run pins s σ H D I (i D σ H q)⟩
theorem PSs.imp {X : Cx} {e : List Stmt} {t t' : TS} (h : PSs X e t) (i : ∀ D σ H, t' D σ H → t D σ H) : PSs X e t' := ⟨fun pins s σ H D I q => h.run pins s σ H D I (i D σ H q)⟩
theorem Cont.grow {K : PySem.W.Frag} [Tabled K] {c : Fc} {G G1 : Hp} {E : Fe} {D : Ends} (k : Cont K c G E D) (g : Same G G1) : Cont K c G1 E D :=
  ⟨fun o' G' σ' H' h s r => k.nx o' G' σ' H' h (g.trans s) r, fun d o' G' σ' v H' h s r p => k.rt d o' G' σ' v H' h (g.trans s) r p, fun d o' G' σ' a H' h s r p q => k.ro d o' G' σ' a H' h (g.trans s) r p q,
    fun o' G' σ' H' h s r => k.bk o' G' σ' H' h (g.trans s) r, fun o' G' σ' H' h s r => k.ct o' G' σ' H' h (g.trans s) r, fun d o' G' σ' v H' h s r p => k.rf d o' G' σ' v H' h (g.trans s) r p⟩
end Lf

set_option maxRecDepth 100000
set_option maxHeartbeats 3900000
namespace Lf
open PySem PySem.Spec PyProof.Rows L2 K
/-! # expressions -/
section
variable {X : Cx} {K : PySem.W.Frag} [Tabled K]
/-- of one's own, handed on -/
theorem up_own {τ : FT} {σ : L2.St} {H : Hp} {Q : VK} (h : up K τ σ H Q) : upO K τ σ H Q := by
  obtain ⟨c, G, o, P, r, t, k⟩ := h
  refine ⟨c, G, o, P, r, t, fun d o' G' a H' p g r' m ap => ?_⟩
  obtain ⟨G2, r2, g2, p2⟩ := r'.freeze m ap
  exact k d o' G2 _ H' p (g.trans g2) r2 p2
theorem foe {e : Expr} {τ : FT} (h : PE X e (upO K τ)) : PE X e (up K τ) := PE.imp h fun _ _ _ => up_own
/-- a name -/
def fVar (i : Nat) : FT := fun o P => match o.vs[i]? with
  | some (some (.dat d)) => P d o
  | some (some (.own d)) => P d (o.put i (.dat d))
  | _ => False
theorem fv {i : Nat} {e : Expr} (h : PE X e (tVar i)) : PE X e (up K (fVar i)) := PE.imp h fun σ H Q ⟨c, G, o, P, r, t, k⟩ => by
  unfold fVar at t
  split at t
  · rename_i d e
    obtain ⟨v, h1, h2⟩ := r.var i _ e
    exact ⟨v, h1, k d o G v H t (Same.refl G) r h2⟩
  · rename_i d e
    obtain ⟨G', v, r', g, h1, h2⟩ := r.fz e
    exact ⟨v, h1, k d _ G' v H t g r' h2⟩
  · exact t.elim
def fC (d : PyData) : FT := fun o P => P d o
def vD : V → PyData
  | .non => .none
  | .bl b => .bool b
  | .int i => .int i
  | .str x => .str x
  | _ => .none
theorem fc {e : Expr} {v : V} {d : PyData} (h : PE X e (tC v)) (hd : ∀ G, Rp K G v d) : PE X e (up K (fC d)) := PE.imp h fun σ H Q ⟨c, G, o, P, r, t, k⟩ => k d o G v H t (Same.refl G) r (hd G)
theorem fe_int {i j pos} : PE X (.Constant (.int i) j pos) (up K (fC (.int i))) := fc pe_int fun _ => .int i
theorem fe_bl {i j pos} : PE X (.Constant (.bool i) j pos) (up K (fC (.bool i))) := fc pe_bl fun _ => .bl i
theorem fe_non {j pos} : PE X (.Constant .none j pos) (up K (fC .none)) := fc pe_non fun _ => .non
theorem fe_str {i j pos} : PE X (.Constant (.str i) j pos) (up K (fC (.str i))) := fc pe_str fun _ => .str i
/-! ## operations of one and of two things -/
abbrev Fr2 := PyData → PyData → Om → (PyData → Om → Prop) → Prop
abbrev Fr1 := PyData → Om → (PyData → Om → Prop) → Prop
def fOp (ρ : Fr2) (τa τb : FT) : FT := fun o P => τa o fun x o1 => τb o1 fun y o2 => ρ x y o2 P
def fUn (ρ : Fr1) (τa : FT) : FT := fun o P => τa o fun x o1 => ρ x o1 P
/-- what is wanted of a thing that is told -/
def Wants (K : PySem.W.Frag) [Tabled K] (c : Fc) (G : Hp) (σ : L2.St) (P : PyData → Om → Prop) (Q : VK) : Prop := ∀ d o' G' v H', P d o' → Same G G' → Rs K c G' o' σ H' → Rp K G' v d → Q v H'
def WantsO (K : PySem.W.Frag) [Tabled K] (c : Fc) (G : Hp) (σ : L2.St) (P : PyData → Om → Prop) (Q : VK) : Prop := ∀ d o' G' a H', P d o' → Same G G' → Rs K c G' o' σ H' → Mine K c G' H' d a → Apart o' σ a → Q (.ref a) H'
def FR2 (K : PySem.W.Frag) [Tabled K] (r : R2) (ρ : Fr2) : Prop := ∀ c G o σ H x y d e P Q, Rs K c G o σ H → Rp K G x d → Rp K G y e → ρ d e o P → Wants K c G σ P Q → r x y H Q
def FR2O (K : PySem.W.Frag) [Tabled K] (r : R2) (ρ : Fr2) : Prop := ∀ c G o σ H x y d e P Q, Rs K c G o σ H → Rp K G x d → Rp K G y e → ρ d e o P → WantsO K c G σ P Q → r x y H Q
def FR1 (K : PySem.W.Frag) [Tabled K] (r : V → Hp → VK → Prop) (ρ : Fr1) : Prop := ∀ c G o σ H x d P Q, Rs K c G o σ H → Rp K G x d → ρ d o P → Wants K c G σ P Q → r x H Q
theorem fop {r : R2} {ρ : Fr2} (hr : FR2 K r ρ) {ta tb : FT} {σ : L2.St} {H : Hp} {Q : VK} (h : up K (fOp ρ ta tb) σ H Q) : tOp r (up K ta) (up K tb) σ H Q := by
  obtain ⟨c, G, o, P, rs, t, k⟩ := h
  exact ⟨c, G, o, _, rs, t, fun d o1 G1 v H1 p g1 r1 q1 => ⟨c, G1, o1, _, r1, p, fun e o2 G2 u H2 p2 g2 r2 q2 => hr c G2 o2 σ H2 v u d e _ _ r2 (q1.same g2) q2 p2 fun f o3 G3 z H3 p3 g3 => k f o3 G3 z H3 p3 ((g1.trans g2).trans g3)⟩⟩
theorem fopO {r : R2} {ρ : Fr2} (hr : FR2O K r ρ) {ta tb : FT} {σ : L2.St} {H : Hp} {Q : VK} (h : upO K (fOp ρ ta tb) σ H Q) : tOp r (up K ta) (up K tb) σ H Q := by
  obtain ⟨c, G, o, P, rs, t, k⟩ := h
  exact ⟨c, G, o, _, rs, t, fun d o1 G1 v H1 p g1 r1 q1 => ⟨c, G1, o1, _, r1, p, fun e o2 G2 u H2 p2 g2 r2 q2 => hr c G2 o2 σ H2 v u d e _ _ r2 (q1.same g2) q2 p2 fun f o3 G3 z H3 p3 g3 => k f o3 G3 z H3 p3 ((g1.trans g2).trans g3)⟩⟩
theorem fun1 {r : V → Hp → VK → Prop} {ρ : Fr1} (hr : FR1 K r ρ) {ta : FT} {σ : L2.St} {H : Hp} {Q : VK} (h : up K (fUn ρ ta) σ H Q) : tUn r (up K ta) σ H Q := by
  obtain ⟨c, G, o, P, rs, t, k⟩ := h
  exact ⟨c, G, o, _, rs, t, fun d o1 G1 v H1 p g1 r1 q1 => hr c G1 o1 σ H1 v d _ _ r1 q1 p fun f o3 G3 z H3 p3 g3 => k f o3 G3 z H3 p3 (g1.trans g3)⟩
variable {a b e : Expr} {τa τb τ : FT} {pos : Pos}
theorem fe_op {op : Operator} {r : R2} {ρ : Fr2} (ho : OpR X (binaryOp op) r) (hr : FR2 K r ρ) (ha : PE X a (up K τa)) (hb : PE X b (up K τb)) : PE X (.BinOp a op b pos) (up K (fOp ρ τa τb)) := PE.imp (pe_op ho ha hb) fun _ _ _ => fop hr
theorem fo_op {op : Operator} {r : R2} {ρ : Fr2} (ho : OpR X (binaryOp op) r) (hr : FR2O K r ρ) (ha : PE X a (up K τa)) (hb : PE X b (up K τb)) : PE X (.BinOp a op b pos) (upO K (fOp ρ τa τb)) := PE.imp (pe_op ho ha hb) fun _ _ _ => fopO hr
theorem fe_un {op : UnaryOp} {r : V → Hp → VK → Prop} {ρ : Fr1} (ho : UnR X (unaryOp op) r) (hr : FR1 K r ρ) (ha : PE X a (up K τa)) : PE X (.UnaryOp op a pos) (up K (fUn ρ τa)) := PE.imp (pe_un ho ha) fun _ _ _ => fun1 hr
theorem fe_cmp {op : CmpOp} {r : R2} {ρ : Fr2} (ho : OpR X (compareOp op) r) (hr : FR2 K r ρ) (ha : PE X a (up K τa)) (hb : PE X b (up K τb)) (hm : behindInMarks op b = false) : PE X (.Compare a [op] [b] pos) (up K (fOp ρ τa τb)) := PE.imp (pe_cmpR ho ha hb hm) fun _ _ _ => fop hr
/-- two ints in, under C -/
def fI (C : Int → Int → Prop) (g : Int → Int → PyData) : Fr2 := fun x y o P => match x, y with
  | .int i, .int j => C i j ∧ P (g i j) o
  | _, _ => False
def fI0 (g : Int → Int → PyData) : Fr2 := fun x y o P => match x, y with
  | .int i, .int j => P (g i j) o
  | _, _ => False
def fU (g : Int → PyData) : Fr1 := fun x o P => match x with
  | .int i => P (g i) o
  | _ => False
theorem fr_I0 {g : Int → Int → V} {g' : Int → Int → PyData} (hg : ∀ i j G, Rp K G (g i j) (g' i j)) : FR2 K (rI0 g) (fI0 g') := fun c G o σ H x y d e P Q r hx hy h w => by
  unfold fI0 at h
  split at h
  · rename_i i j
    exact ⟨i, j, hx.intI, hy.intI, w _ o G _ H h (Same.refl G) r (hg i j G)⟩
  · exact h.elim
theorem fr_I {C : Int → Int → Prop} {g : Int → Int → V} {g' : Int → Int → PyData} (hg : ∀ i j G, Rp K G (g i j) (g' i j)) : FR2 K (rI C g) (fI C g') := fun c G o σ H x y d e P Q r hx hy h w => by
  unfold fI at h
  split at h
  · rename_i i j
    exact ⟨i, j, hx.intI, hy.intI, h.1, w _ o G _ H h.2 (Same.refl G) r (hg i j G)⟩
  · exact h.elim
theorem fr_U {g : Int → V} {g' : Int → PyData} (hg : ∀ i G, Rp K G (g i) (g' i)) : FR1 K (rU g) (fU g') := fun c G o σ H x d P Q r hx h w => by
  unfold fU at h
  split at h
  · rename_i i
    exact ⟨i, hx.intI, w _ o G _ H h (Same.refl G) r (hg i G)⟩
  · exact h.elim
theorem fe_add (ha : PE X a (up K τa)) (hb : PE X b (up K τb)) : PE X (.BinOp a .Add b pos) (up K (fOp (fI0 fun i j => .int (i + j)) τa τb)) := fe_op op_add (fr_I0 fun _ _ _ => .int _) ha hb
theorem fe_sub (ha : PE X a (up K τa)) (hb : PE X b (up K τb)) : PE X (.BinOp a .Sub b pos) (up K (fOp (fI0 fun i j => .int (i - j)) τa τb)) := fe_op op_sub (fr_I0 fun _ _ _ => .int _) ha hb
theorem fe_mul (ha : PE X a (up K τa)) (hb : PE X b (up K τb)) : PE X (.BinOp a .Mult b pos) (up K (fOp (fI CMul fun i j => .int (i * j)) τa τb)) := fe_op op_mul (fr_I fun _ _ _ => .int _) ha hb
theorem fe_div (ha : PE X a (up K τa)) (hb : PE X b (up K τb)) : PE X (.BinOp a .FloorDiv b pos) (up K (fOp (fI CDivN fun i j => .int (i.fdiv j)) τa τb)) := fe_op op_fdivN (fr_I fun _ _ _ => .int _) ha hb
theorem fe_mod (ha : PE X a (up K τa)) (hb : PE X b (up K τb)) : PE X (.BinOp a .Mod b pos) (up K (fOp (fI (fun _ j => j ≠ 0) fun i j => .int (i.fmod j)) τa τb)) := fe_op op_modN (fr_I fun _ _ _ => .int _) ha hb
theorem fe_pow (ha : PE X a (up K τa)) (hb : PE X b (up K τb)) : PE X (.BinOp a .Pow b pos) (up K (fOp (fI CPow fun i j => .int (i ^ j.toNat)) τa τb)) := fe_op op_pow (fr_I fun _ _ _ => .int _) ha hb
theorem fe_neg (ha : PE X a (up K τa)) : PE X (.UnaryOp .USub a pos) (up K (fUn (fU fun i => .int (-i)) τa)) := fe_un un_neg (fr_U fun _ _ => .int _) ha
theorem fe_lt (ha : PE X a (up K τa)) (hb : PE X b (up K τb)) (hm : behindInMarks .Lt b = false := by exact nomark _) : PE X (.Compare a [.Lt] [b] pos) (up K (fOp (fI0 fun i j => .bool (decide (i < j))) τa τb)) := fe_cmp op_lt (fr_I0 fun _ _ _ => .bl _) ha hb hm
theorem fe_le (ha : PE X a (up K τa)) (hb : PE X b (up K τb)) (hm : behindInMarks .LtE b = false := by exact nomark _) : PE X (.Compare a [.LtE] [b] pos) (up K (fOp (fI0 fun i j => .bool (decide (i ≤ j))) τa τb)) := fe_cmp op_le (fr_I0 fun _ _ _ => .bl _) ha hb hm
theorem fe_gt (ha : PE X a (up K τa)) (hb : PE X b (up K τb)) (hm : behindInMarks .Gt b = false := by exact nomark _) : PE X (.Compare a [.Gt] [b] pos) (up K (fOp (fI0 fun i j => .bool (decide (j < i))) τa τb)) := fe_cmp op_gt (fr_I0 fun _ _ _ => .bl _) ha hb hm
theorem fe_ge (ha : PE X a (up K τa)) (hb : PE X b (up K τb)) (hm : behindInMarks .GtE b = false := by exact nomark _) : PE X (.Compare a [.GtE] [b] pos) (up K (fOp (fI0 fun i j => .bool (decide (j ≤ i))) τa τb)) := fe_cmp op_ge (fr_I0 fun _ _ _ => .bl _) ha hb hm
/-- a thing that is no tuple, list or dict -/
def flatD : PyData → Bool
  | .none => true
  | .bool _ => true
  | .int _ => true
  | .str _ => true
  | _ => false
def vD' : PyData → V
  | .none => .non
  | .bool b => .bl b
  | .int i => .int i
  | .str x => .str x
  | _ => .non
theorem flat_v {G : Hp} {v : V} {d : PyData} (h : Rp K G v d) (f : flatD d = true) : v = vD' d ∧ flatV v = true := by
  cases h <;> first
    | exact ⟨rfl, rfl⟩
    | exact Bool.noConfusion f
/-- == of two plain things -/
def fEq (neg : Bool) : Fr2 := fun x y o P => match x, y with
  | .int i, .int j => P (.bool (if neg then !decide (i = j) else decide (i = j))) o
  | .str i, .str j => P (.bool (if neg then !decide (i = j) else decide (i = j))) o
  | .none, .none => P (.bool (!neg)) o
  | _, _ => False
theorem fr_eq : FR2 K rEq (fEq false) := fun c G o σ H x y d e P Q r hx hy h w => by
  unfold fEq at h
  split at h
  · rename_i i j
    obtain rfl := hx.intI
    obtain rfl := hy.intI
    refine ⟨rfl, w _ o G _ H h (Same.refl G) r ?_⟩
    rw [if_neg Bool.false_ne_true] <;> skip
    rw [show decide (V.int i = V.int j) = decide (i = j) from by simp]
    exact .bl _
  · rename_i i j
    obtain rfl := hx.strI
    obtain rfl := hy.strI
    refine ⟨rfl, w _ o G _ H h (Same.refl G) r ?_⟩
    rw [if_neg Bool.false_ne_true] <;> skip
    rw [show decide (V.str i = V.str j) = decide (i = j) from by simp]
    exact .bl _
  · obtain rfl := hx.nonI
    obtain rfl := hy.nonI
    exact ⟨rfl, w _ o G _ H h (Same.refl G) r (.bl _)⟩
  · exact h.elim
theorem fr_ne : FR2 K rNe (fEq true) := fun c G o σ H x y d e P Q r hx hy h w => by
  unfold fEq at h
  split at h
  · rename_i i j
    obtain rfl := hx.intI
    obtain rfl := hy.intI
    refine ⟨rfl, w _ o G _ H h (Same.refl G) r ?_⟩
    rw [if_pos rfl]
    rw [show decide (V.int i = V.int j) = decide (i = j) from by simp]
    exact .bl _
  · rename_i i j
    obtain rfl := hx.strI
    obtain rfl := hy.strI
    refine ⟨rfl, w _ o G _ H h (Same.refl G) r ?_⟩
    rw [if_pos rfl]
    rw [show decide (V.str i = V.str j) = decide (i = j) from by simp]
    exact .bl _
  · obtain rfl := hx.nonI
    obtain rfl := hy.nonI
    exact ⟨rfl, w _ o G _ H h (Same.refl G) r (.bl _)⟩
  · exact h.elim
theorem fe_eq (ha : PE X a (up K τa)) (hb : PE X b (up K τb)) (hm : behindInMarks .Eq b = false := by exact nomark _) : PE X (.Compare a [.Eq] [b] pos) (up K (fOp (fEq false) τa τb)) := fe_cmp op_eq fr_eq ha hb hm
theorem fe_ne (ha : PE X a (up K τa)) (hb : PE X b (up K τb)) (hm : behindInMarks .NotEq b = false := by exact nomark _) : PE X (.Compare a [.NotEq] [b] pos) (up K (fOp (fEq true) τa τb)) := fe_cmp op_ne fr_ne ha hb hm
/-- == of things without dicts -/
def fEqD (neg : Bool) : Fr2 := fun x y o P => (x.hasDict = false ∧ PySem.SeqAt.shaped x = true) ∧ (y.hasDict = false ∧ PySem.SeqAt.shaped y = true) ∧ P (.bool (if neg then !PyData.eqv x y else PyData.eqv x y)) o
theorem fr_eqD : FR2 K (rEqD K) (fEqD false) := fun c G o σ H x y d e P Q r hx hy ⟨⟨h1, h2⟩, ⟨h3, h4⟩, h⟩ w =>
  ⟨d, e, (hx.same r.sub).dp h1, (hy.same r.sub).dp h3, h2, h4, w _ o G _ H h (Same.refl G) r (.bl _)⟩
theorem fr_neD : FR2 K (rNeD K) (fEqD true) := fun c G o σ H x y d e P Q r hx hy ⟨⟨h1, h2⟩, ⟨h3, h4⟩, h⟩ w =>
  ⟨d, e, (hx.same r.sub).dp h1, (hy.same r.sub).dp h3, h2, h4, w _ o G _ H h (Same.refl G) r (.bl _)⟩
theorem fe_eqD (hu : X.A.units + 64 < cLine) (hK : X.K = K) (ha : PE X a (up K τa)) (hb : PE X b (up K τb)) (hm : behindInMarks .Eq b = false := by exact nomark _) : PE X (.Compare a [.Eq] [b] pos) (up K (fOp (fEqD false) τa τb)) := by
  subst hK
  exact fe_cmp (op_eqD hu) fr_eqD ha hb hm
theorem fe_neD (hu : X.A.units + 64 < cLine) (hK : X.K = K) (ha : PE X a (up K τa)) (hb : PE X b (up K τb)) (hm : behindInMarks .NotEq b = false := by exact nomark _) : PE X (.Compare a [.NotEq] [b] pos) (up K (fOp (fEqD true) τa τb)) := by
  subst hK
  exact fe_cmp (op_neD hu) fr_neD ha hb hm
/-- in, of plain things -/
def eqF : PyData → PyData → Bool
  | .none, .none => true
  | .bool a, .bool b => a == b
  | .bool a, .int b => (if a then 1 else 0) == b
  | .int a, .bool b => a == (if b then 1 else 0)
  | .int a, .int b => a == b
  | .str a, .str b => a == b
  | _, _ => false
def seqD : PyData → Option (List PyData)
  | .list xs => some xs
  | .tuple xs => some xs
  | _ => none
def fIn (neg : Bool) : Fr2 := fun x y o P => match seqD y with
  | some ds => (flatD x = true ∧ ds.all flatD = true) ∧ P (.bool (if neg then !ds.any (fun d => eqF d x) else ds.any fun d => eqF d x)) o
  | none => False
end
end Lf

set_option maxRecDepth 100000
set_option maxHeartbeats 3900000
namespace Lf
open PySem PySem.Spec PyProof.Rows L2 K
section
variable {X : Cx} {K : PySem.W.Frag} [Tabled K] {a b e : Expr} {τa τb τ : FT} {pos : Pos}
theorem eqF_v {G : Hp} {x y : V} {d e : PyData} (hx : Rp K G x d) (hy : Rp K G y e) (fd : flatD d = true) (fe : flatD e = true) : eqV x y = eqF d e := by
  cases hx <;> first
    | exact Bool.noConfusion fd
    | (cases hy <;> first
        | rfl
        | exact Bool.noConfusion fe)
theorem inF_v {G : Hp} {x : V} {d : PyData} (hx : Rp K G x d) (fd : flatD d = true) : ∀ {ys : List V} {es : List PyData}, RpAll K G ys es → es.all flatD = true → inV x ys = (es.any fun z => eqF z d) ∧ ys.all flatV = true
  | _, _, .nil, _ => ⟨rfl, rfl⟩
  | _, _, .cons (v := v) (d := z) h r, f => by
    rw [List.all_cons] at f
    rw [Bool.and_eq_true] at f
    obtain ⟨i1, i2⟩ := inF_v hx fd r f.2
    refine ⟨?_, ?_⟩
    · show (eqV v x || inV x _) = _
      rw [List.any_cons, eqF_v h hx f.1 fd, i1]
    · rw [List.all_cons, (flat_v h f.1).2, i2]
      rfl
theorem seq_v {G : Hp} {y : V} {e : PyData} {ds : List PyData} (h : Rp K G y e) (s : seqD e = some ds) : ∃ p ys, y = .ref p ∧ (SqL K G p ys ∨ SqT K G p ys) ∧ RpAll K G ys ds := by
  cases e with
  | list xs =>
    cases s
    obtain ⟨a, xs, rfl, h1, h2⟩ := h.lstI
    exact ⟨a, xs, rfl, .inl (SqL.of h1), h2⟩
  | tuple xs =>
    cases s
    obtain ⟨a, xs, rfl, h1, h2⟩ := h.tupI
    exact ⟨a, xs, rfl, .inr h1, h2⟩
  | _ => cases s
theorem sq_same {G H : Hp} (s : Same G H) {p : Addr} {ys : List V} (h : SqL K G p ys ∨ SqT K G p ys) : SqL K H p ys ∨ SqT K H p ys := h.imp (sqL_same s) (sqT_same s)
theorem fr_in {neg : Bool} : FR2 K (rIn K neg) (fIn neg) := fun c G o σ H x y d e P Q r hx hy h w => by
  unfold fIn at h
  split at h
  · rename_i ds hs
    obtain ⟨⟨h1, h2⟩, h⟩ := h
    obtain ⟨p, ys, rfl, h3, h4⟩ := seq_v hy hs
    obtain ⟨e1, e2⟩ := inF_v hx h1 h4 h2
    refine ⟨p, ys, rfl, sq_same r.sub h3, (flat_v hx h1).2, e2, w _ o G _ H h (Same.refl G) r ?_⟩
    rw [e1]
    exact .bl _
  · exact h.elim
theorem fe_in (hK : X.K = K) (ha : PE X a (up K τa)) (hb : PE X b (up K τb)) (hm : behindInMarks .In b = false := by rfl) : PE X (.Compare a [.In] [b] pos) (up K (fOp (fIn false) τa τb)) := by
  subst hK
  exact fe_cmp op_in_seq fr_in ha hb hm
theorem fe_notIn (hK : X.K = K) (ha : PE X a (up K τa)) (hb : PE X b (up K τb)) (hm : behindInMarks .NotIn b = false := by rfl) : PE X (.Compare a [.NotIn] [b] pos) (up K (fOp (fIn true) τa τb)) := by
  subst hK
  exact fe_cmp op_notIn_seq fr_in ha hb hm
def isNon : PyData → Bool
  | .none => true
  | _ => false
def fIs (neg : Bool) : Fr2 := fun x y o P => match y with
  | .none => P (.bool (if neg then !isNon x else isNon x)) o
  | _ => False
theorem is_v {G : Hp} {x : V} {d : PyData} (h : Rp K G x d) : decide (x = .non) = isNon d := by
  cases h <;> rfl
theorem fe_is (ha : PE X a (up K τa)) (hb : PE X b (up K τb)) (hm : behindInMarks .Is b = false := by exact nomark _) : PE X (.Compare a [.Is] [b] pos) (up K (fOp (fIs false) τa τb)) := fe_cmp op_isN (fun c G o σ H x y d e P Q r hx hy h w => by
  unfold fIs at h
  split at h
  · refine ⟨hy.nonI, w _ o G _ H h (Same.refl G) r ?_⟩
    rw [is_v hx]
    exact .bl _
  · exact h.elim) ha hb hm
theorem fe_isNot (ha : PE X a (up K τa)) (hb : PE X b (up K τb)) (hm : behindInMarks .IsNot b = false := by exact nomark _) : PE X (.Compare a [.IsNot] [b] pos) (up K (fOp (fIs true) τa τb)) := fe_cmp op_notN (fun c G o σ H x y d e P Q r hx hy h w => by
  unfold fIs at h
  split at h
  · refine ⟨hy.nonI, w _ o G _ H h (Same.refl G) r ?_⟩
    rw [is_v hx]
    exact .bl _
  · exact h.elim) ha hb hm
/-! ## tests -/
def fT (τ : FT) : FTt := fun o P => τ o fun d o' => match d with
  | .bool b => P b o'
  | _ => False
theorem ft_bool {σ : L2.St} {H : Hp} {Q : Bool → Hp → Prop} (h : upT K (fT τ) σ H Q) : up K τ σ H (fun x H1 => ∃ c, x = .bl c ∧ Q c H1) := by
  obtain ⟨c, G, o, P, r, t, k⟩ := h
  refine ⟨c, G, o, _, r, t, fun d o' G' v H' p g r' q => ?_⟩
  cases d with
  | bool b => exact ⟨b, q.blI, k b o' G' H' p g r'⟩
  | _ => exact p.elim
theorem ft_val (h : PE X e (up K τ)) (he : ∀ whole, isTrue e X.env whole = (do let v ← whole; standAt e.pos; holding [v] (truthy v)) := by intro _; rfl) : PT X e (upT K (fT τ)) := PT.imp (pt_val h he) fun _ _ _ => ft_bool
theorem ft_cmp {op : CmpOp} {r : R2} {ρ : Fr2} (ho : OpR X (compareOp op) r) (hr : FR2 K r ρ) (ha : PE X a (up K τa)) (hb : PE X b (up K τb)) (hm : behindInMarks op b = false) : PT X (.Compare a [op] [b] pos) (upT K (fT (fOp ρ τa τb))) :=
  PT.imp (pt_cmpR ho ha hb hm) fun σ H Q h => fop hr (ft_bool h)
theorem ft_lt (ha : PE X a (up K τa)) (hb : PE X b (up K τb)) (hm : behindInMarks .Lt b = false := by exact nomark _) : PT X (.Compare a [.Lt] [b] pos) (upT K (fT (fOp (fI0 fun i j => .bool (decide (i < j))) τa τb))) := ft_cmp op_lt (fr_I0 fun _ _ _ => .bl _) ha hb hm
theorem ft_le (ha : PE X a (up K τa)) (hb : PE X b (up K τb)) (hm : behindInMarks .LtE b = false := by exact nomark _) : PT X (.Compare a [.LtE] [b] pos) (upT K (fT (fOp (fI0 fun i j => .bool (decide (i ≤ j))) τa τb))) := ft_cmp op_le (fr_I0 fun _ _ _ => .bl _) ha hb hm
theorem ft_gt (ha : PE X a (up K τa)) (hb : PE X b (up K τb)) (hm : behindInMarks .Gt b = false := by exact nomark _) : PT X (.Compare a [.Gt] [b] pos) (upT K (fT (fOp (fI0 fun i j => .bool (decide (j < i))) τa τb))) := ft_cmp op_gt (fr_I0 fun _ _ _ => .bl _) ha hb hm
theorem ft_ge (ha : PE X a (up K τa)) (hb : PE X b (up K τb)) (hm : behindInMarks .GtE b = false := by exact nomark _) : PT X (.Compare a [.GtE] [b] pos) (upT K (fT (fOp (fI0 fun i j => .bool (decide (j ≤ i))) τa τb))) := ft_cmp op_ge (fr_I0 fun _ _ _ => .bl _) ha hb hm
theorem ft_eq (ha : PE X a (up K τa)) (hb : PE X b (up K τb)) (hm : behindInMarks .Eq b = false := by exact nomark _) : PT X (.Compare a [.Eq] [b] pos) (upT K (fT (fOp (fEq false) τa τb))) := ft_cmp op_eq fr_eq ha hb hm
theorem ft_ne (ha : PE X a (up K τa)) (hb : PE X b (up K τb)) (hm : behindInMarks .NotEq b = false := by exact nomark _) : PT X (.Compare a [.NotEq] [b] pos) (upT K (fT (fOp (fEq true) τa τb))) := ft_cmp op_ne fr_ne ha hb hm
theorem ft_eqD (hu : X.A.units + 64 < cLine) (hK : X.K = K) (ha : PE X a (up K τa)) (hb : PE X b (up K τb)) (hm : behindInMarks .Eq b = false := by exact nomark _) : PT X (.Compare a [.Eq] [b] pos) (upT K (fT (fOp (fEqD false) τa τb))) := by
  subst hK
  exact ft_cmp (op_eqD hu) fr_eqD ha hb hm
theorem ft_neD (hu : X.A.units + 64 < cLine) (hK : X.K = K) (ha : PE X a (up K τa)) (hb : PE X b (up K τb)) (hm : behindInMarks .NotEq b = false := by exact nomark _) : PT X (.Compare a [.NotEq] [b] pos) (upT K (fT (fOp (fEqD true) τa τb))) := by
  subst hK
  exact ft_cmp (op_neD hu) fr_neD ha hb hm
theorem ft_in (hK : X.K = K) (ha : PE X a (up K τa)) (hb : PE X b (up K τb)) (hm : behindInMarks .In b = false := by rfl) : PT X (.Compare a [.In] [b] pos) (upT K (fT (fOp (fIn false) τa τb))) := by
  subst hK
  exact ft_cmp op_in_seq fr_in ha hb hm
theorem ft_notIn (hK : X.K = K) (ha : PE X a (up K τa)) (hb : PE X b (up K τb)) (hm : behindInMarks .NotIn b = false := by rfl) : PT X (.Compare a [.NotIn] [b] pos) (upT K (fT (fOp (fIn true) τa τb))) := by
  subst hK
  exact ft_cmp op_notIn_seq fr_in ha hb hm
theorem ft_is (ha : PE X a (up K τa)) (hb : PE X b (up K τb)) (hm : behindInMarks .Is b = false := by exact nomark _) : PT X (.Compare a [.Is] [b] pos) (upT K (fT (fOp (fIs false) τa τb))) := ft_cmp op_isN (fun c G o σ H x y d e P Q r hx hy h w => by
  unfold fIs at h
  split at h
  · refine ⟨hy.nonI, w _ o G _ H h (Same.refl G) r ?_⟩
    rw [is_v hx]
    exact .bl _
  · exact h.elim) ha hb hm
theorem ft_isNot (ha : PE X a (up K τa)) (hb : PE X b (up K τb)) (hm : behindInMarks .IsNot b = false := by exact nomark _) : PT X (.Compare a [.IsNot] [b] pos) (upT K (fT (fOp (fIs true) τa τb))) := ft_cmp op_notN (fun c G o σ H x y d e P Q r hx hy h w => by
  unfold fIs at h
  split at h
  · refine ⟨hy.nonI, w _ o G _ H h (Same.refl G) r ?_⟩
    rw [is_v hx]
    exact .bl _
  · exact h.elim) ha hb hm
def fAnd (τ υ : FTt) : FTt := fun o P => τ o fun c o1 => if c = true then υ o1 P else P false o1
def fOr (τ υ : FTt) : FTt := fun o P => τ o fun c o1 => if c = true then P true o1 else υ o1 P
def fNot (τ : FTt) : FTt := fun o P => τ o fun c o1 => P (!c) o1
variable {t u : FTt} {rest : List Expr}
theorem fw_and1 (ha : PT X a (upT K t)) : PW X (.BoolOp .And [a] pos) (upT K t) := pw_and1 ha
theorem fw_or1 (ha : PT X a (upT K t)) : PW X (.BoolOp .Or [a] pos) (upT K t) := pw_or1 ha
theorem fw_and (ha : PT X a (upT K t)) (hb : PW X (.BoolOp .And (b :: rest) pos) (upT K u)) : PW X (.BoolOp .And (a :: b :: rest) pos) (upT K (fAnd t u)) := PW.imp (pw_and ha hb) fun σ H Q ⟨c, G, o, P, r, h, k⟩ =>
  ⟨c, G, o, _, r, h, fun b o1 G1 H1 p g r1 => by
    cases b with
    | true => exact ⟨c, G1, o1, P, r1, p, fun b o' G' H' p g' => k b o' G' H' p (g.trans g')⟩
    | false => exact k false o1 G1 H1 p g r1⟩
theorem fw_or (ha : PT X a (upT K t)) (hb : PW X (.BoolOp .Or (b :: rest) pos) (upT K u)) : PW X (.BoolOp .Or (a :: b :: rest) pos) (upT K (fOr t u)) := PW.imp (pw_or ha hb) fun σ H Q ⟨c, G, o, P, r, h, k⟩ =>
  ⟨c, G, o, _, r, h, fun b o1 G1 H1 p g r1 => by
    cases b with
    | false => exact ⟨c, G1, o1, P, r1, p, fun b o' G' H' p g' => k b o' G' H' p (g.trans g')⟩
    | true => exact k true o1 G1 H1 p g r1⟩
theorem fw_pt (h : PW X e (upT K t)) : PT X e (upT K t) := h.pt
theorem ft_not (ha : PT X a (upT K t)) : PT X (.UnaryOp .Not a pos) (upT K (fNot t)) := PT.imp (pt_not ha) fun σ H Q ⟨c, G, o, P, r, h, k⟩ => ⟨c, G, o, _, r, h, fun b o1 G1 H1 p g r1 => k _ o1 G1 H1 p g r1⟩
/-! values of and, or, not, if else -/
def fAndV (τa τb : FT) : FT := fun o P => τa o fun x o1 => match x with
  | .bool c => if c = true then τb o1 P else P (.bool false) o1
  | _ => False
def fOrV (τa τb : FT) : FT := fun o P => τa o fun x o1 => match x with
  | .bool c => if c = true then P (.bool true) o1 else τb o1 P
  | _ => False
def fNotV (τa : FT) : FT := fun o P => τa o fun x o1 => match x with
  | .bool c => P (.bool (!c)) o1
  | _ => False
def fIf (t : FTt) (τa τb : FT) : FT := fun o P => t o fun c o1 => if c = true then τa o1 P else τb o1 P
theorem fe_one {op} (h : PE X a (up K τ)) : PE X (.BoolOp op [a] pos) (up K τ) := pe_one h
theorem fe_and (ha : PE X a (up K τa)) (hb : PE X (.BoolOp .And (b :: rest) pos) (up K τb)) : PE X (.BoolOp .And (a :: b :: rest) pos) (up K (fAndV τa τb)) := PE.imp (pe_and ha hb) fun σ H Q ⟨c, G, o, P, r, h, k⟩ =>
  ⟨c, G, o, _, r, h, fun d o1 G1 v H1 p g r1 q => by
    cases d with
    | bool b =>
      refine ⟨b, q.blI, ?_⟩
      cases b with
      | true => exact ⟨c, G1, o1, P, r1, p, fun d o' G' v H' p g' => k d o' G' v H' p (g.trans g')⟩
      | false => exact k _ o1 G1 _ H1 p g r1 (.bl _)
    | _ => exact p.elim⟩
theorem fe_or (ha : PE X a (up K τa)) (hb : PE X (.BoolOp .Or (b :: rest) pos) (up K τb)) : PE X (.BoolOp .Or (a :: b :: rest) pos) (up K (fOrV τa τb)) := PE.imp (pe_or ha hb) fun σ H Q ⟨c, G, o, P, r, h, k⟩ =>
  ⟨c, G, o, _, r, h, fun d o1 G1 v H1 p g r1 q => by
    cases d with
    | bool b =>
      refine ⟨b, q.blI, ?_⟩
      cases b with
      | false => exact ⟨c, G1, o1, P, r1, p, fun d o' G' v H' p g' => k d o' G' v H' p (g.trans g')⟩
      | true => exact k _ o1 G1 _ H1 p g r1 (.bl _)
    | _ => exact p.elim⟩
theorem fe_not (ha : PE X a (up K τa)) : PE X (.UnaryOp .Not a pos) (up K (fNotV τa)) := PE.imp (pe_not ha) fun σ H Q ⟨c, G, o, P, r, h, k⟩ =>
  ⟨c, G, o, _, r, h, fun d o1 G1 v H1 p g r1 q => by
    cases d with
    | bool b => exact ⟨b, q.blI, k _ o1 G1 _ H1 p g r1 (.bl _)⟩
    | _ => exact p.elim⟩
theorem fe_notT (ha : PT X a (upT K t)) (h : PE X (.UnaryOp .Not a pos) (fun σ H Q => upT K t σ H fun c H1 => Q (.bl (!c)) H1)) : PE X (.UnaryOp .Not a pos) (up K (fun o P => t o fun c o1 => P (.bool (!c)) o1)) := PE.imp h fun σ H Q ⟨c, G, o, P, r, h, k⟩ =>
  ⟨c, G, o, _, r, h, fun b o1 G1 H1 p g r1 => k _ o1 G1 _ H1 p g r1 (.bl _)⟩
theorem fe_if {cnd : Expr} (hc : PT X cnd (upT K t)) (ha : PE X a (up K τa)) (hb : PE X b (up K τb)) : PE X (.IfExp cnd a b pos) (up K (fIf t τa τb)) := PE.imp (pe_ifExp hc ha hb) fun σ H Q ⟨c, G, o, P, r, h, k⟩ =>
  ⟨c, G, o, _, r, h, fun b o1 G1 H1 p g r1 => by
    cases b with
    | true => exact ⟨c, G1, o1, P, r1, p, fun d o' G' v H' p g' => k d o' G' v H' p (g.trans g')⟩
    | false => exact ⟨c, G1, o1, P, r1, p, fun d o' G' v H' p g' => k d o' G' v H' p (g.trans g')⟩⟩
/-! ## arguments, displays -/
def fNil : FTa := fun o P => P [] o
def fCons (τ : FT) (τr : FTa) : FTa := fun o P => τ o fun d o1 => τr o1 fun ds o2 => P (d :: ds) o2
variable {es : List Expr} {τs : FTa}
theorem fa_nil : PA X [] (upA K fNil) := PA.imp pa_nil fun σ H Q ⟨c, G, o, P, r, h, k⟩ => k [] o G [] H h (Same.refl G) r .nil
theorem fa_cons (ha : PE X e (up K τ)) (hr : PA X es (upA K τs)) (hs : starEach (e :: es) X.env = (false, eval e X.env) :: starEach es X.env := by rfl) : PA X (e :: es) (upA K (fCons τ τs)) := PA.imp (pa_cons ha hr hs) fun σ H Q ⟨c, G, o, P, r, h, k⟩ =>
  ⟨c, G, o, _, r, h, fun d o1 G1 v H1 p g r1 q => ⟨c, G1, o1, _, r1, p, fun ds o2 G2 vs H2 p2 g2 r2 q2 => k _ o2 G2 _ H2 p2 (g.trans g2) r2 (.cons (q.same g2) q2)⟩⟩
def fTup (τs : FTa) : FT := fun o P => τs o fun ds o1 => ds.length ≤ sizeLine ∧ P (.tuple ds) o1
def fLst (τs : FTa) : FT := fun o P => τs o fun ds o1 => ds.length ≤ sizeLine ∧ P (.list ds) o1
theorem fe_tup {x1} (h : PA X es (upA K τs)) : PE X (.Tuple es x1 pos) (up K (fTup τs)) := PE.imp (pe_tup h) fun σ H Q ⟨c, G, o, P, r, h, k⟩ =>
  ⟨c, G, o, _, r, h, fun ds o1 G1 vs H1 p g r1 q => ⟨by rw [q.len]; exact p.1, fun a ha => by
    obtain ⟨r2, g2⟩ := r1.alloc ha (.tup vs)
    exact k _ o1 _ _ _ p.2 (g.trans g2) r2 (.tup (SqT.of upd_same) (q.same g2))⟩⟩
theorem fo_lst (h : PA X es (upA K τs)) : PE X (.List es pos) (upO K (fLst τs)) := PE.imp (pe_lst h) fun σ H Q ⟨c, G, o, P, r, h, k⟩ =>
  ⟨c, G, o, _, r, h, fun ds o1 G1 vs H1 p g r1 q => ⟨by rw [q.len]; exact p.1, fun a ha => by
    obtain ⟨r2, g1, g2, g3⟩ := r1.mine ha (.lst vs)
    exact k _ o1 G1 _ _ p.2 g r2 ⟨g1, g2, vs, upd_same, q⟩ g3⟩⟩
/-! ## subscripts -/
theorem atI_rp {G : Hp} {xs : List V} {ds : List PyData} {i : Int} {d : PyData} (r : RpAll K G xs ds) (h : atI ds i = some d) : ∃ v, atI xs i = some v ∧ Rp K G v d := by
  unfold atI at h ⊢
  rw [r.len]
  cases e : ixN ds.length i with
  | none => rw [e] at h; cases
      h
  | some j =>
    rw [e] at h
    exact r.get h
def fIx : Fr2 := fun x y o P => match x, y with
  | .list ds, .int i => ∃ d, atI ds i = some d ∧ P d o
  | .tuple ds, .int i => ∃ d, atI ds i = some d ∧ P d o
  | .str z, .int i => z.length ≤ sizeLine ∧ ∃ c, atI z.cps.toList i = some c ∧ P (.str ⟨#[c]⟩) o
  | _, _ => False
theorem fr_ix : FR2 K (rIx K) fIx := fun c G o σ H x y d e P Q r hx hy h w => by
  unfold fIx at h
  split at h
  · obtain ⟨d, h1, h2⟩ := h
    obtain ⟨p, xs, rfl, h3, h4⟩ := hx.lstI
    obtain ⟨v, h5, h6⟩ := atI_rp h4 h1
    exact .inl ⟨p, xs, _, v, rfl, hy.intI, SqL.of (r.sub _ _ h3), h5, w _ o G _ H h2 (Same.refl G) r h6⟩
  · obtain ⟨d, h1, h2⟩ := h
    obtain ⟨p, xs, rfl, h3, h4⟩ := hx.tupI
    obtain ⟨v, h5, h6⟩ := atI_rp h4 h1
    exact .inr (.inl ⟨p, xs, _, v, rfl, hy.intI, sqT_same r.sub h3, h5, w _ o G _ H h2 (Same.refl G) r h6⟩)
  · obtain ⟨h1, z, h2, h3⟩ := h
    exact .inr (.inr ⟨_, _, z, hx.strI, hy.intI, h1, h2, w _ o G _ H h3 (Same.refl G) r (.str _)⟩)
  · exact h.elim
theorem fe_ix (hK : X.K = K) (ha : PE X a (up K τa)) (hb : PE X b (up K τb)) (hs : PlainIx b := by exact fun _ _ => rfl) : PE X (.Subscript a b pos) (up K (fOp fIx τa τb)) := by
  subst hK
  exact PE.imp (pe_ix ix_seq ha hb hs) fun _ _ _ => fop fr_ix
/-- a number among a dict's own keys -/
def isKey : Key → PyData → Bool
  | .inl i, .int j => i == j
  | .inr x, .str y => x == y
  | _, _ => false
def isKeys : List Key → List PyData → Bool
  | [], [] => true
  | k :: ks, d :: ds => isKey k d && isKeys ks ds
  | _, _ => false
def isKeyT (ks : List Key) : PyData → Bool
  | .tuple ds => isKeys ks ds
  | _ => false
theorem isKey_kD (k j : Key) : isKey k (kD j) = decide (j = k) := by
  cases k with
  | inl i =>
    cases j with
    | inl z =>
      show (i == z) = _
      by_cases e : i = z
      · subst e; simp
      · rw [decide_eq_false fun q => e (Sum.inl.inj q).symm]
        exact beq_eq_false_iff_ne.mpr e
    | inr z => exact (decide_eq_false fun q => nomatch q).symm
  | inr i =>
    cases j with
    | inr z =>
      show (i == z) = _
      by_cases e : i = z
      · subst e; simp
      · rw [decide_eq_false fun q => e (Sum.inr.inj q).symm]
        exact beq_eq_false_iff_ne.mpr e
    | inl z => exact (decide_eq_false fun q => nomatch q).symm
theorem isKeys_kD : ∀ ks js : List Key, isKeys ks (js.map kD) = decide (js = ks)
  | [], [] => rfl
  | [], j :: js => (decide_eq_false fun q => nomatch q).symm
  | k :: ks, [] => (decide_eq_false fun q => nomatch q).symm
  | k :: ks, j :: js => by
    show (isKey k (kD j) && isKeys ks (js.map kD)) = _
    rw [isKey_kD, isKeys_kD ks js]
    by_cases e : j = k
    · subst e
      by_cases f : js = ks
      · subst f; simp
      · rw [decide_eq_true rfl, decide_eq_false f, decide_eq_false fun q => f (List.cons.inj q).2]; rfl
    · rw [decide_eq_false e, decide_eq_false fun q => e (List.cons.inj q).1]; rfl
/-- what a dict has at a key -/
def lookK (k : Key) (kvs : List (PyData × PyData)) : Option PyData := (kvs.find? fun p => isKey k p.1).map (·.2)
def lookT (k : List Key) (kvs : List (PyData × PyData)) : Option PyData := (kvs.find? fun p => isKeyT k p.1).map (·.2)
theorem RpK.val {G : Hp} {k : Key} : ∀ {es : List (Key × V)} {kvs : List (PyData × PyData)}, RpK K G es kvs → (∃ v d, valV es k = some v ∧ lookK k kvs = some d ∧ Rp K G v d) ∨ (valV es k = none ∧ lookK k kvs = none)
  | _, _, .nil => .inr ⟨rfl, rfl⟩
  | _, _, .cons (k := j) (v := v) (d := d) h r => by
    unfold valV lookK
    rw [List.find?_cons, List.find?_cons]
    simp only [isKey_kD]
    by_cases e : j = k
    · subst e
      simp only [decide_true]
      exact .inl ⟨v, d, rfl, rfl, h⟩
    · simp only [e, decide_false]
      exact RpK.val r
theorem RpT.val {G : Hp} {k : List Key} : ∀ {es : List (List Key × V)} {kvs : List (PyData × PyData)}, RpT K G es kvs → (∃ v d, valV es k = some v ∧ lookT k kvs = some d ∧ Rp K G v d) ∨ (valV es k = none ∧ lookT k kvs = none)
  | _, _, .nil => .inr ⟨rfl, rfl⟩
  | _, _, .cons (k := j) (v := v) (d := d) h r => by
    unfold valV lookT
    rw [List.find?_cons, List.find?_cons]
    simp only [isKeyT, isKeys_kD]
    by_cases e : j = k
    · subst e
      simp only [decide_true]
      exact .inl ⟨v, d, rfl, rfl, h⟩
    · simp only [e, decide_false]
      exact RpT.val r
/-- d[k], d of names -/
def fDGet : Fr2 := fun x y o P => match x, y with
  | .dict kvs, .str z => ∃ d, lookK (.inr z) kvs = some d ∧ P d o
  | .dict kvs, .int z => ∃ d, lookK (.inl z) kvs = some d ∧ P d o
  | _, _ => False
/-- a dict all of whose keys are names or numbers -/
theorem keyK {k : Key} {d : PyData} {G : Hp} : ∀ {kvs : List (PyData × PyData)} {es : List (List Key × V)}, RpT K G es kvs → lookK k kvs = some d → False
  | _, _, .nil, e => nomatch e
  | _, _, .cons _ r, e => by
    unfold lookK at e
    rw [List.find?_cons] at e
    cases k <;> exact keyK r e
theorem keyT {k : List Key} {d : PyData} {G : Hp} : ∀ {kvs : List (PyData × PyData)} {es : List (Key × V)}, RpK K G es kvs → lookT k kvs = some d → False
  | _, _, .nil, e => nomatch e
  | _, _, .cons (k := j) _ r, e => by
    unfold lookT at e
    rw [List.find?_cons] at e
    cases j <;> exact keyT r e
theorem dict_get {G H : Hp} {x : V} {kvs : List (PyData × PyData)} {k : Key} {d : PyData} (s : Same G H) (hx : Rp K G x (.dict kvs)) (e : lookK k kvs = some d) : ∃ a v, x = .ref a ∧ DGet H a (kV k) (some v) ∧ Rp K G v d := by
  obtain ⟨a, rfl, ⟨es, h1, h2⟩ | ⟨es, h1, _, h2⟩⟩ := hx.dicI
  · rcases h2.val (k := k) with ⟨v, d', e1, e2, r⟩ | ⟨_, e2⟩
    · rw [e] at e2
      cases e2
      refine ⟨a, v, rfl, ?_, r⟩
      have := DGet.k (k := k) (s _ _ h1)
      rwa [e1] at this
    · rw [e] at e2
      cases e2
  · exact (keyK h2 e).elim
theorem fe_dget (hu : X.A.units + 1 < cLine) (ha : PE X a (up K τa)) (hb : PE X b (up K τb)) (hs : NoSl b := by exact fun _ _ => rfl) : PE X (.Subscript a b pos) (up K (fOp fDGet τa τb)) := PE.imp (pe_dget hu ha hb hs) fun σ H Q ⟨c, G, o, P, r, h, k⟩ =>
  ⟨c, G, o, _, r, h, fun d o1 G1 v H1 p g r1 q => ⟨c, G1, o1, _, r1, p, fun e o2 G2 u H2 p2 g2 r2 q2 => by
    unfold fDGet at p2
    split at p2
    · obtain ⟨d, e1, p2⟩ := p2
      obtain ⟨a, w, rfl, dg, rw'⟩ := dict_get r2.sub (q.same g2) e1
      refine ⟨a, w, rfl, ?_, k d o2 G2 w H2 p2 (g.trans g2) r2 rw'⟩
      rw [q2.strI]
      exact dg
    · obtain ⟨d, e1, p2⟩ := p2
      obtain ⟨a, w, rfl, dg, rw'⟩ := dict_get r2.sub (q.same g2) e1
      refine ⟨a, w, rfl, ?_, k d o2 G2 w H2 p2 (g.trans g2) r2 rw'⟩
      rw [q2.intI]
      exact dg
    · exact p2.elim⟩⟩
/-! ## slices -/
def cutL {α : Type} (xs : List α) (lo hi : Option Int) : List α := (xs.drop (HT.sIx xs.length 0 lo)).take (HT.sIx xs.length xs.length hi - HT.sIx xs.length 0 lo)
abbrev FP := Om → (Option Int → Om → Prop) → Prop
def upP (K : PySem.W.Frag) [Tabled K] (τ : FP) : TO := fun σ H Q => ∃ c G o P, Rs K c G o σ H ∧ τ o P ∧ ∀ d o' G' H', P d o' → Same G G' → Rs K c G' o' σ H' → Q d H'
def fPn : FP := fun o P => P none o
def fPs (τ : FT) : FP := fun o P => τ o fun d o1 => match d with
  | .int i => P (some i) o1
  | _ => False
theorem PO.imp {X : Cx} {e : Option Expr} {t t' : TO} (h : PO X e t) (i : ∀ σ H Q, t' σ H Q → t σ H Q) : PO X e t' := ⟨fun pins s σ H Q I q => h.run pins s σ H Q I (i σ H Q q)⟩
theorem fp_none : PO X none (upP K fPn) := PO.imp po_none fun σ H Q ⟨c, G, o, P, r, h, k⟩ => k none o G H h (Same.refl G) r
theorem fp_some (h : PE X e (up K τ)) : PO X (some e) (upP K (fPs τ)) := PO.imp (po_some h) fun σ H Q ⟨c, G, o, P, r, h, k⟩ => ⟨c, G, o, _, r, h, fun d o1 G1 v H1 p g r1 q => by
  cases d with
  | int i => exact ⟨i, q.intI, k _ o1 G1 H1 p g r1⟩
  | _ => exact p.elim⟩
def fSlL (τ : FT) (τl τh : FP) : FT := fun o P => τ o fun x o1 => τl o1 fun l o2 => τh o2 fun u o3 => match x with
  | .list ds => P (.list (cutL ds l u)) o3
  | _ => False
def fSlT (τ : FT) (τl τh : FP) : FT := fun o P => τ o fun x o1 => τl o1 fun l o2 => τh o2 fun u o3 => match x with
  | .tuple ds => P (.tuple (cutL ds l u)) o3
  | _ => False
theorem cut_rp {G : Hp} {xs : List V} {ds : List PyData} (r : RpAll K G xs ds) (lo hi : Option Int) : RpAll K G (cutV xs lo hi) (cutL ds lo hi) := by
  unfold cutV cutL
  rw [r.len]
  exact (r.drop _).take _
variable {lo hi : Option Expr} {τl τh : FP} {p2 : Pos}
theorem fo_sl (hK : X.K = K) (he : PE X e (up K τ)) (hl : PO X lo (upP K τl)) (hh : PO X hi (upP K τh)) : PE X (.Subscript e (.Slice lo hi none p2) pos) (upO K (fSlL τ τl τh)) := by
  subst hK
  exact PE.imp (pe_slice sl_list he hl hh) fun σ H Q ⟨c, G, o, P, r, h, k⟩ => ⟨c, G, o, _, r, h, fun d o1 G1 v H1 p1 g1 r1 q1 => ⟨c, G1, o1, _, r1, p1, fun l o2 G2 H2 p2 g2 r2 => ⟨c, G2, o2, _, r2, p2, fun u o3 G3 H3 p3 g3 r3 => by
    split at p3
    · obtain ⟨a, xs, rfl, h1, h2⟩ := q1.lstI
      refine ⟨a, xs, rfl, SqL.of (r3.sub _ _ (g3 _ _ (g2 _ _ h1))), fun p hp => ?_⟩
      obtain ⟨r4, m1, m2, m3⟩ := r3.mine hp (.lst (cutV xs l u))
      exact k _ o3 G3 p _ p3 ((g1.trans g2).trans g3) r4 ⟨m1, m2, _, upd_same, (cut_rp h2 l u).same (g2.trans g3)⟩ m3
    · exact p3.elim⟩⟩⟩
theorem fe_slT (hK : X.K = K) (he : PE X e (up K τ)) (hl : PO X lo (upP K τl)) (hh : PO X hi (upP K τh)) : PE X (.Subscript e (.Slice lo hi none p2) pos) (up K (fSlT τ τl τh)) := by
  subst hK
  exact PE.imp (pe_slice sl_tupA he hl hh) fun σ H Q ⟨c, G, o, P, r, h, k⟩ => ⟨c, G, o, _, r, h, fun d o1 G1 v H1 p1 g1 r1 q1 => ⟨c, G1, o1, _, r1, p1, fun l o2 G2 H2 p2 g2 r2 => ⟨c, G2, o2, _, r2, p2, fun u o3 G3 H3 p3 g3 r3 => by
    split at p3
    · obtain ⟨a, xs, rfl, h1, h2⟩ := q1.tupI
      have g := g2.trans g3
      refine ⟨a, xs, rfl, sqT_same r3.sub (sqT_same g h1), fun hw => ?_, fun _ p hp => ?_⟩
      · refine k _ o3 G3 _ _ p3 (g1.trans g) r3 (.tup (sqT_same g h1) ?_)
        have : cutV xs l u = xs := by
          unfold cutV
          rw [hw.1, hw.2, List.drop_zero, Nat.sub_zero, List.take_length]
        rw [← this]
        exact (cut_rp h2 l u).same g
      · obtain ⟨r4, g4⟩ := r3.alloc hp (.tup (cutV xs l u))
        exact k _ o3 _ _ _ p3 ((g1.trans g).trans g4) r4 (.tup (SqT.of upd_same) ((cut_rp h2 l u).same (g.trans g4)))
    · exact p3.elim⟩⟩⟩
/-! ## lists and tuples put together -/
def fCatT : Fr2 := fun x y o P => match x, y with
  | .tuple a, .tuple b => a.length + b.length ≤ sizeLine ∧ P (.tuple (a ++ b)) o
  | _, _ => False
def fCatL : Fr2 := fun x y o P => match x, y with
  | .list a, .list b => a.length + b.length ≤ sizeLine ∧ P (.list (a ++ b)) o
  | _, _ => False
theorem fr_catT : FR2 K (rCatA K) fCatT := fun c G o σ H x y d e P Q r hx hy h w => by
  unfold fCatT at h
  split at h
  · obtain ⟨h1, h2⟩ := h
    obtain ⟨a, xs, rfl, h3, h4⟩ := hx.tupI
    obtain ⟨b, ys, rfl, h5, h6⟩ := hy.tupI
    refine ⟨a, b, xs, ys, rfl, rfl, sqT_same r.sub h3, sqT_same r.sub h5, by rw [h4.len, h6.len]; exact h1, fun e => ?_, fun _ e => ?_, fun _ _ p hp => ?_⟩
    · subst e
      cases h4
      exact w _ o G _ H h2 (Same.refl G) r (.tup h5 h6)
    · subst e
      cases h6
      refine w _ o G _ H h2 (Same.refl G) r (.tup h3 ?_)
      rw [List.append_nil]
      exact h4
    · obtain ⟨r4, g4⟩ := r.alloc hp (.tup (xs ++ ys))
      exact w _ o _ _ _ h2 g4 r4 (.tup (SqT.of upd_same) ((h4.append h6).same g4))
  · exact h.elim
theorem fr_catL : FR2O K rCat fCatL := fun c G o σ H x y d e P Q r hx hy h w => by
  unfold fCatL at h
  split at h
  · obtain ⟨h1, h2⟩ := h
    obtain ⟨a, xs, rfl, h3, h4⟩ := hx.lstI
    obtain ⟨b, ys, rfl, h5, h6⟩ := hy.lstI
    refine ⟨a, b, xs, ys, rfl, rfl, r.sub _ _ h3, r.sub _ _ h5, by rw [h4.len, h6.len]; exact h1, fun p hp => ?_⟩
    obtain ⟨r4, m1, m2, m3⟩ := r.mine hp (.lst (xs ++ ys))
    exact w _ o G _ _ h2 (Same.refl G) r4 ⟨m1, m2, _, upd_same, h4.append h6⟩ m3
  · exact h.elim
theorem fe_catT (hK : X.K = K) (ha : PE X a (up K τa)) (hb : PE X b (up K τb)) : PE X (.BinOp a .Add b pos) (up K (fOp fCatT τa τb)) := by
  subst hK
  exact fe_op op_catA fr_catT ha hb
theorem fo_cat (ha : PE X a (up K τa)) (hb : PE X b (up K τb)) : PE X (.BinOp a .Add b pos) (upO K (fOp fCatL τa τb)) := fo_op op_cat fr_catL ha hb
def fCatS : Fr2 := fun x y o P => match x, y with
  | .str a, .str b => a.length + b.length ≤ sizeLine ∧ P (.str (a ++ b)) o
  | _, _ => False
theorem fe_catS (ha : PE X a (up K τa)) (hb : PE X b (up K τb)) : PE X (.BinOp a .Add b pos) (up K (fOp fCatS τa τb)) := fe_op op_add_str (fun c G o σ H x y d e P Q r hx hy h w => by
  unfold fCatS at h
  split at h
  · exact ⟨_, _, hx.strI, hy.strI, h.1, w _ o G _ H h.2 (Same.refl G) r (.str _)⟩
  · exact h.elim) ha hb
/-! ## calls of what is built in -/
abbrev Frn := List PyData → Om → (PyData → Om → Prop) → Prop
def FCR (K : PySem.W.Frag) [Tabled K] (r : List V → Hp → VK → Prop) (ρ : Frn) : Prop := ∀ c G o σ H xs ds P Q, Rs K c G o σ H → RpAll K G xs ds → ρ ds o P → Wants K c G σ P Q → r xs H Q
def FCO (K : PySem.W.Frag) [Tabled K] (r : List V → Hp → VK → Prop) (ρ : Frn) : Prop := ∀ c G o σ H xs ds P Q, Rs K c G o σ H → RpAll K G xs ds → ρ ds o P → WantsO K c G σ P Q → r xs H Q
def fCb (ρ : Frn) (τs : FTa) : FT := fun o P => τs o fun ds o1 => ρ ds o1 P
theorem fcb {r : List V → Hp → VK → Prop} {ρ : Frn} (hr : FCR K r ρ) {σ : L2.St} {H : Hp} {Q : VK} (h : up K (fCb ρ τs) σ H Q) : tCB r (upA K τs) σ H Q := by
  obtain ⟨c, G, o, P, rs, t, k⟩ := h
  exact ⟨c, G, o, _, rs, t, fun ds o1 G1 vs H1 p g1 r1 q1 => hr c G1 o1 σ H1 vs ds _ _ r1 q1 p fun f o3 G3 z H3 p3 g3 => k f o3 G3 z H3 p3 (g1.trans g3)⟩
theorem fcbO {r : List V → Hp → VK → Prop} {ρ : Frn} (hr : FCO K r ρ) {σ : L2.St} {H : Hp} {Q : VK} (h : upO K (fCb ρ τs) σ H Q) : tCB r (upA K τs) σ H Q := by
  obtain ⟨c, G, o, P, rs, t, k⟩ := h
  exact ⟨c, G, o, _, rs, t, fun ds o1 G1 vs H1 p g1 r1 q1 => hr c G1 o1 σ H1 vs ds _ _ r1 q1 p fun f o3 G3 z H3 p3 g3 => k f o3 G3 z H3 p3 (g1.trans g3)⟩
def fLen : Frn := fun ds o P => match ds with
  | [.list xs] => P (.int xs.length) o
  | [.tuple xs] => P (.int xs.length) o
  | _ => False
theorem fr_len : FCR K (fun xs H Q => ∃ p ys, xs = [.ref p] ∧ (SqL K H p ys ∨ SqT K H p ys) ∧ Q (.int ys.length) H) fLen := fun c G o σ H xs ds P Q r hx h w => by
  unfold fLen at h
  split at h
  · obtain ⟨v, rfl, hv⟩ := hx.one
    obtain ⟨a, ys, rfl, h1, h2⟩ := hv.lstI
    refine ⟨a, ys, rfl, .inl (SqL.of (r.sub _ _ h1)), w _ o G _ H h (Same.refl G) r ?_⟩
    rw [h2.len]
    exact .int _
  · obtain ⟨v, rfl, hv⟩ := hx.one
    obtain ⟨a, ys, rfl, h1, h2⟩ := hv.tupI
    refine ⟨a, ys, rfl, .inr (sqT_same r.sub h1), w _ o G _ H h (Same.refl G) r ?_⟩
    rw [h2.len]
    exact .int _
  · exact h.elim
def fIntB : Frn := fun ds o P => match ds with
  | [.bool b] => P (.int (if b then 1 else 0)) o
  | [.int i] => P (.int i) o
  | _ => False
theorem fr_int : FCR K (fun xs H Q => (∃ i, xs = [.int i] ∧ Q (.int i) H) ∨ ∃ k, xs = [.bl k] ∧ Q (.int (if k then 1 else 0)) H) fIntB := fun c G o σ H xs ds P Q r hx h w => by
  unfold fIntB at h
  split at h
  · obtain ⟨v, rfl, hv⟩ := hx.one
    exact .inr ⟨_, by rw [hv.blI], w _ o G _ H h (Same.refl G) r (.int _)⟩
  · obtain ⟨v, rfl, hv⟩ := hx.one
    exact .inl ⟨_, by rw [hv.intI], w _ o G _ H h (Same.refl G) r (.int _)⟩
  · exact h.elim
def fMin : Frn := fun ds o P => match ds with
  | [.int i, .int j] => P (.int (if j < i then j else i)) o
  | _ => False
def fMax : Frn := fun ds o P => match ds with
  | [.int i, .int j] => P (.int (if j > i then j else i)) o
  | _ => False
theorem fr_min : FCR K (fun xs H Q => ∃ i j, xs = [.int i, .int j] ∧ Q (.int (if j < i then j else i)) H) fMin := fun c G o σ H xs ds P Q r hx h w => by
  unfold fMin at h
  split at h
  · obtain ⟨v, u, rfl, hv, hu⟩ := hx.two
    exact ⟨_, _, by rw [hv.intI, hu.intI], w _ o G _ H h (Same.refl G) r (.int _)⟩
  · exact h.elim
theorem fr_max : FCR K (fun xs H Q => ∃ i j, xs = [.int i, .int j] ∧ Q (.int (if j > i then j else i)) H) fMax := fun c G o σ H xs ds P Q r hx h w => by
  unfold fMax at h
  split at h
  · obtain ⟨v, u, rfl, hv, hu⟩ := hx.two
    exact ⟨_, _, by rw [hv.intI, hu.intI], w _ o G _ H h (Same.refl G) r (.int _)⟩
  · exact h.elim
def fListOf : Frn := fun ds o P => match ds with
  | [.list xs] => P (.list xs) o
  | [.tuple xs] => P (.list xs) o
  | _ => False
theorem fr_list : FCO K (fun xs H Q => ∃ p ys, xs = [.ref p] ∧ (SqL K H p ys ∨ SqT K H p ys) ∧ ∀ l, H l = none → Q (.ref l) (upd H l (.lst ys))) fListOf := fun c G o σ H xs ds P Q r hx h w => by
  unfold fListOf at h
  split at h
  · obtain ⟨v, rfl, hv⟩ := hx.one
    obtain ⟨a, ys, rfl, h1, h2⟩ := hv.lstI
    refine ⟨a, ys, rfl, .inl (SqL.of (r.sub _ _ h1)), fun l hl => ?_⟩
    obtain ⟨r4, m1, m2, m3⟩ := r.mine hl (.lst ys)
    exact w _ o G _ _ h (Same.refl G) r4 ⟨m1, m2, _, upd_same, h2⟩ m3
  · obtain ⟨v, rfl, hv⟩ := hx.one
    obtain ⟨a, ys, rfl, h1, h2⟩ := hv.tupI
    refine ⟨a, ys, rfl, .inr (sqT_same r.sub h1), fun l hl => ?_⟩
    obtain ⟨r4, m1, m2, m3⟩ := r.mine hl (.lst ys)
    exact w _ o G _ _ h (Same.refl G) r4 ⟨m1, m2, _, upd_same, h2⟩ m3
  · exact h.elim
/-- tuple(..) -/
def fTupOf (τ : FT) : FT := fun o P => τ o fun d o1 => match d with
  | .list xs => P (.tuple xs) o1
  | .tuple xs => P (.tuple xs) o1
  | _ => False
variable {p : Pos}
theorem fe_tupleOf (hK : X.K = K) (hg : Gl X "tuple") (hm : X.mg "tuple" = none) (ha : PE X a (up K τ)) (na : starEach [a] X.env = (false, eval a X.env) :: starEach [] X.env := by rfl) : PE X (.Call (.Name "tuple" p) [a] [] pos) (up K (fTupOf τ)) := by
  subst hK
  exact PE.imp (pe_tupleOf hg hm ha na) fun σ H Q ⟨c, G, o, P, r, h, k⟩ => ⟨c, G, o, _, r, h, fun d o1 G1 v H1 p g r1 q => by
    split at p
    · obtain ⟨a, ys, rfl, h1, h2⟩ := q.lstI
      refine .inl ⟨a, ys, rfl, SqL.of (r1.sub _ _ h1), fun l hl => ?_⟩
      obtain ⟨r4, g4⟩ := r1.alloc hl (.tup ys)
      exact k _ o1 _ _ _ p (g.trans g4) r4 (.tup (SqT.of upd_same) (h2.same g4))
    · obtain ⟨a, ys, rfl, h1, h2⟩ := q.tupI
      exact .inr ⟨a, ys, rfl, sqT_same r1.sub h1, k _ o1 _ _ _ p g r1 q⟩
    · exact p.elim⟩
variable {x : Str} {id T : String} {r : List V → Hp → VK → Prop} {ρ : Frn}
theorem fe_callB (hc : CallR X (.builtin id) r) (hr : FCR K r ρ) (hg : Gl X x) (hm : X.mg x = none) (hv : bootBuiltins x = some (.builtin id)) (ha : PA X (e :: es) (upA K τs)) (hn : x ≠ "__name__" := by decide) (hdb : (x == ("__debug__" : Str)) = false := by decide)
    (he : starEach (e :: es) X.env = (false, eval e X.env) :: starEach es X.env := by rfl) (hpl : (backTo pos (starEach es X.env)).any (·.1) = false := by rfl) : PE X (.Call (.Name x p) (e :: es) [] pos) (up K (fCb ρ τs)) :=
  PE.imp (pe_callB hc hg hm hv ha hn hdb he hpl) fun _ _ _ => fcb hr
theorem fe_callT (hc : CallR X (.type T) r) (hr : FCR K r ρ) (hg : Gl X x) (hm : X.mg x = none) (hv : bootBuiltins x = some (.type T)) (ha : PA X (e :: es) (upA K τs)) (hn : x ≠ "__name__" := by decide) (hdb : (x == ("__debug__" : Str)) = false := by decide)
    (he : starEach (e :: es) X.env = (false, eval e X.env) :: starEach es X.env := by rfl) (hpl : (backTo pos (starEach es X.env)).any (·.1) = false := by rfl) : PE X (.Call (.Name x p) (e :: es) [] pos) (up K (fCb ρ τs)) :=
  PE.imp (pe_callTy hc hg hm hv ha hn hdb he hpl) fun _ _ _ => fcb hr
theorem fo_callT (hc : CallR X (.type T) r) (hr : FCO K r ρ) (hg : Gl X x) (hm : X.mg x = none) (hv : bootBuiltins x = some (.type T)) (ha : PA X (e :: es) (upA K τs)) (hn : x ≠ "__name__" := by decide) (hdb : (x == ("__debug__" : Str)) = false := by decide)
    (he : starEach (e :: es) X.env = (false, eval e X.env) :: starEach es X.env := by rfl) (hpl : (backTo pos (starEach es X.env)).any (·.1) = false := by rfl) : PE X (.Call (.Name x p) (e :: es) [] pos) (upO K (fCb ρ τs)) :=
  PE.imp (pe_callTy hc hg hm hv ha hn hdb he hpl) fun _ _ _ => fcbO hr
theorem fe_len (hK : X.K = K) (hg : Gl X "len") (hm : X.mg "len" = none) (ha : PA X [e] (upA K τs)) (he : starEach [e] X.env = (false, eval e X.env) :: starEach [] X.env := by rfl) : PE X (.Call (.Name "len" p) [e] [] pos) (up K (fCb fLen τs)) := by
  subst hK
  exact fe_callB call_len_seq fr_len hg hm PySem.boot_len ha (he := he)
theorem fe_intOf (hg : Gl X "int") (hm : X.mg "int" = none) (ha : PA X [e] (upA K τs)) (he : starEach [e] X.env = (false, eval e X.env) :: starEach [] X.env := by rfl) : PE X (.Call (.Name "int" p) [e] [] pos) (up K (fCb fIntB τs)) := fe_callT call_int1 fr_int hg hm (by decide +kernel) ha (he := he)
theorem fo_listOf (hK : X.K = K) (hg : Gl X "list") (hm : X.mg "list" = none) (ha : PA X [e] (upA K τs)) (he : starEach [e] X.env = (false, eval e X.env) :: starEach [] X.env := by rfl) : PE X (.Call (.Name "list" p) [e] [] pos) (upO K (fCb fListOf τs)) := by
  subst hK
  exact fo_callT call_list_of fr_list hg hm (by decide +kernel) ha (he := he)
theorem fe_min2 (hc : X.calm = true) (hg : Gl X "min") (hm : X.mg "min" = none) (ha : PA X [e, b] (upA K τs)) (he : starEach [e, b] X.env = (false, eval e X.env) :: starEach [b] X.env := by rfl) (hpl : (backTo pos (starEach [b] X.env)).any (·.1) = false := by rfl) : PE X (.Call (.Name "min" p) [e, b] [] pos) (up K (fCb fMin τs)) := fe_callB (call_min2 hc) fr_min hg hm PyProof.Rows.boot_min ha (he := he) (hpl := hpl)
theorem fe_max2 (hc : X.calm = true) (hg : Gl X "max") (hm : X.mg "max" = none) (ha : PA X [e, b] (upA K τs)) (he : starEach [e, b] X.env = (false, eval e X.env) :: starEach [b] X.env := by rfl) (hpl : (backTo pos (starEach [b] X.env)).any (·.1) = false := by rfl) : PE X (.Call (.Name "max" p) [e, b] [] pos) (up K (fCb fMax τs)) := fe_callB (call_max2 hc) fr_max hg hm PyProof.Rows.boot_max ha (he := he) (hpl := hpl)
end
end Lf

set_option maxRecDepth 100000
set_option maxHeartbeats 3900000
namespace Lf
open PySem PySem.Spec PyProof.Rows L2 K
/-! # statements -/
section
variable {X : Cx} {K : PySem.W.Frag} [Tabled K] {a b e : Expr} {τa τb τ : FT} {pos : Pos} {es : List Expr} {τs : FTa}
theorem Om.put_len {o : Om} {i : Nat} {w : Ho} : (o.put i w).vs.length = o.vs.length := by show (o.vs.set i _).length = _; rw [List.length_set]
def fSet (i : Nat) (τ : FT) : FTs := fun E o => τ o fun d o1 => E.nx (o1.put i (.dat d))
def fSetO (i : Nat) (τ : FT) : FTs := fun E o => τ o fun d o1 => E.nx (o1.put i (.own d))
theorem set_up {i : Nat} {D : Ends} {σ : L2.St} {H : Hp} (h : upS K (fSet i τ) D σ H) : tAsg (up K τ) (gName i) D σ H := by
  obtain ⟨c, G, o, E, r, t, k⟩ := h
  exact ⟨c, G, o, _, r, t, fun d o1 G1 v H1 p g r1 q => k.nx _ G1 _ H1 p g (r1.put q)⟩
theorem setO_up {i : Nat} {D : Ends} {σ : L2.St} {H : Hp} (h : upS K (fSetO i τ) D σ H) : tAsg (upO K τ) (gName i) D σ H := by
  obtain ⟨c, G, o, E, r, t, k⟩ := h
  exact ⟨c, G, o, _, r, t, fun d o1 G1 a H1 p g r1 m ap => k.nx _ G1 _ H1 p g (r1.putOwn m ap)⟩
theorem fs_set {i : Nat} {x : Str} {pos' : Pos} (hN : X.N.Nodup) (hi : X.N[i]? = some x) (hx : Loc X.env.scope x) (he : PE X e (up K τ)) (hs : swapsWith e (some (.Name x pos')) pos.line X.env = pure false := by rfl) (hf : X.fn x = true ∨ X.env.scope.names.lookup x = some .local := by first | exact .inl rfl | exact .inr rfl | assumption) :
    PS X (.Assign [.Name x pos'] e pos) (upS K (fSet i τ)) := PS.imp (ps_set hN hi hx he hs hf) fun _ _ _ => set_up
theorem fs_setO {i : Nat} {x : Str} {pos' : Pos} (hN : X.N.Nodup) (hi : X.N[i]? = some x) (hx : Loc X.env.scope x) (he : PE X e (upO K τ)) (hs : swapsWith e (some (.Name x pos')) pos.line X.env = pure false := by rfl) (hf : X.fn x = true ∨ X.env.scope.names.lookup x = some .local := by first | exact .inl rfl | exact .inr rfl | assumption) :
    PS X (.Assign [.Name x pos'] e pos) (upS K (fSetO i τ)) := PS.imp (ps_set hN hi hx he hs hf) fun _ _ _ => setO_up
def fRet (τ : FT) : FTs := fun E o => τ o E.rt
def fRetO (τ : FT) : FTs := fun E o => τ o E.ro
theorem fs_ret (he : PE X e (up K τ)) : PS X (.Return (some e) pos) (upS K (fRet τ)) := PS.imp (ps_ret he) fun D σ H ⟨c, G, o, E, r, t, k⟩ => ⟨c, G, o, _, r, t, fun d o1 G1 v H1 p g r1 q => k.rt d o1 G1 σ v H1 p g r1 q⟩
theorem fs_retO (he : PE X e (upO K τ)) : PS X (.Return (some e) pos) (upS K (fRetO τ)) := PS.imp (ps_ret he) fun D σ H ⟨c, G, o, E, r, t, k⟩ => ⟨c, G, o, _, r, t, fun d o1 G1 a H1 p g r1 m ap => k.ro d o1 G1 σ a H1 p g r1 m ap⟩
/-- return x, x of one's own -/
def fVarO (i : Nat) : FT := fun o P => match o.vs[i]? with
  | some (some (.own d)) => P d (o.off i)
  | _ => False
theorem Rs.offO {c : Fc} {G H : Hp} {o : Om} {σ : L2.St} (r : Rs K c G o σ H) (i : Nat) : Rs K c G (o.off i) σ H := by
  refine ⟨r.sub, r.g0, r.gn, r.old, r.tape, by show _ = (o.vs.set i _).length; rw [List.length_set]; exact r.len, fun j w e => ?_, fun j k d1 e1 b ne h1 h2 h3 => ?_, r.tabs, r.toff⟩
  · rcases set_some e with ⟨rfl, e2⟩ | ⟨ne, e2⟩
    · cases e2
    · exact r.var j w e2
  · rcases set_some h1 with ⟨_, e2⟩ | ⟨n1, e1⟩
    · cases e2
    rcases set_some h2 with ⟨_, e2⟩ | ⟨n2, e2⟩
    · cases e2
    exact r.dis j k _ _ b ne e1 e2 h3
theorem fo_var {i : Nat} (h : PE X e (tVar i)) : PE X e (upO K (fVarO i)) := PE.imp h fun σ H Q ⟨c, G, o, P, r, t, k⟩ => by
  unfold fVarO at t
  split at t
  · rename_i d e
    obtain ⟨v, h1, a, rfl, m⟩ := r.var i _ e
    refine ⟨_, h1, k d _ G a H t (Same.refl G) (r.offO i) m fun j e2 h2 h3 => ?_⟩
    rcases set_some h2 with ⟨_, e2⟩ | ⟨n1, e1⟩
    · cases e2
    · exact r.dis j i _ _ a n1 e1 e h3 h1
  · exact t.elim
def fExpr (τ : FT) : FTs := fun E o => τ o fun _ o1 => E.nx o1
theorem fs_expr (he : PE X e (up K τ)) (hs : swapsWith e none pos.line X.env = pure false := by rfl) : PS X (.Expr e pos) (upS K (fExpr τ)) := PS.imp (ps_expr he hs) fun D σ H ⟨c, G, o, E, r, t, k⟩ => ⟨c, G, o, _, r, t, fun d o1 G1 v H1 p g r1 q => k.nx o1 G1 σ H1 p g r1⟩
def fIfS (c : FTt) (t u : FTs) : FTs := fun E o => c o fun b o1 => if b = true then t E o1 else u E o1
variable {ct : FTt} {t u : FTs} {body rest : List Stmt} {st : Stmt}
theorem fs_if {c : Expr} {x y : List Stmt} (hc : PT X c (upT K ct)) (ha : PSs X x (upS K t)) (hb : PSs X y (upS K u)) : PS X (.If c x y pos) (upS K (fIfS ct t u)) := PS.imp (ps_if hc ha hb) fun D σ H ⟨c, G, o, E, r, h, k⟩ => ⟨c, G, o, _, r, h, fun b o1 G1 H1 p g r1 => by
  cases b with
  | true => exact ⟨c, G1, o1, E, r1, p, k.grow g⟩
  | false => exact ⟨c, G1, o1, E, r1, p, k.grow g⟩⟩
def fNext : FTs := fun E o => E.nx o
def fSeq (t u : FTs) : FTs := fun E o => t { E with nx := u E } o
theorem fss_nil : PSs X [] (upS K fNext) := PSs.imp pss_nil fun D σ H ⟨c, G, o, E, r, h, k⟩ => k.nx o G σ H h (Same.refl G) r
theorem fss_cons (h1 : PS X st (upS K t)) (h2 : PSs X rest (upS K u)) : PSs X (st :: rest) (upS K (fSeq t u)) := PSs.imp (pss_cons h1 h2) fun D σ H ⟨c, G, o, E, r, h, k⟩ =>
  ⟨c, G, o, { E with nx := u E }, r, h, ⟨fun o' G' σ' H' p g r' => ⟨c, G', o', E, r', p, k.grow g⟩, k.rt, k.ro, k.bk, k.ct, k.rf⟩⟩
/-- two statements that meet at M -/
def fCut (t u : FTs) : FTs := fun E o => ∃ M : Om → Prop, t { E with nx := M } o ∧ ∀ o', M o' → u E o'
theorem fss_cut (h1 : PS X st (upS K t)) (h2 : PSs X rest (upS K u)) : PSs X (st :: rest) (upS K (fCut t u)) := PSs.imp (pss_cons h1 h2) fun D σ H ⟨c, G, o, E, r, ⟨M, h, hM⟩, k⟩ =>
  ⟨c, G, o, { E with nx := M }, r, h, ⟨fun o' G' σ' H' p g r' => ⟨c, G', o', E, r', hM o' p, k.grow g⟩, k.rt, k.ro, k.bk, k.ct, k.rf⟩⟩
theorem fss_one (h1 : PS X st (upS K t)) : PSs X [st] (upS K t) := pss_one h1
/-- a name's thing is handed on from here -/
def fFz (i : Nat) (t : FTs) : FTs := fun E o => match o.vs[i]? with
  | some (some (.own d)) => t E (o.put i (.dat d))
  | _ => False
theorem fs_fz (i : Nat) (h : PS X st (upS K t)) : PS X st (upS K (fFz i t)) := PS.imp h fun D σ H ⟨c, G, o, E, r, h, k⟩ => by
  unfold fFz at h
  split at h
  · rename_i d e
    obtain ⟨G', v, r', g, h1, h2⟩ := r.fz e
    exact ⟨c, G', _, E, r', h, k.grow g⟩
  · exact h.elim
/-! ## targets -/
abbrev FGt := PyData → Om → (Om → Prop) → Prop
abbrev FGs := List PyData → Om → (Om → Prop) → Prop
def upG (K : PySem.W.Frag) [Tabled K] (S : List Nat) (γ : FGt) : TG := fun v σ H Q => ∃ c G o P d, Rs K c G o σ H ∧ Rp K G v d ∧ γ d o P ∧
  ∀ o' G' σ' H', P o' → Same G G' → Rs K c G' o' σ' H' → (∀ j, j ∉ S → σ'[j]? = σ[j]?) → σ'.length = σ.length → Q σ' H'
def upGs (K : PySem.W.Frag) [Tabled K] (S : List Nat) (γ : FGs) : TGs := fun v σ H Q => ∃ c G o P d, Rs K c G o σ H ∧ RpAll K G v d ∧ γ d o P ∧
  ∀ o' G' σ' H', P o' → Same G G' → Rs K c G' o' σ' H' → (∀ j, j ∉ S → σ'[j]? = σ[j]?) → σ'.length = σ.length → Q σ' H'
theorem PG.imp {X : Cx} {e : Expr} {t t' : TG} (h : PG X e t) (i : ∀ v σ H Q, t' v σ H Q → t v σ H Q) : PG X e t' := ⟨fun pins s σ H v u Q I r q => h.run pins s σ H v u Q I r (i v σ H Q q)⟩
theorem PGs.imp {X : Cx} {e : List Expr} {t t' : TGs} (h : PGs X e t) (i : ∀ v σ H Q, t' v σ H Q → t v σ H Q) : PGs X e t' := ⟨fun pins s σ H v u Q I r q => h.run pins s σ H v u Q I r (i v σ H Q q)⟩
def fgName (i : Nat) : FGt := fun d o P => P (o.put i (.dat d))
theorem fg_name {i : Nat} {x : Str} (hN : X.N.Nodup) (hi : X.N[i]? = some x) (hx : Loc X.env.scope x) (hf : X.fn x = true ∨ X.env.scope.names.lookup x = some .local := by first | exact .inl rfl | exact .inr rfl | assumption) : PG X (.Name x pos) (upG K [i] (fgName i)) := PG.imp (pg_name hN hi hx hf) fun v σ H Q ⟨c, G, o, P, d, r, q, h, k⟩ =>
  k _ G _ H h (Same.refl G) (r.put q) (fun j hj => List.getElem?_set_ne fun z => hj (by rw [z]; exact List.mem_singleton.mpr rfl)) List.length_set
def fgNil : FGs := fun ds o P => match ds with
  | [] => P o
  | _ => False
def fgCons (γ : FGt) (γs : FGs) : FGs := fun ds o P => match ds with
  | d :: r => γ d o fun o1 => γs r o1 P
  | _ => False
theorem fgs_nil : PGs X [] (upGs K [] fgNil) := PGs.imp pgs_nil fun v σ H Q ⟨c, G, o, P, d, r, q, h, k⟩ => by
  cases q with
  | nil => exact ⟨rfl, k o G σ H h (Same.refl G) r (fun _ _ => rfl) rfl⟩
  | cons _ _ => exact h.elim
theorem fgs_cons {S1 S2 : List Nat} {γ : FGt} {γs : FGs} (h1 : PG X e (upG K S1 γ)) (h2 : PGs X es (upGs K S2 γs)) (hs : (assignEach (e :: es) X.env).map (·.2) = assign e X.env :: (assignEach es X.env).map (·.2) := by rfl) : PGs X (e :: es) (upGs K (S1 ++ S2) (fgCons γ γs)) :=
  PGs.imp (pgs_cons h1 h2 hs) fun v σ H Q ⟨c, G, o, P, d, r, q, h, k⟩ => by
    cases q with
    | nil => exact h.elim
    | cons q1 q2 =>
      refine ⟨_, _, rfl, c, G, o, _, _, r, q1, h, fun o1 G1 σ1 H1 p g r1 hS hl => ⟨c, G1, o1, P, _, r1, q2.same g, p, fun o2 G2 σ2 H2 p2 g2 r2 hS2 hl2 => k o2 G2 σ2 H2 p2 (g.trans g2) r2 (fun j hj => ?_) (hl2.trans hl)⟩⟩
      rw [hS2 j fun z => hj (List.mem_append_right _ z), hS j fun z => hj (List.mem_append_left _ z)]
def fgTup (n : Nat) (γs : FGs) : FGt := fun d o P => match d with
  | .tuple ds => ds.length = n ∧ γs ds o P
  | _ => False
def fgUnl (n : Nat) (γs : FGs) : FGt := fun d o P => match d with
  | .list ds => ds.length = n ∧ γs ds o P
  | _ => False
theorem fg_tup {S : List Nat} {γs : FGs} {k : Nat} {n : Nat} (hK : X.K = K) (hc : X.calm = true) (h : PGs X es (upGs K S γs)) (hn : (assignEach es X.env).length = n := by rfl) (hst : (assignEach es X.env).findIdx? (·.1) = none := by rfl) : PG X (.Tuple es k pos) (upG K S (fgTup n γs)) := by
  subst hK
  exact PG.imp (pg_tup hc h hn hst) fun v σ H Q ⟨c, G, o, P, d, r, q, h, k⟩ => by
    unfold fgTup at h
    split at h
    · obtain ⟨a, xs, rfl, h1, h2⟩ := q.tupI
      exact ⟨a, xs, rfl, sqT_same r.sub h1, by rw [h2.len]; exact h.1, c, G, o, P, _, r, h2, h.2, k⟩
    · exact h.elim
theorem fg_unl {S : List Nat} {γs : FGs} {k : Nat} {n : Nat} (hK : X.K = K) (hc : X.calm = true) (h : PGs X es (upGs K S γs)) (hn : (assignEach es X.env).length = n := by rfl) (hst : (assignEach es X.env).findIdx? (·.1) = none := by rfl) : PG X (.Tuple es k pos) (upG K S (fgUnl n γs)) := by
  subst hK
  exact PG.imp (pg_unl hc h hn hst) fun v σ H Q ⟨c, G, o, P, d, r, q, h, k⟩ => by
    unfold fgUnl at h
    split at h
    · obtain ⟨a, xs, rfl, h1, h2⟩ := q.lstI
      exact ⟨a, xs, rfl, SqL.of (r.sub _ _ h1), by rw [h2.len]; exact h.1, c, G, o, P, _, r, h2, h.2, k⟩
    · exact h.elim
def fAsg (τ : FT) (γ : FGt) : FTs := fun E o => τ o fun d o1 => γ d o1 E.nx
theorem fs_asg {tg : Expr} {S : List Nat} {γ : FGt} (he : PE X e (up K τ)) (hg : PG X tg (upG K S γ)) (hs : swapsWithSole [tg] e pos.line X.env = pure false := by rfl) (hw : swappedStores [tg] e X.env = pure none := by rfl)
    (h1 : (assignEach [tg] X.env).map (·.2) = [assign tg X.env] := by rfl) : PS X (.Assign [tg] e pos) (upS K (fAsg τ γ)) := PS.imp (ps_asg he hg hs hw h1) fun D σ H ⟨c, G, o, E, r, h, k⟩ =>
  ⟨c, G, o, _, r, h, fun d o1 G1 v H1 p g r1 q => ⟨c, G1, o1, _, d, r1, q, p, fun o2 G2 σ2 H2 p2 g2 r2 _ _ => k.nx o2 G2 σ2 H2 p2 (g.trans g2) r2⟩⟩
def fPar (i j : Nat) (τs : FTa) : FTs := fun E o => τs o fun ds o1 => match ds with
  | [d, e] => E.nx ((o1.put i (.dat d)).put j (.dat e))
  | _ => False
theorem fs_par {i j : Nat} {x y : Str} {px py pt : Pos} {kt k2 pt2} (hc : X.calm = true) (hN : X.N.Nodup) (hi : X.N[i]? = some x) (hj : X.N[j]? = some y) (hij : i ≠ j)
    (hx : X.env.scope.names.lookup x = some .local) (hy : X.env.scope.names.lookup y = some .local) (ha : PA X [a, b] (upA K τs))
    (hw : swappedStores [.Tuple [.Name x px, .Name y py] kt pt] (.Tuple [a, b] k2 pt2) X.env = pure (some [x,
        y]))
    (hs : swapsWithSole [.Tuple [.Name x px, .Name y py] kt pt] (.Tuple [a, b] k2 pt2) pos.line X.env = pure false := by rfl)
        :
    PS X (.Assign [.Tuple [.Name x px, .Name y py] kt pt] (.Tuple [a, b] k2 pt2) pos) (upS K (fPar i j τs)) := PS.imp (ps_par hc hN hi hj hij hx hy ha hw hs) fun D σ H ⟨c, G, o, E, r, h, k⟩ => ⟨c, G, o, _, r, h, fun ds o1 G1 vs H1 p g r1 q => by
  split at p
  · obtain ⟨v, u, rfl, hv, hu⟩ := q.two
    exact ⟨v, u, rfl, k.nx _ G1 _ H1 p g ((r1.put hv).put hu)⟩
  · exact p.elim⟩
def fPar3 (i j l : Nat) (τs : FTa) : FTs := fun E o => τs o fun ds o1 => match ds with
  | [d, e, f] => E.nx (((o1.put i (.dat d)).put j (.dat e)).put l (.dat f))
  | _ => False
theorem RpAll.three {G : Hp} {vs : List V} {d e f : PyData} (h : RpAll K G vs [d, e, f]) : ∃ v u w, vs = [v, u, w] ∧ Rp K G v d ∧ Rp K G u e ∧ Rp K G w f := by
  cases h with
  | cons h t => obtain ⟨u, w, rfl, k, l⟩ := t.two; exact ⟨_, _, _, rfl, h, k, l⟩
theorem fs_par3 {i j l : Nat} {x y z : Str} {c3 : Expr} {px py pz pt pos : Pos} {kt k2 pt2} (hc : X.calm = true) (hN : X.N.Nodup) (hi : X.N[i]? = some x) (hj : X.N[j]? = some y) (hl : X.N[l]? = some z) (hij : i ≠ j) (hil : i ≠ l) (hjl : j ≠ l)
    (hx : X.env.scope.names.lookup x = some .local) (hy : X.env.scope.names.lookup y = some .local) (hz : X.env.scope.names.lookup z = some .local) (ha : PA X [a, b, c3] (upA K τs))
    (hw : swappedStores [.Tuple [.Name x px, .Name y py, .Name z pz] kt pt] (.Tuple [a, b, c3] k2 pt2) X.env = pure (some [x, y, z]))
    (hs : swapsWithSole [.Tuple [.Name x px, .Name y py, .Name z pz] kt pt] (.Tuple [a, b, c3] k2 pt2) pos.line X.env = pure false := by rfl) :
    PS X (.Assign [.Tuple [.Name x px, .Name y py, .Name z pz] kt pt] (.Tuple [a, b, c3] k2 pt2) pos) (upS K (fPar3 i j l τs)) := PS.imp (ps_par3 hc hN hi hj hl hij hil hjl hx hy hz ha hw hs) fun D σ H ⟨c, G, o, E, r, h, k⟩ => ⟨c, G, o, _, r, h, fun ds o1 G1 vs H1 p g r1 q => by
  split at p
  · obtain ⟨v, u, w, rfl, hv, hu, hw⟩ := q.three
    exact ⟨v, u, w, rfl, k.nx _ G1 _ H1 p g (((r1.put hv).put hu).put hw)⟩
  · exact p.elim⟩
/-! ## a name's own list changes -/
def fApp (i : Nat) (τs : FTa) : FT := fun o P => τs o fun ds o1 => match ds, o1.vs[i]? with
  | [d], some (some (.own (.list xs))) => xs.length < sizeLine ∧ P .none (o1.put i (.own (.list (xs ++ [d]))))
  | _, _ => False
theorem own_list {c : Fc} {G H : Hp} {o : Om} {σ : L2.St} (r : Rs K c G o σ H) {i : Nat} {xs : List PyData} (e : o.vs[i]? = some (some (.own (.list xs)))) : ∃ a vs, σ[i]? = some (some (.ref a)) ∧ H a = some (.lst vs) ∧ RpAll K G vs xs := by
  obtain ⟨v, h1, a, rfl, m⟩ := r.var i _ e
  obtain ⟨vs, h2, h3⟩ := m.at'
  exact ⟨a, vs, h1, h2, h3⟩
def isOwnL (o : Om) (i : Nat) : Prop := ∃ xs, o.vs[i]? = some (some (.own (.list xs)))
theorem fe_append {i : Nat} {o e : Expr} {apos cpos : Pos} (hv : PE X o (tVar i)) (ha : PA X [e] (upA K τs))
    (hbase : attributeBase o "append" X.env (eval o X.env) = eval o X.env := by rfl)
    (hfew : ((backTo cpos (starEach [e] X.env)).all (fun x => !x.1) && (backToKw cpos (keywordEach [] X.env)).all (fun x =>
        x.1.isSome)
      && decide (([e] : List Expr).length + ([] : List Keyword).length + (if ([] : List Keyword).isEmpty then 0 else 1) < 30)) = true := by
          rfl)
    (hline : (apos.endLine == cpos.line) = true := by rfl) (hs : starEach [e] X.env = (false, eval e X.env) :: starEach [] X.env := by rfl) :
    PE X (.Call (.Attribute o "append" apos) [e] [] cpos) (up K fun om P => isOwnL om i ∧ fApp i τs om P) := PE.imp (pe_bm PySem.F.plainAttrs_list PySem.F.slot_list_append PySem.F.type_list_append mt_append hv ha hbase hfew hline hs rfl) fun σ H Q ⟨c, G, om, P, r, ⟨⟨x0, h0⟩, h⟩, k⟩ => by
  obtain ⟨a, vs, h1, h2, h3⟩ := own_list r h0
  refine ⟨_, h1, .inl ⟨rfl, _, SqL.of h2⟩, c, G, om, _, r, h, fun ds o1 G1 ws H1 p g r1 q => ?_⟩
  split at p
  · rename_i d xs hi
    obtain ⟨w, rfl, hw⟩ := q.one
    obtain ⟨a', vs', h4, h5, h6⟩ := own_list r1 hi
    rw [h1] at h4
    cases h4
    refine ⟨a, vs', w, rfl, rfl, h5, by rw [h6.len]; exact p.1, k _ _ G1 _ _ p.2 g (r1.write hi h1 ⟨_, upd_same, h6.append (.cons hw .nil)⟩) .non⟩
  · exact p.elim
def fExt (i : Nat) (τs : FTa) : FT := fun o P => τs o fun ds o1 => match ds, o1.vs[i]? with
  | [.list ys], some (some (.own (.list xs))) => xs.length + ys.length ≤ sizeLine ∧ P .none (o1.put i (.own (.list (xs ++ ys))))
  | _, _ => False
theorem fe_extend {i : Nat} {o e : Expr} {apos cpos : Pos} (hv : PE X o (tVar i)) (ha : PA X [e] (upA K τs))
    (hbase : attributeBase o "extend" X.env (eval o X.env) = eval o X.env := by rfl)
    (hfew : ((backTo cpos (starEach [e] X.env)).all (fun x => !x.1) && (backToKw cpos (keywordEach [] X.env)).all (fun x =>
        x.1.isSome)
      && decide (([e] : List Expr).length + ([] : List Keyword).length + (if ([] : List Keyword).isEmpty then 0 else 1) < 30)) = true := by
          rfl)
    (hline : (apos.endLine == cpos.line) = true := by rfl) (hs : starEach [e] X.env = (false, eval e X.env) :: starEach [] X.env := by rfl) :
    PE X (.Call (.Attribute o "extend" apos) [e] [] cpos) (up K fun om P => isOwnL om i ∧ fExt i τs om P) := PE.imp (pe_bm PySem.F.plainAttrs_list PySem.F.slot_list_extend PySem.F.type_list_extend mt_extend hv ha hbase hfew hline hs rfl) fun σ H Q ⟨c, G, om, P, r, ⟨⟨x0, h0⟩, h⟩, k⟩ => by
  obtain ⟨a, vs, h1, h2, h3⟩ := own_list r h0
  refine ⟨_, h1, .inl ⟨rfl, _, SqL.of h2⟩, c, G, om, _, r, h, fun ds o1 G1 ws H1 p g r1 q => ?_⟩
  split at p
  · rename_i ys xs hi
    obtain ⟨w, rfl, hw⟩ := q.one
    obtain ⟨b, zs, rfl, h7, h8⟩ := hw.lstI
    obtain ⟨a', vs', h4, h5, h6⟩ := own_list r1 hi
    rw [h1] at h4
    cases h4
    refine ⟨a, b, vs', zs, rfl, rfl, h5, r1.sub _ _ h7, by rw [h6.len, h8.len]; exact p.1, k _ _ G1 _ _ p.2 g (r1.write hi h1 ⟨_, upd_same, h6.append h8⟩) .non⟩
  · exact p.elim
def fPopAt (i : Nat) (τs : FTa) : FT := fun o P => τs o fun ds o1 => match ds, o1.vs[i]? with
  | [.int j], some (some (.own (.list xs))) => (-(2 ^ 63) ≤ j ∧ j < 2 ^ 63) ∧ ∃ k d, seqIndex? j xs.length = some k ∧ xs[k]? = some d ∧ P d (o1.put i (.own (.list (xs.eraseIdx k))))
  | _, _ => False
theorem fe_popAt {i : Nat} {o e : Expr} {apos cpos : Pos} (hv : PE X o (tVar i)) (ha : PA X [e] (upA K τs))
    (hbase : attributeBase o "pop" X.env (eval o X.env) = eval o X.env := by rfl)
    (hfew : ((backTo cpos (starEach [e] X.env)).all (fun x => !x.1) && (backToKw cpos (keywordEach [] X.env)).all (fun x =>
        x.1.isSome)
      && decide (([e] : List Expr).length + ([] : List Keyword).length + (if ([] : List Keyword).isEmpty then 0 else 1) < 30)) = true := by
          rfl)
    (hline : (apos.endLine == cpos.line) = true := by rfl) (hs : starEach [e] X.env = (false, eval e X.env) :: starEach [] X.env := by rfl) :
    PE X (.Call (.Attribute o "pop" apos) [e] [] cpos) (up K fun om P => isOwnL om i ∧ fPopAt i τs om P) := PE.imp (pe_bm PySem.F.plainAttrs_list PySem.F.slot_list_pop PySem.F.type_list_pop mt_popAt hv ha hbase hfew hline hs rfl) fun σ H Q ⟨c, G, om, P, r, ⟨⟨x0, h0⟩, h⟩, k⟩ => by
  obtain ⟨a, vs, h1, h2, h3⟩ := own_list r h0
  refine ⟨_, h1, .inl ⟨rfl, _, SqL.of h2⟩, c, G, om, _, r, h, fun ds o1 G1 ws H1 p g r1 q => ?_⟩
  split at p
  · rename_i j xs hi
    obtain ⟨w, rfl, hw⟩ := q.one
    obtain ⟨a', vs', h4, h5, h6⟩ := own_list r1 hi
    rw [h1] at h4
    cases h4
    obtain ⟨⟨p1, p2⟩, kk, d, p3, p4, p5⟩ := p
    obtain ⟨y, p6, p7⟩ := h6.get p4
    refine ⟨a, vs', j, kk, y, rfl, by rw [hw.intI], h5, p1, p2, by rw [h6.len]; exact p3, p6, k _ _ G1 _ _ p5 g (r1.write hi h1 ⟨_, upd_same, h6.eraseIdx kk⟩) p7⟩
  · exact p.elim
def fPop (i : Nat) : FT := fun o P => match o.vs[i]? with
  | some (some (.own (.list xs))) => ∃ d, xs[xs.length - 1]? = some d ∧ P d (o.put i (.own (.list xs.dropLast)))
  | _ => False
theorem RpAll.dropLast {G : Hp} {vs : List V} {ds : List PyData} (h : RpAll K G vs ds) : RpAll K G vs.dropLast ds.dropLast := by
  rw [List.dropLast_eq_take, List.dropLast_eq_take, h.len]
  exact h.take _
theorem fe_pop {i : Nat} {o : Expr} {apos cpos : Pos} (hv : PE X o (tVar i))
    (hbase : attributeBase o "pop" X.env (eval o X.env) = eval o X.env := by rfl) (hline : (apos.endLine == cpos.line) = true := by rfl) :
    PE X (.Call (.Attribute o "pop" apos) [] [] cpos) (up K (fPop i)) := PE.imp (pe_bm0 PySem.F.plainAttrs_list PySem.F.slot_list_pop PySem.F.type_list_pop mt_pop hv hbase hline) fun σ H Q ⟨c, G, om, P, r, h, k⟩ => by
  unfold fPop at h
  split at h
  · rename_i xs hi
    obtain ⟨d, h4, h5⟩ := h
    obtain ⟨a, vs, h1, h2, h3⟩ := own_list r hi
    obtain ⟨y, h6, h7⟩ := h3.get h4
    exact ⟨_, h1, .inl ⟨rfl, _, SqL.of h2⟩, a, vs, y, rfl, rfl, h2, by rw [h3.len]; exact h6, k _ _ G _ _ h5 (Same.refl G) (r.write hi h1 ⟨_, upd_same, h3.dropLast⟩) h7⟩
  · exact h.elim
def fRev (i : Nat) : FT := fun o P => match o.vs[i]? with
  | some (some (.own (.list xs))) => P .none (o.put i (.own (.list xs.reverse)))
  | _ => False
theorem fe_reverse {i : Nat} {o : Expr} {apos cpos : Pos} (hv : PE X o (tVar i))
    (hbase : attributeBase o "reverse" X.env (eval o X.env) = eval o X.env := by rfl) (hline : (apos.endLine == cpos.line) = true := by rfl) :
    PE X (.Call (.Attribute o "reverse" apos) [] [] cpos) (up K (fRev i)) := PE.imp (pe_bm0 PySem.F.plainAttrs_list PySem.F.slot_list_reverse PySem.F.type_list_reverse mt_reverse hv hbase hline) fun σ H Q ⟨c, G, om, P, r, h, k⟩ => by
  unfold fRev at h
  split at h
  · rename_i xs hi
    obtain ⟨a, vs, h1, h2, h3⟩ := own_list r hi
    exact ⟨_, h1, .inl ⟨rfl, _, SqL.of h2⟩, a, vs, rfl, rfl, h2, k _ _ G _ _ h (Same.refl G) (r.write hi h1 ⟨_, upd_same, h3.reverse⟩) .non⟩
  · exact h.elim
/-- a name's own list, looked at where it stands: len(x), x[i] -/
def fLenO (i : Nat) : FT := fun o P => match o.vs[i]? with
  | some (some (.own (.list xs))) => P (.int xs.length) o
  | _ => False
def fIxO (i : Nat) (τ : FT) : FT := fun o P => τ o fun x o1 => match o1.vs[i]?, x with
  | some (some (.own (.list xs))), .int j => ∃ d, atI xs j = some d ∧ P d o1
  | _, _ => False
theorem fe_lenO {i : Nat} {p : Pos} (hv : PE X e (tVar i)) (hg : Gl X "len") (hm : X.mg "len" = none) (he : starEach [e] X.env = (false, eval e X.env) :: starEach [] X.env := by rfl) : PE X (.Call (.Name "len" p) [e] [] pos) (up K (fLenO i)) := PE.imp (pe_callB call_len_seq hg hm PySem.boot_len (pa_cons hv pa_nil he) (by decide) (by decide) he rfl) fun σ H Q ⟨c, G, om, P, r, h, k⟩ => by
  unfold fLenO at h
  split at h
  · rename_i xs hi
    obtain ⟨a, vs, h1, h2, h3⟩ := own_list r hi
    refine ⟨_, h1, a, vs, rfl, .inl (SqL.of h2), ?_⟩
    rw [h3.len]
    exact k _ om G _ H h (Same.refl G) r (.int _)
  · exact h.elim
theorem fe_ixO {i : Nat} (hv : PE X a (tVar i)) (hb : PE X b (up K τb)) (hs : PlainIx b := by exact fun _ _ => rfl) : PE X (.Subscript a b pos) (up K fun om P => isOwnL om i ∧ fIxO i τb om P) := PE.imp (pe_ix ix_list hv hb hs) fun σ H Q ⟨c, G, om, P, r, ⟨⟨x0, h0⟩, h⟩, k⟩ => by
  obtain ⟨a, vs, h1, h2, h3⟩ := own_list r h0
  refine ⟨_, h1, c, G, om, _, r, h, fun d o1 G1 v H1 p g r1 q => ?_⟩
  split at p
  · rename_i xs j hi
    obtain ⟨d, p1, p2⟩ := p
    obtain ⟨a', vs', h4, h5, h6⟩ := own_list r1 hi
    rw [h1] at h4
    cases h4
    obtain ⟨w, h7, h8⟩ := atI_rp h6 p1
    exact ⟨a, vs', j, w, rfl, q.intI, SqL.of h5, h7, k _ o1 G1 _ H1 p2 g r1 h8⟩
  · exact p.elim
/-- x[i] = e, x of one's own -/
def fSubL (i : Nat) (τe τi : FT) : FTs := fun E o => τe o fun d o1 => isOwnL o1 i ∧ τi o1 fun k o2 => match o2.vs[i]?, k with
  | some (some (.own (.list xs))), .int j => ∃ n, ixN xs.length j = some n ∧ E.nx (o2.put i (.own (.list (xs.set n d))))
  | _, _ => False
theorem fs_subL {i : Nat} {o ix : Expr} {p : Pos} {τi : FT} (he : PE X e (up K τ)) (hv : PE X o (tVar i)) (hi : PE X ix (up K τi))
    (ha : ∀ v, assign (.Subscript o ix p) X.env v = (do
      let ov ← holding [v] (eval o
          X.env)
      let iv ← holding [v, ov] (eval ix X.env)
      standAt p
      holding [v, ov, iv] (setItem ov iv
          v)
      release [v, ov, iv] []) := by intro _; rfl)
    (hs : swapsWithSole [.Subscript o ix p] e pos.line X.env = pure false := by rfl) (hw : swappedStores [.Subscript o ix p] e X.env = pure none := by rfl)
    (h1 : (assignEach [.Subscript o ix p] X.env).map (·.2) = [assign (.Subscript o ix p) X.env] := by rfl) : PS X (.Assign [.Subscript o ix p] e pos) (upS K (fSubL i τ τi)) := PS.imp (ps_asg he (pg_sub hv hi set_list ha) hs hw h1) fun D σ H ⟨c, G, om, E, r, h, k⟩ =>
  ⟨c, G, om, _, r, h, fun d o1 G1 v H1 ⟨⟨x0, h0⟩, p⟩ g r1 q => by
    obtain ⟨a, vs, h1, h2, h3⟩ := own_list r1 h0
    refine ⟨_, h1, c, G1, o1, _, r1, p, fun kd o2 G2 u H2 p2 g2 r2 q2 => ?_⟩
    split at p2
    · rename_i xs j hj
      obtain ⟨n, p3, p4⟩ := p2
      obtain ⟨a', vs', h4, h5, h6⟩ := own_list r2 hj
      rw [h1] at h4
      cases h4
      exact ⟨a, vs', j, n, rfl, q2.intI, h5, by rw [h6.len]; exact p3, k.nx _ G2 σ _ p4 (g.trans g2) (r2.write hj h1 ⟨_, upd_same, h6.set (q.same g2) n⟩)⟩
    · exact p2.elim⟩
end
end Lf

set_option maxRecDepth 100000
set_option maxHeartbeats 3900000
namespace Lf
open PySem PySem.Spec PyProof.Rows L2 K
/-! # loops, comprehensions -/
section
variable {X : Cx} {K : PySem.W.Frag} [Tabled K] {a b e : Expr} {τa τb τ : FT} {pos : Pos} {es : List Expr} {τs : FTa}
abbrev FI := Om → (List PyData → Om → Prop) → Prop
/-- what one turn yields -/
def Yd (K : PySem.W.Frag) (ds : List PyData) (G : Hp) (i : Nat) (H : Hp) (x : V) (H' : Hp) : Prop := ∃ d, ds[i]? = some d ∧ ((H' = H ∧ Rp K G x d) ∨ ∃ T xs es, x = .ref T ∧ H T = none ∧ H' = upd H T (.tup xs) ∧ d = .tuple es ∧ RpAll K G xs es)
def FW (K : PySem.W.Frag) (J : It) (ds : List PyData) (G : Hp) : Prop := Walk J ds.length (fun H => Same G H) (Yd K ds G)
def upI (K : PySem.W.Frag) [Tabled K] (ι : FI) : TI := fun σ H R => ∃ c G o P, Rs K c G o σ H ∧ ι o P ∧ ∀ ds o' G' J H', P ds o' → Same G G' → Rs K c G' o' σ H' → FW K J ds G' → R J H'
theorem PI.imp {X : Cx} {tg e : Expr} {t t' : TI} (h : PI X tg e t) (i : ∀ σ H Q, t' σ H Q → t σ H Q) : PI X tg e t' := ⟨fun pins s σ H Q I q => h.run pins s σ H Q I (i σ H Q q)⟩
def fiL (τ : FT) : FI := fun o P => τ o fun d o1 => match d with
  | .list ds => P ds o1
  | _ => False
def fiT (τ : FT) : FI := fun o P => τ o fun d o1 => match d with
  | .tuple ds => P ds o1
  | _ => False
variable {tg : Expr}
theorem fi_list (hK : X.K = K) (h : PE X e (up K τ)) : PI X tg e (upI K (fiL τ)) := by
  subst hK
  exact PI.imp (pi_list h) fun σ H R ⟨c, G, o, P, r, t, k⟩ => ⟨c, G, o, _, r, t, fun d o1 G1 v H1 p g r1 q => by
    split at p
    · obtain ⟨a, xs, rfl, h1, h2⟩ := q.lstI
      refine ⟨a, rfl, ⟨xs, SqL.of (r1.sub _ _ h1)⟩, k _ o1 G1 _ H1 p g r1 ?_⟩
      unfold FW
      rw [← h2.len]
      refine walk_list.mono (fun H s => SqL.of (s _ _ h1)) fun i H x H' hi s y => ?_
      obtain ⟨d, h3, h4⟩ := h2.at y.2
      exact ⟨d, h3, .inl ⟨y.1, h4⟩⟩
    · exact p.elim⟩
theorem fi_tup (hK : X.K = K) (h : PE X e (up K τ)) : PI X tg e (upI K (fiT τ)) := by
  subst hK
  exact PI.imp (pi_tup h) fun σ H R ⟨c, G, o, P, r, t, k⟩ => ⟨c, G, o, _, r, t, fun d o1 G1 v H1 p g r1 q => by
    split at p
    · obtain ⟨a, xs, rfl, h1, h2⟩ := q.tupI
      refine ⟨a, rfl, ⟨xs, sqT_same r1.sub h1⟩, k _ o1 G1 _ H1 p g r1 ?_⟩
      unfold FW
      rw [← h2.len]
      refine walk_tup.mono (fun H s => sqT_same s h1) fun i H x H' hi s y => ?_
      obtain ⟨d, h3, h4⟩ := h2.at y.2
      exact ⟨d, h3, .inl ⟨y.1, h4⟩⟩
    · exact p.elim⟩
def rngD (lo : Int) (n : Nat) : List PyData := (List.range n).map fun i => .int (lo + (i : Nat))
theorem rngD_at {lo : Int} {n i : Nat} (h : i < n) : (rngD lo n)[i]? = some (.int (lo + (i : Nat))) := by
  unfold rngD
  rw [List.getElem?_map, List.getElem?_range h]
  rfl
theorem rngD_len {lo : Int} {n : Nat} : (rngD lo n).length = n := by unfold rngD; rw [List.length_map, List.length_range]
theorem fw_range {lo : Int} {n : Nat} {G : Hp} : FW K (Itr lo n) (rngD lo n) G := by
  unfold FW
  rw [rngD_len]
  refine walk_range.mono (fun _ _ => trivial) fun i H x H' hi s y => ?_
  exact ⟨_, rngD_at hi, .inl ⟨y.1, by rw [y.2]; exact .int _⟩⟩
def fiR1 (τs : FTa) : FI := fun o P => τs o fun ds o1 => match ds with
  | [.int j] => (-(2 ^ 62) ≤ j ∧ j < 2 ^ 62) ∧ P (rngD 0 j.toNat) o1
  | _ => False
def fiR2 (τs : FTa) : FI := fun o P => τs o fun ds o1 => match ds with
  | [.int i, .int j] => (-(2 ^ 62) ≤ i ∧ i < 2 ^ 62 ∧ -(2 ^ 62) ≤ j ∧ j < 2 ^ 62) ∧ P (rngD i (j - i).toNat) o1
  | _ => False
theorem fi_range1 {p pos : Pos} (hg : Gl X "range") (hm : X.mg "range" = none) (ha : PA X [a] (upA K τs)) (hs : starEach [a] X.env = [(false, eval a X.env)] := by rfl) : PI X tg (.Call (.Name "range" p) [a] [] pos) (upI K (fiR1 τs)) := PI.imp (pi_range1 hg hm ha hs) fun σ H R ⟨c, G, o, P, r, t, k⟩ =>
  ⟨c, G, o, _, r, t, fun ds o1 G1 vs H1 p g r1 q => by
    split at p
    · obtain ⟨v, rfl, hv⟩ := q.one
      exact ⟨_, by rw [hv.intI], p.1.1, p.1.2, k _ o1 G1 _ H1 p.2 g r1 fw_range⟩
    · exact p.elim⟩
theorem fi_range2 {p pos : Pos} (hg : Gl X "range") (hm : X.mg "range" = none) (ha : PA X [a, b] (upA K τs)) (hs : starEach [a, b] X.env = [(false, eval a X.env), (false, eval b X.env)] := by rfl) (hs2 : starEach [b] X.env = [(false, eval b X.env)] := by rfl) : PI X tg (.Call (.Name "range" p) [a, b] [] pos) (upI K (fiR2 τs)) := PI.imp (pi_range2 hg hm ha hs hs2) fun σ H R ⟨c, G, o, P, r, t, k⟩ =>
  ⟨c, G, o, _, r, t, fun ds o1 G1 vs H1 p g r1 q => by
    split at p
    · obtain ⟨v, u, rfl, hv, hu⟩ := q.two
      exact ⟨_, _, by rw [hv.intI, hu.intI], p.1, k _ o1 G1 _ H1 p.2 g r1 fw_range⟩
    · exact p.elim⟩
/-- lists (false), tuples (true) -/
def sqD (m : Bool) : PyData → Option (List PyData)
  | .list xs => if m then none else some xs
  | .tuple xs => if m then some xs else none
  | _ => none
theorem sq_d {G : Hp} {m : Bool} {v : V} {d : PyData} {ds : List PyData} (h : Rp K G v d) (e : sqD m d = some ds) : ∃ a xs, v = .ref a ∧ RpAll K G xs ds ∧ ∀ H, Same G H → Zm.Sq K m H a xs := by
  cases m with
  | false =>
    cases d with
    | list xs =>
      cases e
      obtain ⟨a, xs, rfl, h1, h2⟩ := h.lstI
      exact ⟨a, xs, rfl, h2, fun H s => SqL.of (s _ _ h1)⟩
    | _ => cases e
  | true =>
    cases d with
    | tuple xs =>
      cases e
      obtain ⟨a, xs, rfl, h1, h2⟩ := h.tupI
      exact ⟨a, xs, rfl, h2, fun H s => sqT_same s h1⟩
    | _ => cases e
def zipD (xs ys : List PyData) : List PyData := (xs.zip ys).map fun p => .tuple [p.1, p.2]
def enumD (xs : List PyData) : List PyData := xs.zipIdx.map fun p => .tuple [.int (p.2 : Nat), p.1]
def fiZ (m k : Bool) (τs : FTa) : FI := fun o P => τs o fun ds o1 => match ds with
  | [x, y] => ∃ xs ys, sqD m x = some xs ∧ sqD k y = some ys ∧ P (zipD xs ys) o1
  | _ => False
def fiE (m : Bool) (τs : FTa) : FI := fun o P => τs o fun ds o1 => match ds with
  | [x] => ∃ xs, sqD m x = some xs ∧ P (enumD xs) o1
  | _ => False
theorem zipD_len {xs ys : List PyData} : (zipD xs ys).length = min xs.length ys.length := by unfold zipD; rw [List.length_map, List.length_zip]
theorem zipD_at {xs ys : List PyData} {i : Nat} {x y : PyData} (h1 : xs[i]? = some x) (h2 : ys[i]? = some y) : (zipD xs ys)[i]? = some (.tuple [x, y]) := by
  unfold zipD
  have : (xs.zip ys)[i]? = some (x, y) := List.getElem?_zip_eq_some.mpr ⟨h1, h2⟩
  rw [List.getElem?_map, this]
  rfl
theorem enumD_len {xs : List PyData} : (enumD xs).length = xs.length := by unfold enumD; rw [List.length_map, List.length_zipIdx]
theorem enumD_at {xs : List PyData} {i : Nat} {x : PyData} (h1 : xs[i]? = some x) : (enumD xs)[i]? = some (.tuple [.int (i : Nat), x]) := by
  unfold enumD
  rw [List.getElem?_map, List.getElem?_zipIdx, h1]
  simp
theorem fi_zip (m k : Bool) (hK : X.K = K) {e2 : Expr} {p pos tp : Pos} {es : List Expr} {kk : Nat} (hg : Gl X "zip") (hm : X.mg "zip" = none) (ha : PA X [e, e2] (upA K τs))
    (hs : starEach [e, e2] X.env = (false, eval e X.env) :: starEach [e2] X.env := by rfl) (hpl : (backTo pos (starEach [e2] X.env)).any (·.1) = false := by rfl) : PI X (.Tuple es kk tp) (.Call (.Name "zip" p) [e, e2] [] pos) (upI K (fiZ m k τs)) := by
  subst hK
  exact PI.imp (Zm.pi_zipM m k hg hm ha hs hpl) fun σ H R ⟨c, G, o, P, r, t, kk⟩ => ⟨c, G, o, _, r, t, fun ds o1 G1 vs H1 p g r1 q => by
    split at p
    · obtain ⟨xs, ys, e1, e2, p⟩ := p
      obtain ⟨v, u, rfl, hv, hu⟩ := q.two
      obtain ⟨a, us, rfl, h1, h2⟩ := sq_d hv e1
      obtain ⟨b, ws, rfl, h3, h4⟩ := sq_d hu e2
      refine ⟨a, b, us, ws, rfl, h2 _ r1.sub, h4 _ r1.sub, kk _ o1 G1 _ H1 p g r1 ?_⟩
      unfold FW
      refine (Zm.walk (n := (zipD xs ys).length) (by rw [zipD_len, h1.len, h3.len])).mono (fun H s => ⟨h2 _ s, h4 _ s⟩) fun i H x H' hi s y => ?_
      obtain ⟨T, x1, x2, e3, e4, e5, e6, e7⟩ := y
      obtain ⟨d1, e8, r8⟩ := h1.at e6
      obtain ⟨d2, e9, r9⟩ := h3.at e7
      exact ⟨_, zipD_at e8 e9, .inr ⟨T, _, _, e3, e4, e5, rfl, .cons r8 (.cons r9 .nil)⟩⟩
    · exact p.elim⟩
theorem fi_enum (m : Bool) (hK : X.K = K) {p pos tp : Pos} {es : List Expr} {kk : Nat} (hg : Gl X "enumerate") (hm : X.mg "enumerate" = none) (ha : PA X [e] (upA K τs)) (hs : starEach [e] X.env = [(false, eval e X.env)] := by rfl) : PI X (.Tuple es kk tp) (.Call (.Name "enumerate" p) [e] [] pos) (upI K (fiE m τs)) := by
  subst hK
  exact PI.imp (Zm.pi_enumM m hg hm ha hs) fun σ H R ⟨c, G, o, P, r, t, kk⟩ => ⟨c, G, o, _, r, t, fun ds o1 G1 vs H1 p g r1 q => by
    split at p
    · obtain ⟨xs, e1, p⟩ := p
      obtain ⟨v, rfl, hv⟩ := q.one
      obtain ⟨a, us, rfl, h1, h2⟩ := sq_d hv e1
      refine ⟨a, us, rfl, h2 _ r1.sub, kk _ o1 G1 _ H1 p g r1 ?_⟩
      unfold FW
      rw [enumD_len, ← h1.len]
      refine Zm.walkE.mono (fun H s => h2 _ s) fun i H x H' hi s y => ?_
      obtain ⟨T, x1, x2, e3, e4, e5, e6, e7⟩ := y
      obtain ⟨d2, e9, r9⟩ := h1.at e7
      cases e6
      exact ⟨_, enumD_at e9, .inr ⟨T, _, _, e3, e4, e5, rfl, .cons (.int _) (.cons r9 .nil)⟩⟩
    · exact p.elim⟩
/-- what a turn yields stays -/
theorem Yd.keep {c : Fc} {G0 G H H' : Hp} {o : Om} {σ : L2.St} {ds : List PyData} {i : Nat} {x : V} (y : Yd K ds G0 i H x H') (g : Same G0 G) (r : Rs K c G o σ H) : ∃ d G', ds[i]? = some d ∧ Same G G' ∧ Rs K c G' o σ H' ∧ Rp K G' x d := by
  obtain ⟨d, e, ⟨rfl, h⟩ | ⟨T, xs, es, rfl, hT, rfl, rfl, h⟩⟩ := y
  · exact ⟨d, G, e, Same.refl G, r, h.same g⟩
  · obtain ⟨r', g'⟩ := r.alloc hT (.tup xs)
    exact ⟨_, _, e, g', r', .tup (SqT.of upd_same) (h.same (g.trans g'))⟩
/-- for, by what holds ahead of each turn -/
def fFor (ι : FI) (γ : FGt) (t : FTs) : FTs := fun E o => ι o fun ds o1 => ∃ I : Nat → Om → Prop, I 0 o1 ∧ (∀ i d o, ds[i]? = some d → I i o → γ d o fun o2 => t { E with nx := I (i + 1), ct := I (i + 1), bk := E.nx } o2) ∧ ∀ o, I ds.length o → E.nx o
variable {ι : FI} {γ : FGt} {t u : FTs} {S : List Nat} {body : List Stmt}
theorem fs_for {iter : Expr} (hi : PI X tg iter (upI K ι)) (hg : PG X tg (upG K S γ)) (hb : PSs X body (upS K t)) (hp : PassesOwn (model X.prog X.w) X.A X.env X.xe) (hc : X.calm = true)
    (hs : ∀ x, foldedSetIterable iter X.env x = pure x := by intro _; rfl) : PS X (.For tg iter body [] pos) (upS K (fFor ι γ t)) := PS.imp (ps_for hp hc hi hg hb hs) fun D σ H ⟨c, G, o, E, r, h, k⟩ =>
  ⟨c, G, o, _, r, h, fun ds o1 G1 J H1 ⟨I, i0, is, id⟩ g r1 fw => for_it fw (fun i σ H => ∃ G2 o2, Same G1 G2 ∧ Rs K c G2 o2 σ H ∧ I i o2) ⟨G1, o1, Same.refl G1, r1, i0⟩ (fun i σ H _ ⟨G2, o2, g2, r2, _⟩ => g2.trans r2.sub)
    (fun i x σ2 H2 H3 hi ⟨G2, o2, g2, r2, hI⟩ y => by
      obtain ⟨d, G3, e, g3, r3, q3⟩ := y.keep g2 r2
      refine ⟨c, G3, o2, _, d, r3, q3, is i d o2 e hI, fun o4 G4 σ4 H4 p4 g4 r4 _ _ => ?_⟩
      have gg := ((g.trans g2).trans g3).trans g4
      exact ⟨c, G4, o4, _, r4, p4, ⟨fun o' G' σ' H' p s r' => ⟨G', o', ((g2.trans g3).trans g4).trans s, r', p⟩, (k.grow gg).rt, (k.grow gg).ro, (k.grow gg).nx, fun o' G' σ' H' p s r' => ⟨G', o', ((g2.trans g3).trans g4).trans s, r', p⟩, (k.grow gg).rf⟩⟩)
    fun σ2 H2 ⟨G2, o2, g2, r2, hI⟩ => k.nx o2 G2 σ2 H2 (id o2 hI) (g.trans g2) r2⟩
/-- while, by what holds ahead of each turn and a number that falls -/
def fWhile (ct : FTt) (t : FTs) : FTs := fun E o => ∃ I : Nat → Om → Prop, (∃ m, I m o) ∧ ∀ m o, I m o → ct o fun b o1 => if b = true then t { E with nx := fun o2 => ∃ m', m' < m ∧ I m' o2, ct := fun o2 => ∃ m', m' < m ∧ I m' o2, bk := E.nx } o1 else E.nx o1
variable {ct : FTt}
theorem fs_while {cnd : Expr} (hcn : PT X cnd (upT K ct)) (hb : PSs X body (upS K t)) (hp : PassesOwn (model X.prog X.w) X.A X.env X.xe) : PS X (.While cnd body [] pos) (upS K (fWhile ct t)) := PS.imp (ps_while hp hcn hb) fun D σ H ⟨c, G, o, E, r, ⟨I, ⟨m0, i0⟩, is⟩, k⟩ => by
  refine ⟨fun m σ H => ∃ G2 o2, Same G G2 ∧ Rs K c G2 o2 σ H ∧ I m o2, ⟨m0, G, o, Same.refl G, r, i0⟩, fun m σ2 H2 ⟨G2, o2, g2, r2, hI⟩ => ⟨c, G2, o2, _, r2, is m o2 hI, fun b o3 G3 H3 p3 g3 r3 => ?_⟩⟩
  cases b with
  | false => exact k.nx o3 G3 _ H3 p3 (g2.trans g3) r3
  | true =>
    have gg := g2.trans g3
    refine ⟨fun σ' H' => ∃ m', m' < m ∧ ∃ G4 o4, Same G G4 ∧ Rs K c G4 o4 σ' H' ∧ I m' o4, fun σ' H' z => z, c, G3, o3, _, r3, p3, ⟨fun o' G' σ' H' p s r' => ?_, (k.grow gg).rt, (k.grow gg).ro, (k.grow gg).nx, fun o' G' σ' H' p s r' => ?_, (k.grow gg).rf⟩⟩
    · obtain ⟨m', hm, hI'⟩ := p
      exact ⟨m', hm, G', o', gg.trans s, r', hI'⟩
    · obtain ⟨m', hm, hI'⟩ := p
      exact ⟨m', hm, G', o', gg.trans s, r', hI'⟩
/-! ## something held beside -/
def Fc.hold (c : Fc) (D : Addr) (x : HO) : Fc := { c with H0 := upd c.H0 D x }
/-- D is held: nobody else has it -/
structure Free (c : Fc) (G : Hp) (o : Om) (σ : L2.St) (D : Addr) : Prop where
  g : G D = none
  g0 : c.G0 D = none
  h0 : c.H0 D = none
  t : c.T ≠ some D
  ap : Apart o σ D
theorem Rs.hold {c : Fc} {G H : Hp} {o : Om} {σ : L2.St} (r : Rs K c G o σ H) {D : Addr} {x : HO} (f : Free c G o σ D) (e : H D = some x) : Rs K (c.hold D x) G o σ H where
  sub := r.sub
  g0 := r.g0
  gn := fun a y h => by
    rcases r.gn a y h with z | z
    · exact .inl z
    · refine .inr ?_
      show upd c.H0 D x a = none
      rw [upd_ne fun q => by rw [q, f.g] at h; cases h]
      exact z
  tabs := r.tabs
  toff := r.toff
  old := fun a y h n n2 => by
    have h : upd c.H0 D x a = some y := h
    by_cases q : a = D
    · subst q
      rw [upd_same] at h
      cases h
      exact e
    · rw [upd_ne q] at h
      exact r.old a y h n n2
  tape := fun t ht => ⟨(r.tape t ht).1, by
    show upd c.H0 D x t ≠ none
    rw [upd_ne fun q => f.t (by rw [← q]; exact ht)]
    exact (r.tape t ht).2.1, (r.tape t ht).2.2⟩
  len := r.len
  var := fun i w h => by
    obtain ⟨v, h1, h2⟩ := r.var i w h
    refine ⟨v, h1, ?_⟩
    cases w with
    | dat d => exact h2
    | oth k =>
      cases k with
      | none => exact h2
      | some ns => exact h2
    | own d =>
      obtain ⟨a, rfl, m⟩ := h2
      refine ⟨a, rfl, m.off, ?_, m.at'⟩
      show upd c.H0 D x a = none
      rw [upd_ne fun q => f.ap i d h (by rw [← q]; exact h1)]
      exact m.new
  dis := r.dis
theorem Rs.unhold {c : Fc} {G H : Hp} {o : Om} {σ : L2.St} {D : Addr} {x : HO} (r : Rs K (c.hold D x) G o σ H) (g0 : c.G0 D = none) (h0 : c.H0 D = none) (t : c.T ≠ some D) (nt : ¬ tabA K D) : Rs K c G o σ H ∧ Free c G o σ D ∧ H D = some x := by
  have gD : G D = none := by
    cases e : G D with
    | none => rfl
    | some y =>
      rcases r.gn D y e with z | z
      · rw [show c.G0 D = some y from z] at g0
        cases g0
      · have z : upd c.H0 D x D = none := z
        rw [upd_same] at z
        cases z
  have off : ∀ a, (c.hold D x).H0 a = none → a ≠ D ∧ c.H0 a = none := fun a h => by
    have h : upd c.H0 D x a = none := h
    have n : a ≠ D := fun q => by rw [q, upd_same] at h; cases h
    rw [upd_ne n] at h
    exact ⟨n, h⟩
  refine ⟨⟨r.sub, r.g0, fun a y h => (r.gn a y h).imp id fun z => (off a z).2, fun a y h n n2 => r.old a y (show upd c.H0 D x a = some y by rw [upd_ne (ne_of_none h h0)]; exact h) n n2, fun t' ht => ⟨(r.tape t' ht).1, ?_, (r.tape t' ht).2.2⟩, r.len, fun i w h => ?_, r.dis, r.tabs, r.toff⟩, ⟨gD, g0, h0, t, fun j e h1 h2 => ?_⟩, ?_⟩
  · have q : upd c.H0 D x t' ≠ none := (r.tape t' ht).2.1
    rwa [upd_ne fun z => t (by rw [← z]; exact ht)] at q
  · obtain ⟨v, h1, h2⟩ := r.var i w h
    refine ⟨v, h1, ?_⟩
    cases w with
    | dat d => exact h2
    | oth k =>
      cases k with
      | none => exact h2
      | some ns => exact h2
    | own d =>
      obtain ⟨a, rfl, m⟩ := h2
      exact ⟨a, rfl, m.off, (off a m.new).2, m.at'⟩
  · obtain ⟨v, h3, a, rfl, m⟩ := r.var j _ h1
    rw [h2] at h3
    cases h3
    exact (off _ m.new).1 rfl
  · exact r.old D x (show upd c.H0 D x D = some x from upd_same) t nt
theorem Rs.held {c : Fc} {G H : Hp} {o : Om} {σ : L2.St} {D : Addr} {x : HO} (y : HO) (r : Rs K c G o σ H) (f : Free c G o σ D) (e : H D = some x) (hx : (∃ xs, x = .lst xs) ∨ ∃ xs, x = .dK xs) : Rs K (c.hold D y) G o σ (upd H D y) := by
  refine Rs.hold (x := y) ⟨fun a z h => ?_, r.g0, r.gn, fun a z h n n2 => ?_, fun t ht => ⟨(r.tape t ht).1, (r.tape t ht).2.1, ?_⟩, r.len, fun i w h => ?_, r.dis, r.tabs.but (a := D) (fun b o e n => by rw [upd_ne n]; exact e) (hx.imp (fun ⟨xs, q⟩ => ⟨xs, by rw [e, q]⟩) fun ⟨xs, q⟩ => .inl ⟨xs, by rw [e, q]⟩), r.toff⟩ f upd_same
  · rw [upd_ne (ne_of_none h f.g)]
    exact r.sub a z h
  · rw [upd_ne (ne_of_none h f.h0)]
    exact r.old a z h n n2
  · obtain ⟨p, q, s, e, z⟩ := (r.tape t ht).2.2
    exact ⟨p, q, s, by rw [upd_ne fun q => f.t (by rw [← q]; exact ht)]; exact e, z⟩
  · obtain ⟨v, h1, h2⟩ := r.var i w h
    refine ⟨v, h1, ?_⟩
    cases w with
    | dat d => exact h2
    | oth k =>
      cases k with
      | none => exact h2
      | some ns => exact h2
    | own d =>
      obtain ⟨a, rfl, m⟩ := h2
      exact ⟨a, rfl, m.off, m.new, m.at'.grow (Same.refl G) fun z hz => by rw [upd_ne fun q => f.ap i d h (by rw [← q]; exact h1)]; exact hz⟩
/-! ## names that a comprehension has for itself -/
def Om.wipe (o : Om) : List Nat → Om
  | [] => o
  | v :: vs => (o.wipe vs).off v
theorem Rs.wipe {c : Fc} {G H : Hp} {o : Om} {σ : L2.St} (r : Rs K c G o σ H) : ∀ vs : List Nat, Rs K c G (o.wipe vs) (L2.wipe σ vs) H
  | [] => r
  | v :: vs => by
    have q := (Rs.wipe r vs).offO v
    refine ⟨q.sub, q.g0, q.gn, q.old, q.tape, by show ((L2.wipe σ vs).set v none).length = _; rw [List.length_set]; exact q.len, fun i w h => ?_, fun i j d e a ne h1 h2 h3 => ?_, q.tabs, q.toff⟩
    · obtain ⟨u, h1, h2⟩ := q.var i w h
      have n : i ≠ v := fun z => by
        rcases set_some h with ⟨_, e2⟩ | ⟨n1, _⟩
        · cases e2
        · exact n1 z
      exact ⟨u, by show ((L2.wipe σ vs).set v none)[i]? = _; rw [List.getElem?_set_ne (Ne.symm n)]; exact h1, h2⟩
    · have h3 : ((L2.wipe σ vs).set v none)[i]? = some (some (.ref a)) := h3
      rcases set_some h3 with ⟨_, e2⟩ | ⟨_, e3⟩
      · cases e2
      intro h4
      have h4 : ((L2.wipe σ vs).set v none)[j]? = some (some (.ref a)) := h4
      rcases set_some h4 with ⟨_, e2⟩ | ⟨_, e4⟩
      · cases e2
      exact q.dis i j d e a ne h1 h2 e3 e4
theorem wipe_off {o : Om} {i : Nat} {w : Ho} : ∀ {vs : List Nat}, (o.wipe vs).vs[i]? = some (some w) → i ∉ vs
  | [], _ => by simp
  | v :: vs, h => by
    rcases set_some h with ⟨_, e2⟩ | ⟨n1, e1⟩
    · cases e2
    · exact fun z => (List.mem_cons.mp z).elim n1 (wipe_off e1)
/-- back to the names around -/
theorem Rs.around {c : Fc} {G H : Hp} {o : Om} {σ σ' : L2.St} {vs : List Nat} (r : Rs K c G (o.wipe vs) (L2.wipe σ vs) H) (e : L2.wipe σ vs = L2.wipe σ' vs) : Rs K c G (o.wipe vs) σ' H := by
  rw [e] at r
  have at' : ∀ {i w}, (o.wipe vs).vs[i]? = some (some w) → (L2.wipe σ' vs)[i]? = σ'[i]? := fun h => wipe_out (wipe_off h)
  refine ⟨r.sub, r.g0, r.gn, r.old, r.tape, by rw [← r.len, wipe_length], fun i w h => ?_, fun i j d e a ne h1 h2 h3 => ?_, r.tabs, r.toff⟩
  · obtain ⟨v, h1, h2⟩ := r.var i w h
    exact ⟨v, by rw [← at' h]; exact h1, h2⟩
  · rw [← at' h2]
    exact r.dis i j d e a ne h1 h2 (by rw [at' h1]; exact h3)
theorem wipe_eq {σ σ' : L2.St} {S vs : List Nat} (h : ∀ j, j ∉ S → σ'[j]? = σ[j]?) (hl : σ'.length = σ.length) (sub : ∀ j ∈ S, j ∈ vs) : L2.wipe σ' vs = L2.wipe σ vs := by
  apply List.ext_getElem?
  intro j
  by_cases hj : j ∈ vs
  · have key : ∀ (ws : List Nat) (τ : L2.St), j ∈ ws → (L2.wipe τ ws)[j]? = if j < τ.length then some none else none := by
      intro ws
      induction ws with
      | nil => intro τ h; cases h
      | cons v ws ih =>
        intro τ hm
        show ((L2.wipe τ ws).set v none)[j]? = _
        by_cases e : v = j
        · subst e
          rw [List.getElem?_set]
          simp [wipe_length]
        · rw [List.getElem?_set_ne e]
          exact ih τ ((List.mem_cons.mp hm).resolve_left fun z => e z.symm)
    rw [key vs σ' hj, key vs σ hj, hl]
  · rw [wipe_out hj, wipe_out hj]
    exact h j fun z => hj (sub j z)
theorem wipe_wipe (σ : L2.St) (vs : List Nat) : L2.wipe (L2.wipe σ vs) vs = L2.wipe σ vs := by
  have key : ∀ (ws : List Nat), (∀ j ∈ ws, j ∈ vs) → L2.wipe (L2.wipe σ vs) ws = L2.wipe σ vs := by
    intro ws
    induction ws with
    | nil => intro _; rfl
    | cons v ws ih =>
      intro h
      show (L2.wipe (L2.wipe σ vs) ws).set v none = _
      rw [ih fun j hj => h j (List.mem_cons_of_mem _ hj)]
      have hv : v ∈ vs := h v List.mem_cons_self
      apply List.ext_getElem?
      intro j
      by_cases e : v = j
      · subst e
        by_cases l : v < (L2.wipe σ vs).length
        · rw [List.getElem?_set_self l]
          cases q : (L2.wipe σ vs)[v]? with
          | none => rw [List.getElem?_eq_none_iff] at q; omega
          | some x =>
            cases x with
            | none => rfl
            | some y => exact absurd hv (wipe_some q).2
        · rw [List.getElem?_eq_none (by rw [List.length_set]; omega), List.getElem?_eq_none (by omega)]
      · rw [List.getElem?_set_ne e]
  exact key vs fun j h => h
/-! ## [e for x in it if ..] -/
def upTs := upT
def fYes : FTt := fun o P => P true o
theorem PTs.imp {X : Cx} {e : List Expr} {t t' : TT} (h : PTs X e t) (i : ∀ σ H Q, t' σ H Q → t σ H Q) : PTs X e t' := ⟨fun pins s σ H Q I q => h.run pins s σ H Q I (i σ H Q q)⟩
theorem fts_nil : PTs X [] (upT K fYes) := PTs.imp pts_nil fun σ H Q ⟨c, G, o, P, r, h, k⟩ => k true o G H h (Same.refl G) r
theorem fts_one (h : PT X e (upT K ct)) : PTs X [e] (upT K ct) := pts_one h
def fLc (vs : List Nat) (ι : FI) (γ : FGt) (tt : FTt) (te : FT) : FT := fun o P => ι o fun ds o1 => ds.length < sizeLine ∧ ∃ I : Nat → List PyData → Om → Prop, I 0 [] (o1.wipe vs) ∧
  (∀ i acc d o, ds[i]? = some d → I i acc o → γ d o fun o2 => tt o2 fun b o3 => if b = true then te o3 fun y o4 => I (i + 1) (acc ++ [y]) (o4.wipe vs) else I (i + 1) acc (o3.wipe vs)) ∧ ∀ acc o, I ds.length acc o → P (.list acc) o
theorem fr0 {c : Fc} {G H : Hp} {o : Om} {σ : L2.St} (r : Rs K c G o σ H) {D : Addr} (h : H D = none) : Free c G o σ D := by
  have m := r.mine h (.lst [])
  refine ⟨m.2.1, ?_, m.2.2.1, fun e => r.ht e h, m.2.2.2⟩
  cases e : c.G0 D with
  | none => rfl
  | some x => have := r.g0 D x e; rw [m.2.1] at this; cases this
theorem lc_up {vs : List Nat} {tt : FTt} {te : FT} {σ : L2.St} {H : Hp} {Q : VK} (sub : ∀ j ∈ S, j ∈ vs) (h : upO K (fLc vs ι γ tt te) σ H Q) : tLc (upI K ι) (upG K S γ) (upT K tt) (up K te) vs σ H Q := by
  obtain ⟨c, G, o, P, r, t, k⟩ := h
  refine ⟨c, G, o, _, r, t, fun ds o1 G1 J H1 ⟨hn, I, i0, is, id⟩ g r1 fw D hD => ?_⟩
  have f1 := fr0 r1 hD
  have nt := r1.tabs.none hD
  refine lc_it (Qd := fun H' => Q (.ref D) H') fw (fun i H' => ∃ G2 o2 acc accV, Same G1 G2 ∧ Rs K (c.hold D (.lst accV)) G2 (Om.wipe o2 vs) (L2.wipe σ vs) H' ∧ RpAll K G2 accV acc ∧ acc.length ≤ i ∧ I i acc (Om.wipe o2 vs)) ?_ (fun i H' _ ⟨G2, o2, acc, accV, g2, r2, _⟩ => g2.trans r2.sub) ?_ ?_
  · have m := r1.mine hD (.lst [])
    have fr : Free c G1 o1 σ D := f1
    exact ⟨G1, o1, [], [], Same.refl G1, Rs.wipe (m.1.hold f1 upd_same) vs, .nil, Nat.le_refl _, i0⟩
  · rintro i x H2 H3 hi ⟨G2, o2, acc, accV, g2, r2, ra, la, hI⟩ y
    obtain ⟨d, G3, e, g3, r3, q3⟩ := y.keep g2 r2
    refine ⟨_, G3, _, _, d, r3, q3, is i acc d _ e hI, fun o4 G4 σ4 H4 p4 g4 r4 hS hl => ⟨by rw [wipe_eq hS hl sub, wipe_wipe], _, G4, o4, _, r4, p4, fun b o5 G5 H5 p5 g5 r5 => ?_⟩⟩
    have e4 : L2.wipe σ4 vs = L2.wipe σ vs := by rw [wipe_eq hS hl sub, wipe_wipe]
    have back : ∀ {o' G' H'}, Rs K (c.hold D (.lst accV)) G' o' σ4 H' → Rs K (c.hold D (.lst accV)) G' (o'.wipe vs) (L2.wipe σ vs) H' := fun {o' G' H'} r' => by
      have := Rs.wipe r' vs
      rwa [e4] at this
    have hT : c.T ≠ some D := f1.t
    cases b with
    | false =>
      simp only [Bool.false_eq_true, if_false] at p5 ⊢
      exact ⟨G5, o5, acc, accV, ((g2.trans g3).trans g4).trans g5, back r5, ((ra.same g3).same g4).same g5, by omega, p5⟩
    | true =>
      simp only [if_true] at p5 ⊢
      refine ⟨_, G5, o5, _, r5, p5, fun yd o6 G6 yv H6 p6 g6 r6 q6 => ?_⟩
      obtain ⟨r7, f7, h7⟩ := (back r6).unhold f1.g0 f1.h0 f1.t nt
      have ra6 : RpAll K G6 accV acc := (((ra.same g3).same g4).same g5).same g6
      refine ⟨accV, h7, by rw [ra.len]; exact Nat.lt_of_le_of_lt la (Nat.lt_trans hi hn), G6, o6, acc ++ [yd], accV ++ [yv], (((g2.trans g3).trans g4).trans g5).trans g6, r7.held (.lst (accV ++ [yv])) f7 h7 (.inl ⟨_, rfl⟩), ra6.append (.cons q6 .nil), by simp; omega, p6⟩
  · rintro H2 ⟨G2, o2, acc, accV, g2, r2, ra, la, hI⟩
    obtain ⟨r7, f7, h7⟩ := r2.unhold f1.g0 f1.h0 f1.t nt
    have e0 : (o2.wipe vs).wipe vs = o2.wipe vs := by
      have key : ∀ ws : List Nat, (∀ j ∈ ws, j ∈ vs) → (o2.wipe vs).wipe ws = o2.wipe vs := by
        intro ws
        induction ws with
        | nil => intro _; rfl
        | cons v ws ih =>
          intro hs
          show ((o2.wipe vs).wipe ws).off v = _
          rw [ih fun j hj => hs j (List.mem_cons_of_mem _ hj)]
          have hv := hs v List.mem_cons_self
          unfold Om.off
          have : (o2.wipe vs).vs.set v none = (o2.wipe vs).vs := by
            apply List.ext_getElem?
            intro j
            by_cases e : v = j
            · subst e
              by_cases l : v < (o2.wipe vs).vs.length
              · rw [List.getElem?_set_self l]
                cases q : (o2.wipe vs).vs[v]? with
                | none => rw [List.getElem?_eq_none_iff] at q; omega
                | some x =>
                  cases x with
                  | none => rfl
                  | some y => exact absurd hv (wipe_off q)
              · rw [List.getElem?_eq_none (by rw [List.length_set]; omega), List.getElem?_eq_none (by omega)]
            · rw [List.getElem?_set_ne e]
          rw [this]
      exact key vs fun j h => h
    have r8 : Rs K c G2 (o2.wipe vs) σ H2 := by
      have : Rs K c G2 ((o2.wipe vs).wipe vs) (L2.wipe σ vs) H2 := by rw [e0]; exact r7
      have := Rs.around (σ' := σ) this rfl
      rwa [e0] at this
    refine k _ _ G2 D H2 (id _ _ hI) (g.trans g2) r8 ⟨f7.g, f7.h0, accV, h7, ra⟩ fun j e1 h1 h2 => ?_
    exact f7.ap j e1 h1 (by rw [wipe_out (wipe_off h1)]; exact h2)
end
end Lf

set_option maxRecDepth 100000
set_option maxHeartbeats 3900000
namespace Lf
open PySem PySem.Spec PyProof.Rows L2 K
/-! # defs: what they promise, how they are called -/
/-- told of things alone -/
abbrev Ph := List PyData → (PyData → Prop) → Prop
/-- .. and of the tape: how often it was drawn from at the most -/
abbrev PhT := List PyData → Nat → (PyData → Nat → Prop) → Prop
def spP (K : PySem.W.Frag) [Tabled K] (φ : Ph) : Sp := fun vs H Q _ => ∃ G ds P, Rdy K G H ∧ RpAll K G vs ds ∧ φ ds P ∧ ∀ d v G' H', P d → ExtT K H H' → Same G G' → Rdy K G' H' → New G H G' → Rp K G' v d → Q v H'
def spO (K : PySem.W.Frag) [Tabled K] (φ : Ph) : Sp := fun vs H Q _ => ∃ G ds P, Rdy K G H ∧ RpAll K G vs ds ∧ φ ds P ∧ ∀ d a G' H', P d → ExtT K H H' → Same G G' → Rdy K G' H' → New G H G' → G' a = none → H a = none → OwnAt K G' H' a d → Q (.ref a) H'
def spT (K : PySem.W.Frag) [Tabled K] (φ : PhT) : Sp := fun vs H Q _ => ∃ t us G ds n P, vs = .ref t :: us ∧ Rdy K G H ∧ G t = none ∧ Tp H t n ∧ RpAll K G us ds ∧ φ ds n P ∧
  ∀ d m v G' H', P d m → ButT K t H H' → Same G G' → Rdy K G' H' → New G H G' → Tp H' t m → Rp K G' v d → Q v H'
def spTO (K : PySem.W.Frag) [Tabled K] (φ : PhT) : Sp := fun vs H Q _ => ∃ t us G ds n P, vs = .ref t :: us ∧ Rdy K G H ∧ G t = none ∧ Tp H t n ∧ RpAll K G us ds ∧ φ ds n P ∧
  ∀ d m a G' H', P d m → ButT K t H H' → Same G G' → Rdy K G' H' → New G H G' → Tp H' t m → G' a = none → H a = none → OwnAt K G' H' a d → Q (.ref a) H'
section
variable {X : Cx} {K : PySem.W.Frag} [Tabled K] {e : Expr} {es : List Expr} {τs : FTa} {φ : Ph} {ψ : PhT} {k j : Nat} {x : Str} {p pos : Pos}
def fCall (φ : Ph) (τs : FTa) : FT := fun o P => τs o fun ds o1 => φ ds fun d => P d o1
def fCallT (i : Nat) (ψ : PhT) (τs : FTa) : FT := fun o P => o.vs[i]? = some (some .tp) ∧ τs o fun ds o1 => ψ ds o1.n fun d m => P d { o1 with n := m }
theorem call_P {σ : L2.St} {H : Hp} {Q : VK} (h : up K (fCall φ τs) σ H Q) : tCall (spP K φ) [] C8.E0 (upA K τs) σ H Q := by
  obtain ⟨c, G, o, P, r, t, kk⟩ := h
  refine ⟨c, G, o, _, r, t, fun ds o1 G1 vs H1 p g r1 q => ?_⟩
  show spP K φ (vs ++ []) H1 Q C8.E0
  rw [List.append_nil]
  exact ⟨G1, ds, _, r1.rdy, q, p, fun d v G' H' pd s g2 s2 n rr => kk d o1 G' v H' pd (g.trans g2) (r1.growT g2 s s2.tabs s2.sub n) rr⟩
theorem call_O {σ : L2.St} {H : Hp} {Q : VK} (h : upO K (fCall φ τs) σ H Q) : tCall (spO K φ) [] C8.E0 (upA K τs) σ H Q := by
  obtain ⟨c, G, o, P, r, t, kk⟩ := h
  refine ⟨c, G, o, _, r, t, fun ds o1 G1 vs H1 p g r1 q => ?_⟩
  show spO K φ (vs ++ []) H1 Q C8.E0
  rw [List.append_nil]
  refine ⟨G1, ds, _, r1.rdy, q, p, fun d a G' H' pd s g2 s2 n e1 e2 rr => kk d o1 G' a H' pd (g.trans g2) (r1.growT g2 s s2.tabs s2.sub n) ⟨e1, r1.h0 e2, rr⟩ fun j e h1 h2 => ?_⟩
  obtain ⟨v, h3, b, rfl, m⟩ := r1.var j _ h1
  rw [h2] at h3
  cases h3
  exact m.at'.ne e2
theorem call_T {i : Nat} {σ : L2.St} {H : Hp} {Q : VK} (h : up K (fCallT i ψ τs) σ H Q) : tCall (spT K ψ) [] C8.E0 (tCons (tVar i) (upA K τs)) σ H Q := by
  obtain ⟨c, G, o, P, r, ⟨hi, t⟩, kk⟩ := h
  obtain ⟨v, h1, tp, hT, rfl⟩ := r.var i _ hi
  refine ⟨_, h1, c, G, o, _, r, t, fun ds o1 G1 vs H1 p g r1 q => ?_⟩
  show spT K ψ (.ref tp :: vs ++ []) H1 Q C8.E0
  rw [List.append_nil]
  exact ⟨tp, vs, G1, ds, _, _, rfl, r1.rdy, (r1.tape tp hT).1, (r1.tape tp hT).2.2, q, p, fun d m v G' H' pd b g2 s2 n ht rr => kk d _ G' v H' pd (g.trans g2) (r1.drawnT hT b s2.tabs g2 s2.sub n ht) rr⟩
theorem call_TO {i : Nat} {σ : L2.St} {H : Hp} {Q : VK} (h : upO K (fCallT i ψ τs) σ H Q) : tCall (spTO K ψ) [] C8.E0 (tCons (tVar i) (upA K τs)) σ H Q := by
  obtain ⟨c, G, o, P, r, ⟨hi, t⟩, kk⟩ := h
  obtain ⟨v, h1, tp, hT, rfl⟩ := r.var i _ hi
  refine ⟨_, h1, c, G, o, _, r, t, fun ds o1 G1 vs H1 p g r1 q => ?_⟩
  show spTO K ψ (.ref tp :: vs ++ []) H1 Q C8.E0
  rw [List.append_nil]
  refine ⟨tp, vs, G1, ds, _, _, rfl, r1.rdy, (r1.tape tp hT).1, (r1.tape tp hT).2.2, q, p, fun d m a G' H' pd b g2 s2 n ht e1 e2 rr => kk d _ G' a H' pd (g.trans g2) (r1.drawnT hT b s2.tabs g2 s2.sub n ht) ⟨e1, r1.h0 e2, rr⟩ fun j e h1 h2 => ?_⟩
  obtain ⟨v, h3, b', rfl, m'⟩ := r1.var j _ h1
  rw [h2] at h3
  cases h3
  exact m'.at'.ne e2
theorem fe_c (c : C8.Cal X.prog X.w X.K X.mg X.base k x (spP K φ) []) (hr : Room j X.A) (hk : k ≤ j) (hg : Gl X x) (ha : PA X (e :: es) (upA K τs))
    (hdb : (x == ("__debug__" : Str)) = false := by decide) (he : starEach (e :: es) X.env = (false, eval e X.env) :: starEach es X.env := by rfl) (hpl : (backTo pos (starEach es X.env)).any (·.1) = false := by rfl)
        :
    PE X (.Call (.Name x p) (e :: es) [] pos) (up K (fCall φ τs)) := PE.imp (C8.pe_c c hr hk hg ha hdb he hpl) fun _ _ _ => call_P
theorem fo_c (c : C8.Cal X.prog X.w X.K X.mg X.base k x (spO K φ) []) (hr : Room j X.A) (hk : k ≤ j) (hg : Gl X x) (ha : PA X (e :: es) (upA K τs))
    (hdb : (x == ("__debug__" : Str)) = false := by decide) (he : starEach (e :: es) X.env = (false, eval e X.env) :: starEach es X.env := by rfl) (hpl : (backTo pos (starEach es X.env)).any (·.1) = false := by rfl)
        :
    PE X (.Call (.Name x p) (e :: es) [] pos) (upO K (fCall φ τs)) := PE.imp (C8.pe_c c hr hk hg ha hdb he hpl) fun _ _ _ => call_O
theorem fe_ct (c : C8.Cal X.prog X.w X.K X.mg X.base k x (spT K ψ) []) (hr : Room j X.A) (hk : k ≤ j) (hg : Gl X x) {i : Nat} (ht : PE X e (tVar i)) (ha : PA X es (upA K τs))
    (hdb : (x == ("__debug__" : Str)) = false := by decide) (he : starEach (e :: es) X.env = (false, eval e X.env) :: starEach es X.env := by rfl) (hpl : (backTo pos (starEach es X.env)).any (·.1) = false := by rfl)
        :
    PE X (.Call (.Name x p) (e :: es) [] pos) (up K (fCallT i ψ τs)) := PE.imp (C8.pe_c c hr hk hg (pa_cons ht ha he) hdb he hpl) fun _ _ _ => call_T
theorem fo_ct (c : C8.Cal X.prog X.w X.K X.mg X.base k x (spTO K ψ) []) (hr : Room j X.A) (hk : k ≤ j) (hg : Gl X x) {i : Nat} (ht : PE X e (tVar i)) (ha : PA X es (upA K τs))
    (hdb : (x == ("__debug__" : Str)) = false := by decide) (he : starEach (e :: es) X.env = (false, eval e X.env) :: starEach es X.env := by rfl) (hpl : (backTo pos (starEach es X.env)).any (·.1) = false := by rfl)
        :
    PE X (.Call (.Name x p) (e :: es) [] pos) (upO K (fCallT i ψ τs)) := PE.imp (C8.pe_c c hr hk hg (pa_cons ht ha he) hdb he hpl) fun _ _ _ => call_TO
/-! where no repr is under way -/
theorem fe_cG (c : CalG X.prog X.w X.K X.mg X.base k x (spP K φ)) (hq : X.A.guards = some []) (hr : Room j X.A) (hk : k ≤ j) (hg : Gl X x) (ha : PA X (e :: es) (upA K τs))
    (hdb : (x == ("__debug__" : Str)) = false := by decide) (he : starEach (e :: es) X.env = (false, eval e X.env) :: starEach es X.env := by rfl) (hpl : (backTo pos (starEach es X.env)).any (·.1) = false := by rfl)
        :
    PE X (.Call (.Name x p) (e :: es) [] pos) (up K (fCall φ τs)) := PE.imp (pe_cG c hq hr hk hg ha hdb he hpl) fun _ _ _ => call_P
theorem fe_ctG (c : CalG X.prog X.w X.K X.mg X.base k x (spT K ψ)) (hq : X.A.guards = some []) (hr : Room j X.A) (hk : k ≤ j) (hg : Gl X x) {i : Nat} (ht : PE X e (tVar i)) (ha : PA X es (upA K τs))
    (hdb : (x == ("__debug__" : Str)) = false := by decide) (he : starEach (e :: es) X.env = (false, eval e X.env) :: starEach es X.env := by rfl) (hpl : (backTo pos (starEach es X.env)).any (·.1) = false := by rfl)
        :
    PE X (.Call (.Name x p) (e :: es) [] pos) (up K (fCallT i ψ τs)) := PE.imp (pe_cG c hq hr hk hg (pa_cons ht ha he) hdb he hpl) fun _ _ _ => call_T
end
/-! ## a def by its body -/
def startO (N : List Str) (ws : List Ho) : List (Option Ho) := ws.map some ++ List.replicate (N.length - ws.length) none
theorem start_len {N : List Str} {vs : List V} (h : vs.length ≤ N.length) : (L2.start N vs).length = N.length := by
  unfold L2.start
  rw [List.length_append]
  rw [List.length_map, List.length_replicate]
  omega
theorem startO_len {N : List Str} {vs : List Ho} (h : vs.length ≤ N.length) : (startO N vs).length = N.length := by
  unfold startO
  rw [List.length_append]
  rw [List.length_map, List.length_replicate]
  omega
theorem startO_at {N : List Str} {ws : List Ho} {i : Nat} {w : Ho} (h : (startO N ws)[i]? = some (some w)) : ws[i]? = some w := by
  unfold startO at h
  by_cases hi : i < (ws.map some).length
  · rw [List.getElem?_append_left hi, List.getElem?_map] at h
    cases e : ws[i]? with
    | none => rw [e] at h; cases
        h
    | some a => rw [e] at h; cases h; rfl
  · rw [List.getElem?_append_right (by omega), List.getElem?_replicate] at h
    split at h <;> cases h
theorem start_at {N : List Str} {vs : List V} {i : Nat} {v : V} (h : vs[i]? = some v) : (L2.start N vs)[i]? = some (some v) := by
  unfold L2.start
  have hi := (List.getElem?_eq_some_iff.mp h).1
  rw [List.getElem?_append_left (by simpa using hi), List.getElem?_map, h]
  rfl
section
variable {P : Program} {w : World} {K : PySem.W.Frag} [Tabled K] {mg : Str → Option Value} {base : Heap} {x qual : Str} {st : Stmt} {f : Addr} {fd : FuncData} {N ps : List Str} {k : Nat} {φ : Ph} {ψ : PhT}
def endsP (P : PyData → Prop) : Fe := { nx := fun _ => P .none, rt := fun d _ => P d, ro := fun d _ => P d }
def endsO (P : PyData → Prop) : Fe := { nx := fun _ => False, ro := fun d _ => P d }
def endsT (P : PyData → Nat → Prop) : Fe := { nx := fun o => P .none o.n, rt := fun d o => P d o.n, ro := fun d o => P d o.n }
def endsTO (P : PyData → Nat → Prop) : Fe := { nx := fun _ => False, ro := fun d o => P d o.n }
theorem rs_start {G H : Hp} {N : List Str} {vs : List V} {ds : List PyData} (s : Rdy K G H) (r : RpAll K G vs ds) (l : ds.length ≤ N.length) : Rs K ⟨none, H, G⟩ G ⟨startO N (ds.map .dat), 0⟩ (L2.start N vs) H where
  sub := s.sub
  tabs := s.tabs
  toff := s.toff
  g0 := Same.refl G
  gn := fun _ _ e => .inl e
  old := fun _ _ e _ _ => e
  tape := fun _ e => nomatch e
  len := by rw [start_len (by rw [r.len]; exact l), startO_len (by rw [List.length_map]; exact l)]
  var := fun i w e => by
    have e := startO_at e
    rw [List.getElem?_map] at e
    cases q : ds[i]? with
    | none => rw [q] at e; cases
        e
    | some d =>
      rw [q] at e
      cases e
      obtain ⟨v, h1, h2⟩ := r.get q
      exact ⟨v, start_at h1, h2⟩
  dis := fun i j d e a _ h1 => by
    have h1 := startO_at h1
    rw [List.getElem?_map] at h1
    cases q : ds[i]? with
    | none => rw [q] at h1; cases h1
    | some d => rw [q] at h1; cases h1
theorem rs_startT {G H : Hp} {N : List Str} {t : Addr} {n : Nat} {vs : List V} {ds : List PyData} (s : Rdy K G H) (g : G t = none) (ht : Tp H t n) (r : RpAll K G vs ds) (l : ds.length + 1 ≤ N.length) : Rs K ⟨some t, H, G⟩ G ⟨startO N (.tp :: ds.map .dat), n⟩ (L2.start N (.ref t :: vs)) H where
  sub := s.sub
  tabs := s.tabs
  toff := s.toff
  g0 := Same.refl G
  gn := fun _ _ e => .inl e
  old := fun _ _ e _ _ => e
  tape := fun u e => by cases e; exact ⟨g, tp_some ht, ht⟩
  len := by rw [start_len (by rw [List.length_cons, r.len]; exact l), startO_len (by rw [List.length_cons, List.length_map]; exact l)]
  var := fun i w e => by
    have e := startO_at e
    cases i with
    | zero => cases e; exact ⟨_, start_at rfl, t, rfl, rfl⟩
    | succ i =>
      rw [List.getElem?_cons_succ, List.getElem?_map] at e
      cases q : ds[i]? with
      | none => rw [q] at e; cases
          e
      | some d =>
        rw [q] at e
        cases e
        obtain ⟨v, h1, h2⟩ := r.get q
        exact ⟨v, start_at (i := i + 1) h1, h2⟩
  dis := fun i j d e a _ h1 => by
    have h1 := startO_at h1
    cases i with
    | zero => cases h1
    | succ i =>
      rw [List.getElem?_cons_succ, List.getElem?_map] at h1
      cases q : ds[i]? with
      | none => rw [q] at h1; cases h1
      | some d => rw [q] at h1; cases h1
theorem cont_P {G H : Hp} {P : PyData → Prop} {Q : VK} (q : ∀ d v G' H', P d → ExtT K H H' → Same G G' → Rdy K G' H' → New G H G' → Rp K G' v d → Q v H') : Cont K ⟨none, H, G⟩ G (endsP P) { nx := fun _ H' => Q .non H', rt := Q } where
  nx := fun o' G' σ' H' p s r => q _ _ G' H' p (fun a y e n2 => r.old a y e (fun z => nomatch z) n2) s r.rdy r.gn .non
  rt := fun d o' G' σ' v H' p s r h => q d v G' H' p (fun a y e n2 => r.old a y e (fun z => nomatch z) n2) s r.rdy r.gn h
  ro := fun d o' G' σ' a H' p s r m ap => by
    obtain ⟨G2, r2, g2, h2⟩ := r.freeze m ap
    exact q d _ G2 H' p (fun a y e n2 => r.old a y e (fun z => nomatch z) n2) (s.trans g2) r2.rdy r2.gn h2
  bk := fun _ _ _ _ p => p.elim
  ct := fun _ _ _ _ p => p.elim
  rf := fun _ _ _ _ _ _ p => p.elim
theorem cont_O {G H : Hp} {P : PyData → Prop} {Q : VK} (q : ∀ d a G' H', P d → ExtT K H H' → Same G G' → Rdy K G' H' → New G H G' → G' a = none → H a = none → OwnAt K G' H' a d → Q (.ref a) H') : Cont K ⟨none, H, G⟩ G (endsO P) { nx := fun _ H' => Q .non H', rt := Q } where
  nx := fun o' G' σ' H' p => p.elim
  rt := fun d o' G' σ' v H' p => p.elim
  ro := fun d o' G' σ' a H' p s r m ap => q d a G' H' p (fun a y e n2 => r.old a y e (fun z => nomatch z) n2) s r.rdy r.gn m.off m.new m.at'
  bk := fun _ _ _ _ p => p.elim
  ct := fun _ _ _ _ p => p.elim
  rf := fun _ _ _ _ _ _ p => p.elim
theorem but_of {c : Fc} {t : Addr} {G H H' : Hp} {o : Om} {σ : L2.St} (r : Rs K ⟨some t, H, G⟩ c.G0 o σ H') : ButT K t H H' := fun a y e n n2 => r.old a y e (fun z => n (Option.some.inj z).symm) n2
theorem cont_T {G H : Hp} {t : Addr} {P : PyData → Nat → Prop} {Q : VK} (q : ∀ d m v G' H', P d m → ButT K t H H' → Same G G' → Rdy K G' H' → New G H G' → Tp H' t m → Rp K G' v d → Q v H') : Cont K ⟨some t, H, G⟩ G (endsT P) { nx := fun _ H' => Q .non H', rt := Q } where
  nx := fun o' G' σ' H' p s r => q _ _ _ G' H' p (fun a y e n n2 => r.old a y e (fun z => n (Option.some.inj z).symm) n2) s r.rdy r.gn (r.tape t rfl).2.2 .non
  rt := fun d o' G' σ' v H' p s r h => q d _ v G' H' p (fun a y e n n2 => r.old a y e (fun z => n (Option.some.inj z).symm) n2) s r.rdy r.gn (r.tape t rfl).2.2 h
  ro := fun d o' G' σ' a H' p s r m ap => by
    obtain ⟨G2, r2, g2, h2⟩ := r.freeze m ap
    exact q d _ _ G2 H' p (fun a y e n n2 => r.old a y e (fun z => n (Option.some.inj z).symm) n2) (s.trans g2) r2.rdy r2.gn (r.tape t rfl).2.2 h2
  bk := fun _ _ _ _ p => p.elim
  ct := fun _ _ _ _ p => p.elim
  rf := fun _ _ _ _ _ _ p => p.elim
theorem cont_TO {G H : Hp} {t : Addr} {P : PyData → Nat → Prop} {Q : VK} (q : ∀ d m a G' H', P d m → ButT K t H H' → Same G G' → Rdy K G' H' → New G H G' → Tp H' t m → G' a = none → H a = none → OwnAt K G' H' a d → Q (.ref a) H') : Cont K ⟨some t, H, G⟩ G (endsTO P) { nx := fun _ H' => Q .non H', rt := Q } where
  nx := fun o' G' σ' H' p => p.elim
  rt := fun d o' G' σ' v H' p => p.elim
  ro := fun d o' G' σ' a H' p s r m ap => q d _ a G' H' p (fun a y e n n2 => r.old a y e (fun z => n (Option.some.inj z).symm) n2) s r.rdy r.gn (r.tape t rfl).2.2 m.off m.new m.at'
  bk := fun _ _ _ _ p => p.elim
  ct := fun _ _ _ _ p => p.elim
  rf := fun _ _ _ _ _ _ p => p.elim
theorem scope_len {N ps : List Str} {sc : Scope} (S : FnScope N ps sc) : ps.length ≤ N.length := by
  have := congrArg List.length S.pre
  rw [List.length_take] at this
  omega
/-- a def's body, read without addresses -/
abbrev BodyOk (P : Program) (w : World) (K : PySem.W.Frag) [Tabled K] (mg : Str → Option Value) (base : Heap) (N : List Str) (qual : Str) (st : Stmt) (f : Addr) (k : Nat) (τ : FTs) : Prop :=
  ∀ (cdv : Value) (A : Around) (outer : List Env) (s : Shared) (H : Hp) (E : XK), Room k (A.deeper (envOfC qual (defScope st) s.heap.objs.size f cdv)) →
    PSs (cxOf CX0 P w K mg base N qual (defScope st) f cdv A outer s H E).nox (defBody st) (upS K τ)
/-- .. where no repr is under way -/
abbrev BodyG (P : Program) (w : World) (K : PySem.W.Frag) [Tabled K] (mg : Str → Option Value) (base : Heap) (N : List Str) (qual : Str) (st : Stmt) (f : Addr) (k : Nat) (τ : FTs) : Prop :=
  ∀ (cdv : Value) (A : Around) (outer : List Env) (s : Shared) (H : Hp) (E : XK), A.guards = some [] → Room k (A.deeper (envOfC qual (defScope st) s.heap.objs.size f cdv)) →
    PSs (cxOf CX0 P w K mg base N qual (defScope st) f cdv A outer s H E).nox (defBody st) (upS K τ)
theorem okP (F : Fun K x qual st f fd) (S : FnScope N ps (defScope st)) (len : ∀ ds P, φ ds P → ds.length = ps.length) {τ : FTs} (body : BodyOk P w K mg base N qual st f k τ)
    (h : ∀ ds P, φ ds P → τ (endsP P) ⟨startO N (ds.map .dat), 0⟩) : FnOk P w K mg base CX0 (k + 1) f fd ps (spP K φ) :=
  F.ok S (fun vs H Q E ⟨G, ds, P, _, r, p, _⟩ => by rw [r.len]; exact len ds P p) fun cdv A outer s H vs Q E hr ⟨G, ds, P, sm, r, p, q⟩ =>
    ⟨_, body cdv A outer s H E hr, _, G, _, endsP P, rs_start sm r (by rw [len ds P p]; exact scope_len S), h ds P p, cont_P q⟩
theorem okO (F : Fun K x qual st f fd) (S : FnScope N ps (defScope st)) (len : ∀ ds P, φ ds P → ds.length = ps.length) {τ : FTs} (body : BodyOk P w K mg base N qual st f k τ)
    (h : ∀ ds P, φ ds P → τ (endsO P) ⟨startO N (ds.map .dat), 0⟩) : FnOk P w K mg base CX0 (k + 1) f fd ps (spO K φ) :=
  F.ok S (fun vs H Q E ⟨G, ds, P, _, r, p, _⟩ => by rw [r.len]; exact len ds P p) fun cdv A outer s H vs Q E hr ⟨G, ds, P, sm, r, p, q⟩ =>
    ⟨_, body cdv A outer s H E hr, _, G, _, endsO P, rs_start sm r (by rw [len ds P p]; exact scope_len S), h ds P p, cont_O q⟩
theorem okT (F : Fun K x qual st f fd) (S : FnScope N ps (defScope st)) (len : ∀ ds n P, ψ ds n P → ds.length + 1 = ps.length) {τ : FTs} (body : BodyOk P w K mg base N qual st f k τ)
    (h : ∀ ds n P, ψ ds n P → τ (endsT P) ⟨startO N (.tp :: ds.map .dat), n⟩) : FnOk P w K mg base CX0 (k + 1) f fd ps (spT K ψ) :=
  F.ok S (fun vs H Q E ⟨t, us, G, ds, n, P, e, _, _, _, r, p, _⟩ => by rw [e, List.length_cons, r.len]; exact len ds n P p) fun cdv A outer s H vs Q E hr ⟨t, us, G, ds, n, P, e, sm, g, ht, r, p, q⟩ => by
    subst e
    exact ⟨_, body cdv A outer s H E hr, _, G, _, endsT P, rs_startT sm g ht r (by rw [len ds n P p]; exact scope_len S), h ds n P p, cont_T q⟩
theorem okTO (F : Fun K x qual st f fd) (S : FnScope N ps (defScope st)) (len : ∀ ds n P, ψ ds n P → ds.length + 1 = ps.length) {τ : FTs} (body : BodyOk P w K mg base N qual st f k τ)
    (h : ∀ ds n P, ψ ds n P → τ (endsTO P) ⟨startO N (.tp :: ds.map .dat), n⟩) : FnOk P w K mg base CX0 (k + 1) f fd ps (spTO K ψ) :=
  F.ok S (fun vs H Q E ⟨t, us, G, ds, n, P, e, _, _, _, r, p, _⟩ => by rw [e, List.length_cons, r.len]; exact len ds n P p) fun cdv A outer s H vs Q E hr ⟨t, us, G, ds, n, P, e, sm, g, ht, r, p, q⟩ => by
    subst e
    exact ⟨_, body cdv A outer s H E hr, _, G, _, endsTO P, rs_startT sm g ht r (by rw [len ds n P p]; exact scope_len S), h ds n P p, cont_TO q⟩
theorem okPG (F : Fun K x qual st f fd) (S : FnScope N ps (defScope st)) (len : ∀ ds P, φ ds P → ds.length = ps.length) {τ : FTs} (body : BodyG P w K mg base N qual st f k τ)
    (h : ∀ ds P, φ ds P → τ (endsP P) ⟨startO N (ds.map .dat), 0⟩) : FnG P w K mg base CX0 (k + 1) f fd ps (spP K φ) :=
  F.okG S (fun vs H Q E ⟨G, ds, P, _, r, p, _⟩ => by rw [r.len]; exact len ds P p) fun cdv A outer s H vs Q E hq hr ⟨G, ds, P, sm, r, p, q⟩ =>
    ⟨_, body cdv A outer s H E hq hr, _, G, _, endsP P, rs_start sm r (by rw [len ds P p]; exact scope_len S), h ds P p, cont_P q⟩
theorem okTG (F : Fun K x qual st f fd) (S : FnScope N ps (defScope st)) (len : ∀ ds n P, ψ ds n P → ds.length + 1 = ps.length) {τ : FTs} (body : BodyG P w K mg base N qual st f k τ)
    (h : ∀ ds n P, ψ ds n P → τ (endsT P) ⟨startO N (.tp :: ds.map .dat), n⟩) : FnG P w K mg base CX0 (k + 1) f fd ps (spT K ψ) :=
  F.okG S (fun vs H Q E ⟨t, us, G, ds, n, P, e, _, _, _, r, p, _⟩ => by rw [e, List.length_cons, r.len]; exact len ds n P p) fun cdv A outer s H vs Q E hq hr ⟨t, us, G, ds, n, P, e, sm, g, ht, r, p, q⟩ => by
    subst e
    exact ⟨_, body cdv A outer s H E hq hr, _, G, _, endsT P, rs_startT sm g ht r (by rw [len ds n P p]; exact scope_len S), h ds n P p, cont_T q⟩
end
instance tabled_nox {CX : CXT} {P : Program} {w : World} {K : PySem.W.Frag} [t : Tabled K] {mg : Str → Option Value} {base : Heap} {N : List Str} {q : Str} {sc : Scope} {f : Addr} {cdv : Value} {A : Around} {outer : List Env} {s : Shared} {H : Hp} {E : XK} : Tabled (cxOf CX P w K mg base N q sc f cdv A outer s H E).nox.K := t
instance tabled_cx {CX : CXT} {P : Program} {w : World} {K : PySem.W.Frag} [t : Tabled K] {mg : Str → Option Value} {base : Heap} {N : List Str} {q : Str} {sc : Scope} {f : Addr} {cdv : Value} {A : Around} {outer : List Env} {s : Shared} {H : Hp} {E : XK} : Tabled (cxOf CX P w K mg base N q sc f cdv A outer s H E).K := t
instance tabled_blk {X : Cx} [t : Tabled X.K] {s : Shared} {H : Hp} {scope : Scope} {env : Env} {fp : List Addr} : Tabled (X.blk s H scope env fp).K := t
end Lf

set_option maxRecDepth 100000
set_option maxHeartbeats 3900000
namespace Lf
open PySem PySem.Spec PyProof.Rows L2 K
section
variable {X : Cx} {K : PySem.W.Frag} [Tabled K] {tg iter elt : Expr} {ifs : List Expr} {scope : Scope} {own : List (Str × Nat)} {pos : Pos} {ι : FI} {γ : FGt} {S : List Nat} {tt : FTt} {te : FT}
theorem fo_lc (hc : X.calm = true) (hN : X.N.Nodup) (hi : PI X tg iter (upI K ι)) (ok : BlkOk X.N X.env.scope scope own)
    (hg : ∀ (s : Shared) (H : Hp) (C : Addr) (cl : List (Str × Addr)) (fp : List Addr), PG (X.blk s H scope (compEnvC scope cl C X.env) fp) tg (upG K S γ)) (ht : ∀ (s : Shared) (H : Hp) (C : Addr) (cl : List (Str × Addr)) (fp : List Addr), PTs (X.blk s H scope (compEnvC scope cl C X.env) fp) ifs (upT K tt))
    (he : ∀ (s : Shared) (H : Hp) (C : Addr) (cl : List (Str × Addr)) (fp : List Addr), PE (X.blk s H scope (compEnvC scope cl C X.env) fp) elt (up K te)) (sub : ∀ j ∈ S, j ∈ own.map (·.2)) (hs : ∀ x, foldedSetIterable iter X.env x = pure x := by intro _; rfl) :
    PE X (.ListComp elt [⟨tg, iter, ifs, 0⟩] scope pos) (upO K (fLc (own.map (·.2)) ι γ tt te)) := PE.imp (pe_lc hc hN hi ok hg ht he hs) fun _ _ _ => lc_up sub
theorem PS.asg {i : Nat} {st : Stmt} {t : TE} {τ : FT} (h : PS X st (tAsg t (gName i))) (k : ∀ σ H Q, upO K τ σ H Q → t σ H Q) : PS X st (upS K (fSetO i τ)) := PS.imp h fun D σ H q => k _ _ _ (setO_up q)
theorem PS.asgF {i : Nat} {st : Stmt} {t : TE} {τ : FT} (h : PS X st (tAsg t (gName i))) (k : ∀ σ H Q, upO K τ σ H Q → t σ H Q) : PS X st (upS K (fSet i τ)) := PS.imp h fun D σ H q => k _ _ _ (up_own (set_up q))
/-- name = [..], the name's own -/
theorem fs_setLcO {i : Nat} {y : Str} {py : Pos} {spos : Pos} (hc : X.calm = true) (hN : X.N.Nodup) (hy : X.N[i]? = some y) (hyl : X.env.scope.names.lookup y = some .local)
    (hsw : swapsWith (.ListComp elt [⟨tg, iter, ifs, 0⟩] scope pos) (some (.Name y py)) spos.line X.env = pure true) (hi : PI X tg iter (upI K ι)) (ok : BlkOk X.N X.env.scope scope own)
    (hg : ∀ (s : Shared) (H : Hp) (C : Addr) (cl : List (Str × Addr)) (fp : List Addr), PG (X.blk s H scope (compEnvC scope cl C X.env) fp) tg (upG K S γ)) (ht : ∀ (s : Shared) (H : Hp) (C : Addr) (cl : List (Str × Addr)) (fp : List Addr), PTs (X.blk s H scope (compEnvC scope cl C X.env) fp) ifs (upT K tt))
    (he : ∀ (s : Shared) (H : Hp) (C : Addr) (cl : List (Str × Addr)) (fp : List Addr), PE (X.blk s H scope (compEnvC scope cl C X.env) fp) elt (up K te)) (sub : ∀ j ∈ S, j ∈ own.map (·.2)) (hs : ∀ x, foldedSetIterable iter X.env x = pure x := by intro _; rfl) :
    PS X (.Assign [.Name y py] (.ListComp elt [⟨tg, iter, ifs, 0⟩] scope pos) spos) (upS K (fSetO i (fLc (own.map (·.2)) ι γ tt te))) := PS.asg (ps_setLc hc hN hy hyl hsw hi ok hg ht he hs) fun _ _ _ => lc_up sub
theorem fs_setLc {i : Nat} {y : Str} {py : Pos} {spos : Pos} (hc : X.calm = true) (hN : X.N.Nodup) (hy : X.N[i]? = some y) (hyl : X.env.scope.names.lookup y = some .local)
    (hsw : swapsWith (.ListComp elt [⟨tg, iter, ifs, 0⟩] scope pos) (some (.Name y py)) spos.line X.env = pure true) (hi : PI X tg iter (upI K ι)) (ok : BlkOk X.N X.env.scope scope own)
    (hg : ∀ (s : Shared) (H : Hp) (C : Addr) (cl : List (Str × Addr)) (fp : List Addr), PG (X.blk s H scope (compEnvC scope cl C X.env) fp) tg (upG K S γ)) (ht : ∀ (s : Shared) (H : Hp) (C : Addr) (cl : List (Str × Addr)) (fp : List Addr), PTs (X.blk s H scope (compEnvC scope cl C X.env) fp) ifs (upT K tt))
    (he : ∀ (s : Shared) (H : Hp) (C : Addr) (cl : List (Str × Addr)) (fp : List Addr), PE (X.blk s H scope (compEnvC scope cl C X.env) fp) elt (up K te)) (sub : ∀ j ∈ S, j ∈ own.map (·.2)) (hs : ∀ x, foldedSetIterable iter X.env x = pure x := by intro _; rfl) :
    PS X (.Assign [.Name y py] (.ListComp elt [⟨tg, iter, ifs, 0⟩] scope pos) spos) (upS K (fSet i (fLc (own.map (·.2)) ι γ tt te))) := PS.asgF (ps_setLc hc hN hy hyl hsw hi ok hg ht he hs) fun _ _ _ => lc_up sub
end
end Lf

set_option maxRecDepth 100000
set_option maxHeartbeats 3900000
namespace Lf
open PySem PySem.Spec PyProof.Rows L2 K
/-! # dicts that are made and changed -/
section
variable {X : Cx} {K : PySem.W.Frag} [Tabled K] {e : Expr} {τ τk : FT} {pos : Pos}
/-- what is put at a key -/
def putD (k : Key) (d : PyData) (kvs : List (PyData × PyData)) : List (PyData × PyData) :=
  if (kvs.any fun p => isKey k p.1) = true then kvs.map (fun p => if isKey k p.1 = true then (p.1, d) else p) else kvs ++ [(kD k, d)]
theorem RpK.any {G : Hp} {k : Key} : ∀ {es : List (Key × V)} {ds : List (PyData × PyData)}, RpK K G es ds → (es.any fun p => decide (p.1 = k)) = (ds.any fun p => isKey k p.1)
  | _, _, .nil => rfl
  | _, _, .cons (k := j) h r => by
    rw [List.any_cons, List.any_cons, RpK.any r]
    show (decide (j = k) || _) = (isKey k (kD j) || _)
    rw [isKey_kD]
theorem RpK.map {G : Hp} {k : Key} {v : V} {d : PyData} (h : Rp K G v d) : ∀ {es : List (Key × V)} {ds : List (PyData × PyData)}, RpK K G es ds → RpK K G (es.map fun p => if p.1 = k then (p.1, v) else p) (ds.map fun p => if isKey k p.1 = true then (p.1, d) else p)
  | _, _, .nil => .nil
  | _, _, .cons (k := j) h1 r => by
    rw [List.map_cons]
    rw [List.map_cons]
    show RpK K G ((if j = k then (j, v) else (j, _)) :: _) ((if isKey k (kD j) = true then (kD j, d) else (kD j, _)) :: _)
    rw [isKey_kD]
    by_cases e : j = k
    · rw [if_pos e, if_pos (decide_eq_true e)]
      exact .cons h (RpK.map h r)
    · rw [if_neg e, if_neg (by simpa using e)]
      exact .cons h1 (RpK.map h r)
theorem RpK.append {G : Hp} : ∀ {es fs : List (Key × V)} {ds gs : List (PyData × PyData)}, RpK K G es ds → RpK K G fs gs → RpK K G (es ++ fs) (ds ++ gs)
  | _, _, _, _, .nil, r => r
  | _, _, _, _, .cons h t, r => .cons h (RpK.append t r)
theorem RpK.put {G : Hp} {k : Key} {v : V} {d : PyData} {es : List (Key × V)} {ds : List (PyData × PyData)} (r : RpK K G es ds) (h : Rp K G v d) : RpK K G (putK es k v) (putD k d ds) := by
  unfold putK putD
  rw [r.any]
  split
  · exact r.map h
  · exact r.append (.cons h .nil)
theorem RpK.len {G : Hp} : ∀ {es : List (Key × V)} {ds : List (PyData × PyData)}, RpK K G es ds → es.length = ds.length
  | _, _, .nil => rfl
  | _, _, .cons _ r => congrArg (· + 1) (RpK.len r)
def isOwnD (o : Om) (i : Nat) : Prop := ∃ xs, o.vs[i]? = some (some (.own (.dict xs)))
theorem own_dict {c : Fc} {G H : Hp} {o : Om} {σ : L2.St} (r : Rs K c G o σ H) {i : Nat} {xs : List (PyData × PyData)} (e : o.vs[i]? = some (some (.own (.dict xs)))) : ∃ a vs, σ[i]? = some (some (.ref a)) ∧ H a = some (.dK vs) ∧ RpK K G vs xs := by
  obtain ⟨v, h1, a, rfl, m⟩ := r.var i _ e
  obtain ⟨vs, h2, h3⟩ := m.at'
  exact ⟨a, vs, h1, h2, h3⟩
def keyOf : PyData → Option Key
  | .int i => some (.inl i)
  | .str x => some (.inr x)
  | _ => none
theorem key_v {G : Hp} {v : V} {d : PyData} {k : Key} (h : Rp K G v d) (e : keyOf d = some k) : v = kV k := by
  cases d <;> first
    | (cases e; rw [h.intI]; rfl)
    | (cases e; rw [h.strI]; rfl)
    | cases e
/-- x[k] = e, x a dict of one's own -/
def fSubD (i : Nat) (τe τk : FT) : FTs := fun E o => τe o fun d o1 => isOwnD o1 i ∧ τk o1 fun kd o2 => ∃ k xs, keyOf kd = some k ∧ o2.vs[i]? = some (some (.own (.dict xs))) ∧ xs.length < sizeLine ∧ E.nx (o2.put i (.own (.dict (putD k d xs))))
theorem fs_subD {i : Nat} {o ix : Expr} {p : Pos} (he : PE X e (up K τ)) (hv : PE X o (tVar i)) (hi : PE X ix (up K τk)) (hu : X.A.units + 1 < cLine)
    (ha : ∀ v, assign (.Subscript o ix p) X.env v = (do
      let ov ← holding [v] (eval o
          X.env)
      let iv ← holding [v, ov] (eval ix X.env)
      standAt p
      holding [v, ov, iv] (setItem ov iv
          v)
      release [v, ov, iv] []) := by intro _; rfl)
    (hs : swapsWithSole [.Subscript o ix p] e pos.line X.env = pure false := by rfl) (hw : swappedStores [.Subscript o ix p] e X.env = pure none := by rfl)
    (h1 : (assignEach [.Subscript o ix p] X.env).map (·.2) = [assign (.Subscript o ix p) X.env] := by rfl) : PS X (.Assign [.Subscript o ix p] e pos) (upS K (fSubD i τ τk)) := PS.imp (ps_asg he (pg_sub hv hi (set_dict hu) ha) hs hw h1) fun D σ H ⟨c, G, om, E, r, h, k⟩ =>
  ⟨c, G, om, _, r, h, fun d o1 G1 v H1 ⟨⟨x0, h0⟩, p⟩ g r1 q => by
    obtain ⟨a, vs, h1, h2, h3⟩ := own_dict r1 h0
    refine ⟨_, h1, c, G1, o1, _, r1, p, fun kd o2 G2 u H2 p2 g2 r2 q2 => ?_⟩
    obtain ⟨kk, xs, e1, e2, lx, p4⟩ := p2
    obtain ⟨a', vs', h4, h5, h6⟩ := own_dict r2 e2
    rw [h1] at h4
    cases h4
    refine ⟨a, _, rfl, ?_, k.nx _ G2 σ _ p4 (g.trans g2) (r2.write e2 h1 ⟨_, upd_same, h6.put (k := kk) (q.same g2)⟩)⟩
    rw [key_v q2 e1]
    exact DPut.k h5 (by rw [h6.len]; exact lx)⟩
/-- {} -/
def fDnew : FT := fun o P => P (.dict []) o
theorem fo_dnew : PE X (.Dict [] [] pos) (upO K fDnew) := PE.imp pe_dnewK fun σ H Q ⟨c, G, o, P, r, h, k⟩ => fun p hp => by
  obtain ⟨r1, g1, g2, g3⟩ := r.mine hp (.dK [])
  exact k _ o G p _ h (Same.refl G) r1 ⟨g1, g2, [], upd_same, .nil⟩ g3
/-! {k: v, ..} -/
def fPairs : List (FT × FT) → Om → (List (PyData × PyData) → Om → Prop) → Prop
  | [], o, P => P [] o
  | (a, b) :: r, o, P => a o fun x o1 => b o1 fun y o2 => fPairs r o2 fun ps o3 => P ((x, y) :: ps) o3
def upPs (K : PySem.W.Frag) [Tabled K] (l : List (FT × FT)) : List (TE × TE) := l.map fun p => (up K p.1, up K p.2)
abbrev RpP (K : PySem.W.Frag) (G : Hp) : List (V × V) → List (PyData × PyData) → Prop := Paired fun v d => Rp K G v.1 d.1 ∧ Rp K G v.2 d.2
theorem pairs_up {c : Fc} {σ : L2.St} : ∀ (l : List (FT × FT)) (G : Hp) (o : Om) (H : Hp) (P : List (PyData × PyData) → Om → Prop) (Q : List (V × V) → Hp → Prop), Rs K c G o σ H → fPairs l o P →
    (∀ ps o' G' vs H', P ps o' → Same G G' → Rs K c G' o' σ H' → RpP K G' vs ps → Q vs H') → tPairs (upPs K l) σ H Q
  | [], G, o, H, P, Q, r, h, k => k [] o G [] H h (Same.refl G) r .nil
  | (a, b) :: l, G, o, H, P, Q, r, h, k => ⟨c, G, o, _, r, h, fun d o1 G1 v H1 p1 g1 r1 q1 => ⟨c, G1, o1, _, r1, p1, fun e o2 G2 u H2 p2 g2 r2 q2 =>
      pairs_up l G2 o2 H2 _ _ r2 p2 fun ps o3 G3 vs H3 p3 g3 r3 q3 => k _ o3 G3 _ H3 p3 ((g1.trans g2).trans g3) r3 (.cons ⟨(q1.same g2).same g3, q2.same g3⟩ q3)⟩⟩
theorem mergeK_nodup : ∀ (kvs acc : List (Key × V)), ((acc ++ kvs).map (·.1)).Nodup → mergeK acc kvs = acc ++ kvs
  | [], acc, _ => by rw [List.append_nil]; rfl
  | (k, v) :: r, acc, h => by
    show mergeK (putK acc k v) r = _
    have e : putK acc k v = acc ++ [(k, v)] := by
      unfold putK
      rw [if_neg]
      intro z
      obtain ⟨p, hp, e⟩ := List.any_eq_true.mp z
      rw [List.map_append, List.map_cons] at h
      have := (List.nodup_append.mp h).2.2 p.1 (List.mem_map_of_mem hp) k List.mem_cons_self
      exact this (of_decide_eq_true e)
    rw [e, mergeK_nodup r (acc ++ [(k, v)]) (by rw [List.append_assoc]; exact h), List.append_assoc]
    rfl
theorem rpp_keys {G : Hp} : ∀ {vs : List (V × V)} {ps : List (PyData × PyData)} {ks : List Key}, RpP K G vs ps → ps.map (·.1) = ks.map kD → ∃ kvs : List (Key × V), vs = kvs.map (fun kv => (kV kv.1, kv.2)) ∧ kvs.map (·.1) = ks ∧ RpK K G kvs ps
  | _, _, [], .nil, _ => ⟨[], rfl, rfl, .nil⟩
  | _, _, k :: ks, .cons (a := v) (b := p) h r, e => by
    rw [List.map_cons] at e
    rw [List.map_cons] at e
    injection e with e1 e2
    obtain ⟨kvs, rfl, e3, r3⟩ := rpp_keys r e2
    obtain ⟨v1, v2⟩ := v
    obtain ⟨p1, p2⟩ := p
    have e1 : p1 = kD k := e1
    subst e1
    have hv : v1 = kV k := by
      cases k with
      | inl i => exact Rp.intI h.1
      | inr i => exact Rp.strI h.1
    subst hv
    exact ⟨(k, v2) :: kvs, rfl, by rw [List.map_cons, e3], .cons h.2 r3⟩
  | _, _, [], .cons _ _, e => nomatch e
def fDisp (l : List (FT × FT)) : FT := fun o P => fPairs l o fun ps o1 => ∃ ks : List Key, ps.map (·.1) = ks.map kD ∧ ks.Nodup ∧ ps.length ≤ 15 ∧ P (.dict ps) o1
theorem fps_nil : PPs X pos [] [] (upPs K []) := pps_nil
theorem fps_cons {k v : Expr} {ks : List (Option Expr)} {vs : List Expr} {l : List (FT × FT)} (hk : PE X k (up K τk)) (hv : PE X v (up K τ)) (hr : PPs X pos ks vs (upPs K l)) : PPs X pos (some k :: ks) (v :: vs) (upPs K ((τk, τ) :: l)) := pps_cons hk hv hr
theorem fo_disp {keys : List (Option Expr)} {values : List Expr} {l : List (FT × FT)} (h : PPs X pos keys values (upPs K l)) (hall : keys.all (·.isSome) = true) (hl : keys.length = values.length) (h0 : keys ≠ []) (h15 : keys.length ≤ 15) : PE X (.Dict keys values pos) (upO K (fDisp l)) :=
  PE.imp (pe_disp h hall hl h0 h15) fun σ H Q ⟨c, G, o, P, r, h, k⟩ => fun p hp => by
    have f := fr0 r hp
    have nt := r.tabs.none hp
    have m := r.mine hp (.dK [])
    refine pairs_up (c := c.hold p (.dK [])) l G o _ _ _ (m.1.hold f upd_same) h fun ps o' G' vs H' ⟨ks, e1, e2, e3, e4⟩ g r' q => ?_
    obtain ⟨r1, f1, h1⟩ := r'.unhold f.g0 f.h0 f.t nt
    obtain ⟨kvs, rfl, e5, r5⟩ := rpp_keys q e1
    refine ⟨h1, kvs, rfl, by rw [r5.len]; exact e3, ?_⟩
    have e6 : mergeK [] kvs = kvs := mergeK_nodup kvs [] (by rw [List.nil_append, e5]; exact e2)
    rw [e6]
    obtain ⟨r2, f2, h2⟩ := (r1.held (.dK kvs) f1 h1 (.inr ⟨_, rfl⟩)).unhold f.g0 f.h0 f.t nt
    exact k _ o' G' p _ e4 g r2 ⟨f2.g, f2.h0, kvs, upd_same, r5⟩ f2.ap
end
end Lf

set_option maxRecDepth 100000
set_option maxHeartbeats 3900000
/-! # programs as they are drawn, by their parts -/
namespace Dr
open PySem PySem.Spec PyProof.Rows L2 K Lf
def strL (xs : List Str) : PyData := .list (xs.map .str)
def strT (xs : List Str) : PyData := .tuple (xs.map .str)
/-- a def's names by kinds -/
structure Hd where
  name : Str
  plain : List Str
  fingers : List Str
  rows : List Str
  params : List Str
def Hd.kvs (h : Hd) : List (PyData × PyData) := [(.str "name", .str h.name), (.str "plain", strL h.plain), (.str "fingers", strL h.fingers), (.str "rows", strL h.rows), (.str "params", strL h.params)]
def Hd.d (h : Hd) : PyData := .dict h.kvs
def Hd.nums (h : Hd) : List Str := h.plain ++ h.fingers
theorem key_ne {x y : Str} (h : (x == y) = false) : isKey (.inr x) (.str y) = false := h
theorem key_eq {x : Str} : isKey (.inr x) (.str x) = true := beq_self_eq_true x
theorem look_cons {k : Key} {a b : PyData} {r : List (PyData × PyData)} : lookK k ((a, b) :: r) = if isKey k a = true then some b else lookK k r := by
  unfold lookK
  rw [List.find?_cons]
  cases isKey k a <;> rfl
theorem Hd.name_at (h : Hd) : lookK (.inr "name") h.kvs = some (.str h.name) := by
  unfold Hd.kvs
  rw [look_cons, if_pos key_eq]
theorem Hd.plain_at (h : Hd) : lookK (.inr "plain") h.kvs = some (strL h.plain) := by
  unfold Hd.kvs
  rw [look_cons, key_ne (by decide +kernel), if_neg Bool.false_ne_true, look_cons, if_pos key_eq]
theorem Hd.fingers_at (h : Hd) : lookK (.inr "fingers") h.kvs = some (strL h.fingers) := by
  unfold Hd.kvs
  rw [look_cons, key_ne (by decide +kernel), if_neg Bool.false_ne_true, look_cons, key_ne (by decide +kernel), if_neg Bool.false_ne_true, look_cons, if_pos key_eq]
theorem Hd.rows_at (h : Hd) : lookK (.inr "rows") h.kvs = some (strL h.rows) := by
  unfold Hd.kvs
  rw [look_cons, key_ne (by decide +kernel), if_neg Bool.false_ne_true, look_cons, key_ne (by decide +kernel), if_neg Bool.false_ne_true, look_cons, key_ne (by decide +kernel), if_neg Bool.false_ne_true, look_cons, if_pos key_eq]
theorem Hd.params_at (h : Hd) : lookK (.inr "params") h.kvs = some (strL h.params) := by
  unfold Hd.kvs
  rw [look_cons, key_ne (by decide +kernel), if_neg Bool.false_ne_true, look_cons, key_ne (by decide +kernel), if_neg Bool.false_ne_true, look_cons, key_ne (by decide +kernel), if_neg Bool.false_ne_true, look_cons, key_ne (by decide +kernel), if_neg Bool.false_ne_true, look_cons, if_pos key_eq]
/-- a side of a test -/
inductive Side where
  | nm (x : Str)
  | wd (i : Int)
def Side.d : Side → PyData
  | .nm x => .str x
  | .wd i => .int i
inductive Act where
  | set (x : Str) (k : Int)
  | add (x y : Str) (k : Int)
  | sum (w x y z : Str)
  | mid (x y z : Str)
  | row (a y : Str)
  | get (x a i : Str)
  | put (a i y : Str)
  | length (x a : Str)
  | ask (x : Str) (lo hi : Int)
  | tell (y : Str)
  | check (s : Side) (g : Str) (t : Side)
  | ite (s : Side) (g : Str) (t : Side) (l : Int)
  | go (l : Int)
  | call (x f : Str) (gs : List Str)
  | back (y : Str)
def Act.word : Act → Str
  | .set .. => "set"
  | .add .. => "add"
  | .sum w .. => w
  | .mid .. => "mid"
  | .row .. => "row"
  | .get .. => "get"
  | .put .. => "put"
  | .length .. => "length"
  | .ask .. => "ask"
  | .tell .. => "tell"
  | .check .. => "check"
  | .ite .. => "if"
  | .go .. => "go"
  | .call .. => "call"
  | .back .. => "back"
def Act.parts : Act → List PyData
  | .set x k => [.str x, .int k]
  | .add x y k => [.str x, .str y, .int k]
  | .sum _ x y z => [.str x, .str y, .str z]
  | .mid x y z => [.str x, .str y, .str z]
  | .row a y => [.str a, .str y]
  | .get x a i => [.str x, .str a, .str i]
  | .put a i y => [.str a, .str i, .str y]
  | .length x a => [.str x, .str a]
  | .ask x lo hi => [.str x, .int lo, .int hi]
  | .tell y => [.str y]
  | .check s g t => [s.d, .str g, t.d]
  | .ite s g t l => [s.d, .str g, t.d, .int l]
  | .go l => [.int l]
  | .call x f gs => [.str x, .str f, strT gs]
  | .back y => [.str y]
def Act.d (a : Act) : PyData := .tuple (.str a.word :: a.parts)
abbrev Stp := Int × Act
def stpD (s : Stp) : PyData := .tuple [.int s.1, s.2.d]
structure Df where
  name : Str
  params : List Str
  fingers : List Str
  rows : List Str
  steps : List Stp
def Df.d (f : Df) : PyData := .tuple [.str f.name, strT f.params, strT f.fingers, strT f.rows, .tuple (f.steps.map stpD)]
structure Pg where
  wide : Int
  defs : List Df
def Pg.d (p : Pg) : PyData := .tuple [.int p.wide, .tuple (p.defs.map Df.d)]
/-! ## which are drawn -/
def Wd (w i : Int) : Prop := -w ≤ i ∧ i ≤ w
def sumWords : List Str := ["plus", "minus", "times", "over", "rest"]
def signs : List Str := ["<", "<="]
inductive SideOk (h : Hd) (w : Int) : Side → Prop
  | nm {x} : x ∈ h.nums → SideOk h w (.nm x)
  | wd {i} : Wd w i → SideOk h w (.wd i)
/-- of which kind the name is -/
def Hd.kind (h : Hd) (x : Str) : List Str := if x ∈ h.plain then h.nums else if x ∈ h.fingers then h.fingers else h.rows
/-- what is given to params, of a caller with these names -/
inductive Given (h o : Hd) : List Str → List Str → Prop
  | nil : Given h o [] []
  | plain {x p gs ps} : p ∈ o.plain → x ∈ h.nums → Given h o gs ps → Given h o (x :: gs) (p :: ps)
  | finger {x p gs ps} : p ∈ o.fingers → x ∈ h.fingers → Given h o gs ps → Given h o (x :: gs) (p :: ps)
  | row {x p gs ps} : p ∈ o.rows → x ∈ h.rows → Given h o gs ps → Given h o (x :: gs) (p :: ps)
/-- an act that fits the def with these names among these; L: what may stand as a label -/
inductive AFit (h : Hd) (hs : List Hd) (w : Int) (L : Int → Prop) : Act → Prop
  | set {x k} : x ∈ h.nums → Wd w k → AFit h hs w L (.set x k)
  | addP {x y k} : x ∈ h.plain → y ∈ h.nums → Wd w k → AFit h hs w L (.add x y k)
  | addF {x y k} : x ∈ h.fingers → y ∈ h.fingers → Wd w k → AFit h hs w L (.add x y k)
  | sum {s x y z} : s ∈ sumWords → x ∈ h.plain → y ∈ h.plain → z ∈ h.plain → AFit h hs w L (.sum s x y z)
  | midP {x y z} : x ∈ h.plain → y ∈ h.plain → z ∈ h.plain → AFit h hs w L (.mid x y z)
  | midF {x y z} : x ∈ h.fingers → y ∈ h.fingers → z ∈ h.fingers → AFit h hs w L (.mid x y z)
  | row {a y} : a ∈ h.rows → y ∈ h.nums → AFit h hs w L (.row a y)
  | get {x a i} : x ∈ h.plain → a ∈ h.rows → i ∈ h.nums → AFit h hs w L (.get x a i)
  | put {a i y} : a ∈ h.rows → i ∈ h.nums → y ∈ h.nums → AFit h hs w L (.put a i y)
  | length {x a} : x ∈ h.nums → a ∈ h.rows → AFit h hs w L (.length x a)
  | ask {x lo hi} : x ∈ h.plain → Wd w lo → Wd w hi → lo ≤ hi → AFit h hs w L (.ask x lo hi)
  | tell {y} : y ∈ h.nums → AFit h hs w L (.tell y)
  | check {s g t} : SideOk h w s → g ∈ signs → SideOk h w t → AFit h hs w L (.check s g t)
  | ite {s g t l} : SideOk h w s → g ∈ signs → SideOk h w t → L l → AFit h hs w L (.ite s g t l)
  | go {l} : L l → AFit h hs w L (.go l)
  | call {x o gs} : x ∈ h.plain → o ∈ hs → Given h o gs o.params → AFit h hs w L (.call x o.name gs)
  | back {y} : y ∈ h.nums → AFit h hs w L (.back y)
def Raw (l : Int) : Prop := 0 ≤ l ∧ l < 30
/-- the kinds' names, as they are drawn -/
structure HdOk (h : Hd) : Prop where
  plain : ∃ n, 1 ≤ n ∧ n ≤ 3 ∧ h.plain = (["x", "y", "z"] : List Str).take n
  fingers : ∃ n, n ≤ 2 ∧ h.fingers = (["p", "q"] : List Str).take n
  rows : ∃ n, n ≤ 2 ∧ h.rows = (["a", "b"] : List Str).take n
  params : h.params.Nodup ∧ ∀ x ∈ h.params, x ∈ h.plain ++ h.fingers ++ h.rows
  few : h.params.length ≤ 7
theorem HdOk.plainIn {h : Hd} (o : HdOk h) {x : Str} (hx : x ∈ h.plain) : x ∈ (["x", "y", "z"] : List Str) := by
  obtain ⟨n, _, _, e⟩ := o.plain
  rw [e] at hx
  exact List.mem_of_mem_take hx
theorem HdOk.fingersIn {h : Hd} (o : HdOk h) {x : Str} (hx : x ∈ h.fingers) : x ∈ (["p", "q"] : List Str) := by
  obtain ⟨n, _, e⟩ := o.fingers
  rw [e] at hx
  exact List.mem_of_mem_take hx
theorem HdOk.rowsIn {h : Hd} (o : HdOk h) {x : Str} (hx : x ∈ h.rows) : x ∈ (["a", "b"] : List Str) := by
  obtain ⟨n, _, e⟩ := o.rows
  rw [e] at hx
  exact List.mem_of_mem_take hx
theorem HdOk.first {h : Hd} (o : HdOk h) : ∃ r : List Str, h.plain = ("x" : Str) :: r := by
  obtain ⟨n, n1, _, e⟩ := o.plain
  obtain ⟨m, rfl⟩ : ∃ m, n = m + 1 := ⟨n - 1, by
      omega⟩
  exact ⟨_, e⟩
theorem HdOk.lens {h : Hd} (o : HdOk h) : 1 ≤ h.plain.length ∧ h.plain.length ≤ 3 ∧ h.fingers.length ≤ 2 ∧ h.rows.length ≤ 2 := by
  obtain ⟨n, n1, n2, e⟩ := o.plain
  obtain ⟨m, m2, e2⟩ := o.fingers
  obtain ⟨k, k2, e3⟩ := o.rows
  rw [e, e2, e3, List.length_take, List.length_take, List.length_take]
  refine ⟨?_, ?_, ?_, ?_⟩
  · show 1 ≤ min n 3; omega
  · show min n 3 ≤ 3; omega
  · show min m 2 ≤ 2; omega
  · show min k 2 ≤ 2; omega
theorem mem_at {α : Type} {xs : List α} {i : Int} {d : α} (h : atI xs i = some d) : d ∈ xs := by
  unfold atI at h
  cases e : ixN xs.length i
      with
  | none => rw [e] at h; cases
      h
  | some j => rw [e] at h; exact List.mem_of_getElem? h
theorem at_lt {α : Type} {xs : List α} {r : Int} (h0 : 0 ≤ r) (h1 : r < xs.length) : ∃ d, atI xs r = some d ∧ d ∈ xs := by
  have h2 : r.toNat < xs.length := by omega
  refine ⟨xs[r.toNat], ?_, List.getElem_mem h2⟩
  unfold atI ixN
  rw [if_pos h0, if_pos h1]
  exact List.getElem?_eq_getElem h2
end Dr

set_option maxRecDepth 100000
set_option maxHeartbeats 3900000
namespace Dr
open PySem PySem.Spec PyProof.Rows L2 K Lf
def letters : List Str := ["x", "y", "z", "p", "q", "a", "b"]
theorem letters_lay : ∀ x ∈ letters, PyData.canLay0 (.str x) = true := by decide +kernel
theorem HdOk.letter {h : Hd} (o : HdOk h) {x : Str} (hx : x ∈ h.plain ++ h.fingers ++ h.rows) : x ∈ letters := by
  have e : letters = (["x", "y", "z"] : List Str) ++ (["p", "q"] : List Str) ++ (["a", "b"] : List Str) := rfl
  rw [e]
  rcases List.mem_append.mp hx with q | q
  · obtain q | q := List.mem_append.mp q
    · exact List.mem_append_left _ (List.mem_append_left _ (o.plainIn q))
    · exact List.mem_append_left _ (List.mem_append_right _ (o.fingersIn q))
  · exact List.mem_append_right _ (o.rowsIn q)
theorem lay_names : ∀ {xs : List Str}, (∀ x ∈ xs, x ∈ letters) → PyData.hasDictAll (xs.map .str) = false ∧ PyData.canLayAll0 (xs.map .str) = true ∧ PyData.depthAll (xs.map .str) = 0
  | [], _ => ⟨rfl, rfl, rfl⟩
  | x :: r, h => by
    obtain ⟨a, b, c⟩ := lay_names (xs := r) fun y hy => h y (List.mem_cons_of_mem _ hy)
    have hx := letters_lay x (h x List.mem_cons_self)
    refine ⟨?_, ?_, ?_⟩
    · show (false || PyData.hasDictAll (r.map .str)) = false
      rw [a]
      rfl
    · show (PyData.canLay0 (.str x) && PyData.canLayAll0 (r.map .str)) = true
      rw [hx, b]
      rfl
    · show max 0 (PyData.depthAll (r.map .str)) = 0
      rw [c]
      rfl
theorem shaped_names {xs : List Str} (h : ∀ x ∈ xs, x ∈ letters) : (strL xs).hasDict = false ∧ PySem.SeqAt.shaped (strL xs) = true := by
  obtain ⟨a, b, c⟩ := lay_names h
  refine ⟨a, shaped_of b ?_⟩
  show PyData.depthAll (xs.map .str) + 1 ≤ 64
  omega
theorem shaped_nil : (PyData.list []).hasDict = false ∧ PySem.SeqAt.shaped (.list []) = true := ⟨rfl, rfl⟩
theorem eqv_nil : ∀ xs : List Str, PyData.eqv (strL xs) (.list []) = xs.isEmpty
  | [] => rfl
  | _ :: _ => rfl
theorem HdOk.kinds {h : Hd} (o : HdOk h) {x : Str} : (x ∈ h.plain → x ∈ letters) ∧ (x ∈ h.fingers → x ∈ letters) ∧ (x ∈ h.rows → x ∈ letters) :=
  ⟨fun q => o.letter (List.mem_append_left _ (List.mem_append_left _ q)), fun q => o.letter (List.mem_append_left _ (List.mem_append_right _ q)), fun q => o.letter (List.mem_append_right _ q)⟩
theorem HdOk.numIn {h : Hd} (o : HdOk h) {x : Str} (hx : x ∈ h.nums) : x ∈ letters := o.letter (List.mem_append_left _ hx)
/-- the kinds are apart -/
theorem HdOk.apart {h : Hd} (o : HdOk h) {x : Str} : (x ∈ h.plain → x ∉ h.fingers ∧ x ∉ h.rows) ∧ (x ∈ h.fingers → x ∉ h.rows) := by
  have k1 : ∀ x ∈ (["x", "y", "z"] : List Str), x ∉ (["p", "q"] : List Str) ∧ x ∉ (["a", "b"] : List Str) := by decide +kernel
  have k2 : ∀ x ∈ (["p", "q"] : List Str), x ∉ (["a", "b"] : List Str) := by decide +kernel
  exact ⟨fun p => ⟨fun q => (k1 x (o.plainIn p)).1 (o.fingersIn q), fun q => (k1 x (o.plainIn p)).2 (o.rowsIn q)⟩, fun p q => k2 x (o.fingersIn p) (o.rowsIn q)⟩
theorem len_pos {xs : List Str} (h : xs ≠ []) : 0 < (xs.map PyData.str).length := by
  cases xs with
  | nil => exact absurd rfl h
  | cons a r => show 0 < (List.map PyData.str r).length + 1; omega
end Dr

set_option maxRecDepth 100000
set_option maxHeartbeats 3900000
namespace Dr
open PySem PySem.Spec PyProof.Rows L2 K Lf
/-- another label -/
def Act.relabel (l : Int) : Act → Act
  | .ite s g t _ => .ite s g t l
  | .go _ => .go l
  | a => a
theorem AFit.relabel {h : Hd} {hs : List Hd} {w : Int} {L L' : Int → Prop} {a : Act} {l : Int} (f : AFit h hs w L a) (k : L' l) : AFit h hs w L' (a.relabel l) := by
  cases f with
  | set a b => exact .set a b
  | addP a b c => exact .addP a b c
  | addF a b c => exact .addF a b c
  | sum a b c d => exact .sum a b c d
  | midP a b c => exact .midP a b c
  | midF a b c => exact .midF a b c
  | row a b => exact .row a b
  | get a b c => exact .get a b c
  | put a b c => exact .put a b c
  | length a b => exact .length a b
  | ask a b c d => exact .ask a b c d
  | tell a => exact .tell a
  | check a b c => exact .check a b c
  | ite a b c _ => exact .ite a b c k
  | go _ => exact .go k
  | call a b c => exact .call a b c
  | back a => exact .back a
/-- the acts that go to a label -/
def Act.goes : Act → Option Int
  | .ite _ _ _ l => some l
  | .go l => some l
  | _ => none
theorem AFit.raw {h : Hd} {hs : List Hd} {w : Int} {L : Int → Prop} {a : Act} {l : Int} (f : AFit h hs w L a) (e : a.goes = some l) : L l := by
  cases f with
  | ite _ _ _ k => cases e; exact k
  | go k => cases e; exact k
  | _ => cases e
theorem word_goes {h : Hd} {hs : List Hd} {w : Int} {L : Int → Prop} {a : Act} (f : AFit h hs w L a) : (([("if" : Str), "go"].map PyData.str).any fun d => eqF d (.str a.word)) = a.goes.isSome := by
  have T : ∀ s ∈ (["set", "add", "mid", "row", "get", "put", "length", "ask", "tell", "check", "call", "back"] : List Str) ++ sumWords, (([("if" : Str), "go"].map PyData.str).any fun d => eqF d (.str s)) = false := by decide +kernel
  have Y : ∀ s ∈ (["if", "go"] : List Str), (([("if" : Str), "go"].map PyData.str).any fun d => eqF d (.str s)) = true := by decide +kernel
  cases f with
  | sum hs _ _ _ => exact T _ (List.mem_append_right _ hs)
  | ite _ _ _ _ => exact Y "if" (by decide +kernel)
  | go _ => exact Y "go" (by decide +kernel)
  | set => exact T "set" (by decide +kernel)
  | addP => exact T "add" (by decide +kernel)
  | addF => exact T "add" (by decide +kernel)
  | midP => exact T "mid" (by decide +kernel)
  | midF => exact T "mid" (by decide +kernel)
  | row => exact T "row" (by decide +kernel)
  | get => exact T "get" (by decide +kernel)
  | put => exact T "put" (by decide +kernel)
  | length => exact T "length" (by decide +kernel)
  | ask => exact T "ask" (by decide +kernel)
  | tell => exact T "tell" (by decide +kernel)
  | check => exact T "check" (by decide +kernel)
  | call => exact T "call" (by decide +kernel)
  | back => exact T "back" (by decide +kernel)
/-- a def's steps, as they are drawn -/
structure StOk (h : Hd) (hs : List Hd) (w : Int) (st : List Stp) : Prop where
  ne : st ≠ []
  few : st.length ≤ 30
  lab : ∀ s ∈ st, 0 ≤ s.1 ∧ s.1 ≤ 9999
  rise : (st.map (·.1)).Pairwise (· < ·)
  acts : ∀ s ∈ st, AFit h hs w (fun l => l ∈ st.map (·.1)) s.2
  last : ∃ s, st.getLast? = some s ∧ ((∃ y, s.2 = .back y) ∨ ∃ l, s.2 = .go l)
theorem atI_last {α : Type} {xs : List α} {a : α} : atI (xs ++ [a]) (-1) = some a := by
  unfold atI ixN
  rw [if_neg (by decide), if_pos (by rw [List.length_append]; show -((xs.length + 1 : Nat) : Int) ≤ -1; omega)]
  have : ((-1 : Int) + ((xs ++ [a]).length : Nat)).toNat = xs.length := by rw [List.length_append]; show (-1 + ((xs.length + 1 : Nat) : Int)).toNat = _; omega
  show (xs ++ [a])[((-1 : Int) + ((xs ++ [a]).length : Nat)).toNat]? = some a
  rw [this]
  simp
end Dr
namespace Dr
open PySem PySem.Spec PyProof.Rows L2 K Lf
theorem cut_tail {α : Type} (xs : List α) : cutL xs (some 1) none = xs.tail := by
  unfold cutL
  rw [show HT.sIx xs.length 0 (some (1 : Int)) = min 1 xs.length from HT.sIx_nat _ _ 1, HT.sIx_none]
  cases xs with
  | nil => rfl
  | cons a r =>
    rw [show min 1 (a :: r).length = 1 from by rw [List.length_cons]; omega]
    show List.take (r.length + 1 - 1) r = r
    rw [Nat.add_sub_cancel, List.take_length]
theorem cut_init {α : Type} (xs : List α) : cutL xs none (some (-1)) = xs.dropLast := by
  unfold cutL
  rw [HT.sIx_none, List.drop_zero, Nat.sub_zero, List.dropLast_eq_take]
  have e : HT.sIx xs.length xs.length (some (-1 : Int)) = xs.length - 1 := by
    show (if (-1 : Int) < 0 then ((-1 : Int) + (xs.length : Int)).toNat else min (-1 : Int).toNat xs.length) = _
    rw [if_pos (by decide)]
    omega
  rw [e]
theorem last_split {α : Type} {xs : List α} {a : α} (e : xs.getLast? = some a) : ∃ ys, xs = ys ++ [a] := by
  have ne : xs ≠ [] := fun z => by rw [z] at e; cases e
  refine ⟨xs.dropLast, ?_⟩
  have := List.dropLast_concat_getLast ne
  rw [List.getLast?_eq_some_getLast ne] at e
  rw [← Option.some.inj e]
  exact this.symm
theorem rise_snoc {xs : List Int} {a b : Int} (h : xs.Pairwise (· < ·)) (e : xs.getLast? = some a) (l : a < b) : (xs ++ [b]).Pairwise (· < ·) := by
  rw [List.pairwise_append]
  refine ⟨h, List.pairwise_singleton _ _, fun x hx y hy => ?_⟩
  rw [List.mem_singleton.mp hy]
  obtain ⟨ys, rfl⟩ := last_split e
  rcases List.mem_append.mp hx with q | q
  · have := (List.pairwise_append.mp h).2.2 x q a (List.mem_singleton.mpr rfl)
    omega
  · rw [List.mem_singleton.mp q]
    exact l
/-- the steps so far are these acts, turned to labels -/
def Tagged (bs : List Act) (ls : List Int) (st : List Stp) : Prop := ∀ (j : Nat) (s : Stp), st[j]? = some s → ∃ (a : Act) (l : Int), bs[j]? = some a ∧ l ∈ ls ∧ s.2 = a.relabel l
theorem Tagged.nil {bs : List Act} {ls : List Int} : Tagged bs ls [] := fun j s e => by simp at e
theorem Tagged.snoc {bs : List Act} {ls : List Int} {st : List Stp} {x l : Int} {a : Act} (t : Tagged bs ls st) (h : bs[st.length]? = some a) (k : l ∈ ls) : Tagged bs ls (st ++ [(x, a.relabel l)]) := fun j s e => by
  by_cases hj : j < st.length
  · rw [List.getElem?_append_left hj] at e
    exact t j s e
  · rw [List.getElem?_append_right (by omega)] at e
    have : j - st.length = 0 := by
      cases q : j - st.length with
      | zero => rfl
      | succ m => rw [q] at e; simp at e
    rw [this] at e
    cases e
    have : j = st.length := by omega
    exact ⟨a, l, by rw [this]; exact h, k, rfl⟩
theorem stOk_of {h : Hd} {hs : List Hd} {w : Int} {bs : List Act} {ls : List Int} {st : List Stp} {la : Act} (sl : st.length = bs.length) (sm : st.map (·.1) = ls) (tg : Tagged bs ls st) (fb : ∀ a ∈ bs, AFit h hs w Raw a) (few : bs.length ≤ 30)
    (l9 : ∀ l ∈ ls, 0 ≤ l ∧ l ≤ 9999) (lri : ls.Pairwise (· < ·)) (lastb : bs.getLast? = some la) (hl : (∃ y, la = .back y) ∨ ∃ l, la = .go l) : StOk h hs w st := by
  obtain ⟨ys, hys⟩ := last_split lastb
  refine ⟨fun z => ?_, by omega, fun s hs' => l9 s.1 (by rw [← sm]; exact List.mem_map_of_mem hs'), by rw [sm]; exact lri, fun s hs' => ?_, ?_⟩
  · rw [z, hys] at sl
    simp at sl
  · obtain ⟨j, hj⟩ := List.getElem?_of_mem hs'
    obtain ⟨a, l, h1, h2, h3⟩ := tg j s hj
    rw [h3, sm]
    exact (fb a (List.mem_of_getElem? h1)).relabel h2
  · have hne : st ≠ [] := fun z => by rw [z, hys] at sl; simp at sl
    obtain ⟨s, hs'⟩ : ∃ s, st.getLast? = some s := ⟨_, List.getLast?_eq_some_getLast hne⟩
    obtain ⟨zs, hzs⟩ := last_split hs'
    have lz : zs.length = ys.length := by
      rw [hzs, hys, List.length_append, List.length_append] at sl
      simp at sl
      exact sl
    obtain ⟨a, l, h1, h2, h3⟩ := tg zs.length s (by rw [hzs]; simp)
    rw [hys, lz] at h1
    simp at h1
    subst h1
    refine ⟨s, hs', ?_⟩
    rw [h3]
    rcases hl with ⟨y, rfl⟩ | ⟨g, rfl⟩
    · exact .inl ⟨y, rfl⟩
    · exact .inr ⟨l, rfl⟩
end Dr
namespace Dr
open PySem PySem.Spec PyProof.Rows L2 K Lf
theorem Act.relabel_none {a : Act} (h : a.goes = none) (l : Int) : a.relabel l = a := by
  cases a <;> first
    | rfl
    | cases h
/-- the parts ahead of a label -/
def Act.head : Act → List PyData
  | .ite s g t _ => [.str "if", s.d, .str g, t.d]
  | _ => [.str "go"]
theorem Act.goes_d {a : Act} {l : Int} (h : a.goes = some l) : a.d = .tuple (a.head ++ [.int l]) ∧ ∀ k, (a.relabel k).d = .tuple (a.head ++ [.int k]) := by
  cases a <;> first
    | (cases h; exact ⟨rfl, fun _ => rfl⟩)
    | cases h
theorem Act.head_len (a : Act) : a.head.length ≤ 4 := by
  cases a with
  | ite s g t l => exact Nat.le_refl 4
  | _ => exact Nat.le_of_ble_eq_true rfl
end Dr
namespace Dr
open PySem PySem.Spec PyProof.Rows L2 K Lf
def hdName (k : Nat) : Str := (["main", "f", "g"] : List Str).getD k "main"
/-- the heads, as they are drawn -/
structure HdsOk (hs : List Hd) : Prop where
  ok : ∀ h ∈ hs, HdOk h
  name : ∀ (i : Nat) (h : Hd), hs[i]? = some h → h.name = hdName i
  main : ∀ h, hs[0]? = some h → h.params = []
  few : hs.length ≤ 3
/-- a def of this head -/
structure DfOf (h : Hd) (hs : List Hd) (w : Int) (d : Df) : Prop where
  name : d.name = h.name
  params : d.params = h.params
  fingers : d.fingers = h.fingers
  rows : d.rows = h.rows
  steps : StOk h hs w d.steps
/-- a program, as it is drawn -/
structure PgFit (p : Pg) : Prop where
  w0 : 1 ≤ p.wide
  w1 : p.wide ≤ 31
  ex : ∃ (hs : List Hd) (ds : List Df), HdsOk hs ∧ hs ≠ [] ∧ ds.length = hs.length ∧ (∀ (i : Nat) (h : Hd) (d : Df), hs[i]? = some h → ds[i]? = some d → DfOf h hs p.wide d) ∧ (p.defs = ds ∨ p.defs = ds.reverse)
end Dr

set_option maxRecDepth 100000
set_option maxHeartbeats 3900000
/-! sorted(xs), xs a list of pairs of a text and a whole number, any number of them. -/
namespace Pr
open PySem PySem.Spec PyProof.Rows L2 SrtO
abbrev Pl := Str × Int
/-- by the text, then by the number -/
def lt (p q : Pl) : Bool := if p.1 = q.1 then decide (p.2 < q.2) else decide (p.1.cps.toList < q.1.cps.toList)
theorem cps_eq {a b : Str} (h : a.cps.toList = b.cps.toList) : a = b := by
  have e := congrArg List.toArray h
  rw [Array.toArray_toList, Array.toArray_toList] at e
  cases a
  cases b
  cases e
  rfl
theorem lt_yes {p q : Pl} : lt p q = true ↔ p.1.cps.toList < q.1.cps.toList ∨ (p.1 = q.1 ∧ p.2 < q.2) := by
  unfold lt
  by_cases e : p.1 = q.1
  · rw [if_pos e]
    rw [decide_eq_true_eq]
    constructor
    · exact fun h => .inr ⟨e, h⟩
    · rintro (h | h)
      · rw [e] at h
        exact absurd h (List.lt_irrefl _)
      · exact h.2
  · rw [if_neg e]
    rw [decide_eq_true_eq]
    constructor
    · exact .inl
    · rintro (h | h)
      · exact h
      · exact absurd h.1 e
theorem lt_no {p q : Pl} : lt p q = false ↔ q.1.cps.toList < p.1.cps.toList ∨ (p.1 = q.1 ∧ q.2 ≤ p.2) := by
  have y := lt_yes (p := p) (q := q)
  constructor
  · intro h
    have n : ¬ (p.1.cps.toList < q.1.cps.toList ∨ (p.1 = q.1 ∧ p.2 < q.2)) := fun z => by
      rw [y.mpr z] at h
      cases h
    by_cases e : p.1 = q.1
    · refine .inr ⟨e, ?_⟩
      have : ¬ p.2 < q.2 := fun z => n (.inr ⟨e, z⟩)
      omega
    · refine .inl ?_
      have h1 : q.1.cps.toList ≤ p.1.cps.toList := List.not_lt.mp fun z => n (.inl z)
      refine Classical.byContradiction fun h2 => e (cps_eq (List.le_antisymm (List.not_lt.mp h2) h1))
  · intro h
    cases hb : lt p q with
    | false => rfl
    | true =>
      exfalso
      rcases y.mp hb with a | ⟨a, b⟩
      · rcases h with c | ⟨c, _⟩
        · exact List.lt_irrefl _ (List.lt_trans a c)
        · rw [c] at a
          exact List.lt_irrefl _ a
      · rcases h with c | ⟨_, d⟩
        · rw [a] at c
          exact List.lt_irrefl _ c
        · omega
theorem swo {α : Type} (k : α → Pl) : Swo fun v u => lt (k v) (k u) := by
  refine ⟨fun x y h => ?_, fun x y z h1 h2 =>
      ?_⟩
  · refine lt_no.mpr ?_
    rcases lt_yes.mp h with a | ⟨a, b⟩
    · exact .inl a
    · exact .inr ⟨a.symm, by omega⟩
  · refine lt_no.mpr ?_
    rcases lt_no.mp h1 with a | ⟨a, a'⟩ <;> rcases lt_no.mp h2 with b | ⟨b, b'⟩
    · exact .inl (List.lt_trans a b)
    · exact .inl (by rw [b]; exact a)
    · exact .inl (by rw [← a]; exact b)
    · exact .inr ⟨b.trans a, by omega⟩
/-- v is the pair of x and y -/
def Is (h : Heap) (v : Value) (p : Pl) : Prop := ∃ a o t u n, v = .ref a ∧ h.get? a = some o ∧ o.cls = .type "tuple" ∧ o.data = .seq #[.str p.1 t, .int p.2 u] n
theorem Is.keeps {h h' : Heap} {v : Value} {p : Pl} (x : Is h v p) (k : ∀ b o, h.get? b = some o → o.cls = .type "tuple" → h'.get? b = some o) : Is h' v p := let ⟨a, o, t, u, n, e, ho, hc, hd⟩ := x; ⟨a, o, t, u, n, e, k _ _ ho hc, hc, hd⟩
theorem firsts {h : Heap} : ∀ {vs : List Value}, (∀ v ∈ vs, ∃ p, Is h v p) → ∃ fs : List Value, PySem.W.KatTups h vs fs ∧ fs.length = vs.length ∧ ∀ f ∈ fs, ∃ x t, f = Value.str x t
  | [], _ => ⟨[], PySem.W.KatTups.nil, rfl, fun _ m => nomatch m⟩
  | v :: vs, hp => by
    obtain ⟨fs, k1, k2, k3⟩ := firsts (vs := vs) fun z m => hp z (List.mem_cons_of_mem _ m)
    obtain ⟨p, a, o, t, u, n, rfl, ho, hc, hd⟩ := hp v List.mem_cons_self
    refine ⟨.str p.1 t :: fs, PySem.W.KatTups.cons ho hc hd rfl k1, by rw [List.length_cons, List.length_cons, k2], fun f m => ?_⟩
    rcases List.mem_cons.mp m with rfl | m
    · exact ⟨p.1, t, rfl⟩
    · exact k3 f m
section
variable {prog : Program} {w : World} {A : Around} {E : Value → Shared → Prop} {s : Shared}
theorem cmp {vs : List Value} {k : Value → Pl} (hp : ∀ v ∈ vs, Is s.heap v (k v)) : Cmp prog w A s (tuples' true) (fun p => p.1 ∈ vs) (lt2 fun v u => lt (k v) (k u)) := by
  intro p q m m'
  have i1 := hp _ m
  have i2 := hp _ m'
  show wpAny (model prog w) A (keyLt' (tuples' true) p.1 q.1) (fun r s' => s' = s ∧ r = lt (k p.1) (k q.1)) (fun _ _ => False) s
  unfold lt
  generalize k p.1 = f at i1 ⊢
  generalize k q.1 = g at i2 ⊢
  obtain ⟨x, y⟩ := f
  obtain ⟨x', y'⟩ := g
  obtain ⟨a, o, t, u, n, e, ho, hc, hd⟩ := i1
  obtain ⟨a', o', t', u', n', e', ho', hc', hd'⟩ := i2
  rw [e, e']
  dsimp only at hd hd' ⊢
  refine PySem.W.kat_lt ho hd ho' hd'
      ?_
  show PySem.W.KatLex prog w A true (decide (2 < 2)) _ [(.str x t, .str x' t'), (.int y u, .int y' u')] 0 s
  refine PySem.W.kat_cons (SeqAt.EqAt.str_str x t x' t' prog w _ _ (PySem.W.kat_go (fun e1 => ?_) (fun e1 => ?_)))
  · have ex : x = x' := eq_of_beq e1
    refine PySem.W.kat_yes (PySem.W.kat_cons (SeqAt.EqAt.int_int y u y' u' prog w _ _ (PySem.W.kat_go (fun e2 => ?_) (fun e2 => ?_))))
    · have ey : y = y' := by simpa using
          e2
      refine PySem.W.kat_yes (PySem.W.kat_nil ⟨rfl, ?_⟩)
      rw [if_pos ex, ey]
      exact (decide_eq_false (Int.lt_irrefl _)).symm
    · refine PySem.W.kat_no (PySem.W.kat_one _ _ (PyProof.Rows.lt_int ?_))
      exact (show s = s ∧ decide (y < y') = (if x = x' then decide (y < y') else decide (x.cps.toList < x'.cps.toList)) from ⟨rfl, (if_pos ex).symm⟩)
  · have ex : ¬ x = x' := fun z => by
      rw [z] at e1
      simp at e1
    exact PySem.W.kat_no (oneLt_str ⟨rfl, (if_neg ex).symm⟩)
theorem sortable {a : Addr} {vs : List Value} {k : Value → Pl} (h0 : 0 < vs.length) (hp : ∀ v ∈ vs, Is s.heap v (k v)) (ha : ∀ o, s.heap.get? a = some o → o.cls ≠ .type "tuple") : SortableO prog w A s a vs fun v u => lt (k v) (k u) := by
  intro h' keep
  have hp' : ∀ v ∈ vs, Is h' v (k v) := fun v m => (hp v m).keeps fun b o e c => keep b o (fun z => by subst z; exact ha o e c) e
  obtain ⟨fs, k1, k2, k3⟩ := firsts fun v m => ⟨_, hp' v m⟩
  refine ⟨tuples' true, fun Q E hq => ?_, cmp hp'⟩
  refine PySem.W.kat_kind (T := .type "str") k1 (by omega) (fun f m => ?_) (by rfl) ?_
  · obtain ⟨x, t, rfl⟩ := k3 f m
    exact PySem.W.Looks.now
  · have e : (Value.type "str" != Value.type "tuple") = true := by decide +kernel
    rw [e]
    exact hq
end
/-- sorted(xs) -/
def rSp (K : PySem.W.Frag) : List V → Hp → VK → Prop := fun vs H Q => ∃ (a : Addr) (xs : List V) (k : V → Pl), vs = [V.ref a] ∧ SqL K H a xs ∧ (∀ x ∈ xs, ∃ t, x = V.ref t ∧ H t = some (.tup [.str (k x).1, .int (k x).2])) ∧
  ∀ ys p, Srtd (fun x y => lt (k x) (k y)) ys → ys.Perm xs → H p = none → Q (.ref p) (upd H p (.lst ys))
section
variable {X : Cx}
theorem cr_sp : CallR X (.builtin "sorted") (rSp X.K) := by
  intro pins s σ H vs us Q I
  intro r h
  rcases h with ⟨a, xs, k, rfl, hs, hx, q⟩
  rcases I.list hs with ⟨its, rv, hl, hz⟩
  rcases vals1 r with ⟨u, rfl, ru⟩
  have same_as : u = Value.ref a := ru
  subst same_as
  obtain ⟨e1, e2⟩ := refs_back rv fun x m => let ⟨t, e, _⟩ := hx x m; ⟨t, e⟩
  have pairs : ∀ v ∈ its, Is s.heap v (k (backV v)) := fun v hv => by
    obtain ⟨t, rfl⟩ := e2 v hv
    obtain ⟨t', e, ht⟩ := hx (V.ref t) (by rw [e1]; exact List.mem_map.mpr ⟨_, hv, rfl⟩)
    cases e
    rcases I.hok _ _ ht with ⟨_, its2, r2, o, ho, hc, n, hd⟩
    obtain ⟨u1, u2, rfl, ⟨t1, rfl⟩, ⟨t2, rfl⟩⟩ := vals2 r2
    exact ⟨t, o, t1, t2, n, rfl, ho, hc,
        hd⟩
  refine sorted_ord (swo fun u => k (backV u)) hl.isList (by rw [← rv.length]; exact hz) (fun h2 h₁ b hb kk => ?_) fun out h1 h2 => ?_
  · refine sortable (s := { s with heap := h₁ }) (by omega) (fun v m => (pairs v m).keeps fun b o e _ => (kk b o e).2) fun o e => ?_
    cases e.symm.trans hb
    exact fun c => absurd (Value.type.inj c) (by decide)
  · have h3 : ∀ u ∈ out, ∃ a, u = Value.ref a := fun u hu => e2 u (h2.perm.mem_iff.mp
        hu)
    obtain ⟨n, hn⟩ := sortedAll_at s.heap its out.toArray
    have pm : (out.map backV).Perm xs := by
      rw [e1]
      exact h2.perm.map backV
    refine ⟨.ref (s.heap.objs.size + 1), upd H _ (.lst (out.map backV)), I.laid (t' := s.toks) (fun b o e => sortedAll_old e) (Nat.le_succ _) ⟨?_, out, n, vals_back h3, hn⟩, rfl, q _ _ (srtd_map h1) pm (I.hok.fresh (Nat.le_succ _))⟩
    rw [pm.length_eq]
    exact hz
end
end Pr

set_option maxRecDepth 100000
set_option maxHeartbeats 3900000
namespace K
open PySem PySem.Spec PyProof.Rows L2
section
variable {J : It} {n : Nat} {G : Hp → Prop} {Y : Nat → Hp → V → Hp →
    Prop}
/-- a clause, whatever its turn does: F is told what must hold at the next turn -/
theorem lc_out (w : Walk J n G Y) {g : TG} {tt : TT} {vs : List Nat} {σ : L2.St} {H0 : Hp} {Qd : Hp → Prop} (F : L2.St → Hp → (Hp → Prop) → Prop) (Pv : Nat → Hp → Prop) (h0 : Pv 0 H0) (hG : ∀ i H, i ≤ n → Pv i H → G H)
    (hs : ∀ i x H H', i < n → Pv i H → Y i H x H' → g x (wipe σ vs) H' fun σ2 H2 => wipe σ2 vs = wipe σ vs ∧ tt σ2 H2 fun b H3 => if b = true then F σ2 H3 (Pv (i + 1)) else Pv (i + 1) H3) (hd : ∀ H, Pv n H → Qd H) :
    ∃ W : Nat → Nat → Hp → Prop, (∃ m, W 0 m H0) ∧ ∀ i m H, W i m H → (J.stop i H ∧ Qd H) ∨ (J.go i H ∧ ∃ Nx : Hp → Prop, (∀ H', Nx H' → ∃ m', m' < m ∧ W (i + 1) m' H') ∧
      ∀ x H', J.yld i H x H' → g x (wipe σ vs) H' fun σ2 H2 => wipe σ2 vs = wipe σ vs ∧ tt σ2 H2 fun b H3 => if b = true then F σ2 H3 Nx else Nx H3) := by
  refine ⟨fun i m H => m = n - i ∧ i ≤ n ∧ Pv i H, ⟨n, by simp, Nat.zero_le _, h0⟩,
      ?_⟩
  rintro i m H ⟨rfl, hi, p⟩
  have q := hG i H hi p
  rcases Nat.lt_or_ge i n with lt | ge
  · exact .inr ⟨w.goes i H lt q, Pv (i + 1), fun H' p' => ⟨n - (i + 1), by omega, rfl, lt, p'⟩, fun x H' y => hs i x H H' lt p (w.yields i H x H' lt q y)⟩
  · obtain rfl : i = n := by omega
    exact .inl ⟨w.stops H q, hd H
        p⟩
end
end K

set_option maxRecDepth 100000
set_option maxHeartbeats 3900000
namespace Lf
open PySem PySem.Spec PyProof.Rows L2 K
section
variable {X : Cx} {K : PySem.W.Frag} [Tabled K] {o e tg iter elt tg1 iter1 : Expr} {ifs ifs1 : List Expr} {scope : Scope} {own : List (Str × Nat)} {vs1 : List Nat} {pos apos cpos : Pos} {ι ι1 : FI} {γ γ1 : FGt} {S S1 : List Nat} {tt tt1 : FTt} {te τ τo : FT} {τs : FTa}
/-! # where a plain thing stands first in a list -/
def fIndex (τo : FT) (τs : FTa) : FT := fun om P => τo om fun d o1 => (∃ ds, d = .list ds) ∧ τs o1 fun es o2 => match d, es with
  | .list ds, [x] => flatD x = true ∧ ds.all flatD = true ∧ ∃ (j : Nat) (z : PyData), ds[j]? = some z ∧ eqF z x = true ∧ (∀ m z', m < j → ds[m]? = some z' → eqF z' x = false) ∧ P (.int (j : Nat)) o2
  | _, _ => False
theorem fe_index (hK : X.K = K) (ho : PE X o (up K τo)) (ha : PA X [e] (upA K τs))
    (hbase : attributeBase o "index" X.env (eval o X.env) = eval o X.env := by rfl)
    (hfew : ((backTo cpos (starEach [e] X.env)).all (fun x => !x.1) && (backToKw cpos (keywordEach [] X.env)).all (fun x =>
        x.1.isSome)
      && decide (([e] : List Expr).length + ([] : List Keyword).length + (if ([] : List Keyword).isEmpty then 0 else 1) < 30)) = true := by
          rfl)
    (hline : (apos.endLine == cpos.line) = true := by rfl) (hs : starEach [e] X.env = (false, eval e X.env) :: starEach [] X.env := by rfl) :
    PE X (.Call (.Attribute o "index" apos) [e] [] cpos) (up K (fIndex τo τs)) := by
  subst hK
  exact PE.imp (pe_bm PySem.F.plainAttrs_list PySem.F.slot_list_index PySem.F.type_list_index mt_index ho ha hbase hfew hline hs rfl) fun σ H Q ⟨c, G, om, P, r, h, k⟩ => by
    refine ⟨c, G, om, _, r, h, fun d o1 G1 v H1 ⟨⟨ds, ed⟩, p⟩ g r1 q => ?_⟩
    subst ed
    obtain ⟨a, xs, rfl, h1, h2⟩ := q.lstI
    refine ⟨.inl ⟨rfl, _, SqL.of (r1.sub _ _ h1)⟩, c, G1, o1, _, r1, p, fun es o2 G2 ws H2 p2 g2 r2 q2 => ?_⟩
    split at p2
    · rename_i ds' x e1
      cases e1
      obtain ⟨w, rfl, hw⟩ := q2.one
      obtain ⟨fx, fds, j, z, hj, hz, hno, pp⟩ := p2
      have h3 := h2.same g2
      obtain ⟨u, hu, ru⟩ := h3.get hj
      have fz : flatD z = true := List.all_eq_true.mp fds z (List.mem_of_getElem? hj)
      refine ⟨a, xs, w, j, u, rfl, rfl, SqL.of (r2.sub _ _ (g2 _ _ h1)), (flat_v hw fx).2, (inF_v hw fx h3 fds).2, hu, ?_, fun m z' hm hz' => ?_, k _ o2 G2 _ H2 pp (g.trans g2) r2 (.int _)⟩
      · rw [eqF_v ru hw fz fx]
        exact hz
      · obtain ⟨d', hd', rd'⟩ := h3.at hz'
        rw [eqF_v rd' hw (List.all_eq_true.mp fds d' (List.mem_of_getElem? hd')) fx]
        exact hno m d' hm hd'
    · exact p2.elim
/-! # [e for x in it for y in jt] -/
def fLc2 (vs vs1 : List Nat) (ι : FI) (γ : FGt) (tt : FTt) (ι1 : FI) (γ1 : FGt) (tt1 : FTt) (te : FT) : FT := fun o P => ι o fun ds o1 => ∃ I : Nat → List PyData → Om → Prop, I 0 [] (o1.wipe vs) ∧
  (∀ i acc d o, ds[i]? = some d → I i acc o → γ d o fun o2 => tt o2 fun b o3 => if b = true then ι1 o3 fun ds1 o4 => ∃ I1 : Nat → List PyData → Om → Prop, I1 0 acc (o4.wipe vs1) ∧
    (∀ j acc d o, ds1[j]? = some d → I1 j acc o → acc.length < sizeLine ∧ γ1 d o fun o5 => tt1 o5 fun b o6 => if b = true then te o6 fun y o7 => I1 (j + 1) (acc ++ [y]) (o7.wipe vs1) else I1 (j + 1) acc (o6.wipe vs1)) ∧
    ∀ acc o, I1 ds1.length acc o → I (i + 1) acc (o.wipe vs) else I (i + 1) acc (o3.wipe vs)) ∧ ∀ acc o, I ds.length acc o → P (.list acc) o
theorem om_wipe2 (o : Om) {vs ws : List Nat} (h : ∀ j ∈ ws, j ∈ vs) : (o.wipe vs).wipe ws = o.wipe vs := by
  induction ws with
  | nil => rfl
  | cons v ws ih =>
    show ((o.wipe vs).wipe ws).off v = _
    rw [ih fun j hj => h j (List.mem_cons_of_mem _ hj)]
    have hv := h v List.mem_cons_self
    unfold Om.off
    have : (o.wipe vs).vs.set v none = (o.wipe vs).vs := by
      apply List.ext_getElem?
      intro j
      by_cases e : v = j
      · subst e
        by_cases l : v < (o.wipe vs).vs.length
        · rw [List.getElem?_set_self l]
          cases q : (o.wipe vs).vs[v]? with
          | none => rw [List.getElem?_eq_none_iff] at q; omega
          | some x =>
            cases x with
            | none => rfl
            | some y => exact absurd hv (wipe_off q)
        · rw [List.getElem?_eq_none (by rw [List.length_set]; omega), List.getElem?_eq_none (by omega)]
      · rw [List.getElem?_set_ne e]
    rw [this]
theorem wipe2 (σ : L2.St) {vs ws : List Nat} (h : ∀ j ∈ ws, j ∈ vs) : L2.wipe (L2.wipe σ ws) vs = L2.wipe σ vs := wipe_eq (S := ws) (fun j hj => wipe_out hj) (wipe_length _ _) h
theorem lc2_up {vs : List Nat} {σ : L2.St} {H : Hp} {Q : VK} (sub : ∀ j ∈ S, j ∈ vs) (sub1 : ∀ j ∈ S1, j ∈ vs1) (sv : ∀ j ∈ vs1, j ∈ vs) (h : upO K (fLc2 vs vs1 ι γ tt ι1 γ1 tt1 te) σ H Q) : tLc2 (upI K ι) (upG K S γ) (upT K tt) (upI K ι1) (upG K S1 γ1) (upT K tt1) (up K te) vs vs1 σ H Q := by
  obtain ⟨c, G, o, P, r, t, k⟩ := h
  refine ⟨c, G, o, _, r, t, fun ds o1 G1 J H1 ⟨I, i0, is, id⟩ g r1 fw D hD => ?_⟩
  have f1 := fr0 r1 hD
  have nt := r1.tabs.none hD
  refine lc_out (Qd := fun H' => Q (.ref D) H') fw _ (fun i H' => ∃ G2 o2 acc accV, Same G1 G2 ∧ Rs K (c.hold D (.lst accV)) G2 (Om.wipe o2 vs) (L2.wipe σ vs) H' ∧ RpAll K G2 accV acc ∧ I i acc (Om.wipe o2 vs)) ?_ (fun i H' _ ⟨G2, o2, acc, accV, g2, r2, _⟩ => g2.trans r2.sub) ?_ ?_
  · have m := r1.mine hD (.lst [])
    have fr : Free c G1 o1 σ D := f1
    exact ⟨G1, o1, [], [], Same.refl G1, Rs.wipe (m.1.hold f1 upd_same) vs, .nil, i0⟩
  · rintro i x H2 H3 hi ⟨G2, o2, acc, accV, g2, r2, ra, hI⟩ y
    obtain ⟨d, G3, e, g3, r3, q3⟩ := y.keep g2 r2
    refine ⟨_, G3, _, _, d, r3, q3, is i acc d _ e hI, fun o4 G4 σ4 H4 p4 g4 r4 hS hl => ⟨by rw [wipe_eq hS hl sub, wipe_wipe], _, G4, o4, _, r4, p4, fun b o5 G5 H5 p5 g5 r5 => ?_⟩⟩
    have e4 : L2.wipe σ4 vs = L2.wipe σ vs := by rw [wipe_eq hS hl sub, wipe_wipe]
    have hT : c.T ≠ some D := f1.t
    cases b with
    | false =>
      simp only [Bool.false_eq_true, if_false] at p5 ⊢
      have := Rs.wipe r5 vs
      rw [e4] at this
      exact ⟨G5, o5, acc, accV, ((g2.trans g3).trans g4).trans g5, this, ((ra.same g3).same g4).same g5, p5⟩
    | true =>
      simp only [if_true] at p5 ⊢
      refine ⟨_, G5, o5, _, r5, p5, fun ds1 o6 G6 J1 H6 ⟨I1, j0, js, jd⟩ g6 r6 fw1 => ?_⟩
      have ra6 : RpAll K G6 accV acc := (((ra.same g3).same g4).same g5).same g6
      have gg : Same G1 G6 := (((g2.trans g3).trans g4).trans g5).trans g6
      refine lc_out fw1 _ (fun j H' => ∃ G7 o7 acc accV, Same G6 G7 ∧ Rs K (c.hold D (.lst accV)) G7 (Om.wipe o7 vs1) (L2.wipe σ4 vs1) H' ∧ RpAll K G7 accV acc ∧ I1 j acc (Om.wipe o7 vs1)) ⟨G6, o6, acc, accV, Same.refl _, Rs.wipe r6 vs1, ra6, j0⟩ (fun j H' _ ⟨G7, o7, acc, accV, g7, r7, _⟩ => g7.trans r7.sub) ?_ ?_
      · rintro j x1 H7 H8 hj ⟨G7, o7, acc1, accV1, g7, r7, ra7, hI1⟩ y1
        obtain ⟨d1, G8, e8, g8, r8, q8⟩ := y1.keep g7 r7
        obtain ⟨la, q9⟩ := js j acc1 d1 _ e8 hI1
        refine ⟨_, G8, _, _, d1, r8, q8, q9, fun o9 G9 σ9 H9 p9 g9 r9 hS1 hl1 => ⟨by rw [wipe_eq hS1 hl1 sub1, wipe_wipe], _, G9, o9, _, r9, p9, fun b o10 G10 H10 p10 g10 r10 => ?_⟩⟩
        have e9 : L2.wipe σ9 vs1 = L2.wipe σ4 vs1 := by rw [wipe_eq hS1 hl1 sub1, wipe_wipe]
        have back : ∀ {o' G' H'}, Rs K (c.hold D (.lst accV1)) G' o' σ9 H' → Rs K (c.hold D (.lst accV1)) G' (o'.wipe vs1) (L2.wipe σ4 vs1) H' := fun {o' G' H'} r' => by
          have := Rs.wipe r' vs1
          rwa [e9] at this
        cases b with
        | false =>
          simp only [Bool.false_eq_true, if_false] at p10 ⊢
          exact ⟨G10, o10, acc1, accV1, ((g7.trans g8).trans g9).trans g10, back r10, ((ra7.same g8).same g9).same g10, p10⟩
        | true =>
          simp only [if_true] at p10 ⊢
          refine ⟨_, G10, o10, _, r10, p10, fun yd o11 G11 yv H11 p11 g11 r11 q11 => ?_⟩
          obtain ⟨r12, f12, h12⟩ := (back r11).unhold f1.g0 f1.h0 f1.t nt
          have ra12 : RpAll K G11 accV1 acc1 := (((ra7.same g8).same g9).same g10).same g11
          refine ⟨accV1, h12, by rw [ra12.len]; exact la, G11, o11, acc1 ++ [yd], accV1 ++ [yv], (((g7.trans g8).trans g9).trans g10).trans g11, r12.held (.lst (accV1 ++ [yv])) f12 h12 (.inl ⟨_, rfl⟩), ra12.append (.cons q11 .nil), p11⟩
      · rintro H7 ⟨G7, o7, acc1, accV1, g7, r7, ra7, hI1⟩
        have := Rs.wipe r7 vs
        rw [wipe2 σ4 sv, e4] at this
        exact ⟨G7, _, acc1, accV1, gg.trans g7, this, ra7, jd _ _ hI1⟩
  · rintro H2 ⟨G2, o2, acc, accV, g2, r2, ra, hI⟩
    obtain ⟨r7, f7, h7⟩ := r2.unhold f1.g0 f1.h0 f1.t nt
    have e0 : (o2.wipe vs).wipe vs = o2.wipe vs := om_wipe2 o2 fun j h => h
    have r8 : Rs K c G2 (o2.wipe vs) σ H2 := by
      have : Rs K c G2 ((o2.wipe vs).wipe vs) (L2.wipe σ vs) H2 := by rw [e0]; exact r7
      have := Rs.around (σ' := σ) this rfl
      rwa [e0] at this
    refine k _ _ G2 D H2 (id _ _ hI) (g.trans g2) r8 ⟨f7.g, f7.h0, accV, h7, ra⟩ fun j e1 h1 h2 => ?_
    exact f7.ap j e1 h1 (by rw [wipe_out (wipe_off h1)]; exact h2)
theorem fo_lc2 (hc : X.calm = true) (hN : X.N.Nodup) (hi : PI X tg iter (upI K ι)) (ok : BlkOk X.N X.env.scope scope own)
    (hg : ∀ (s : Shared) (H : Hp) (C : Addr) (cl : List (Str × Addr)) (fp : List Addr), PG (X.blk s H scope (compEnvC scope cl C X.env) fp) tg (upG K S γ)) (ht : ∀ (s : Shared) (H : Hp) (C : Addr) (cl : List (Str × Addr)) (fp : List Addr), PTs (X.blk s H scope (compEnvC scope cl C X.env) fp) ifs (upT K tt))
    (hi1 : ∀ (s : Shared) (H : Hp) (C : Addr) (cl : List (Str × Addr)) (fp : List Addr), PI (X.blk s H scope (compEnvC scope cl C X.env) fp) tg1 iter1 (upI K ι1))
    (hg1 : ∀ (s : Shared) (H : Hp) (C : Addr) (cl : List (Str × Addr)) (fp : List Addr), PG (X.blk s H scope (compEnvC scope cl C X.env) fp) tg1 (upG K S1 γ1)) (ht1 : ∀ (s : Shared) (H : Hp) (C : Addr) (cl : List (Str × Addr)) (fp : List Addr), PTs (X.blk s H scope (compEnvC scope cl C X.env) fp) ifs1 (upT K tt1))
    (he : ∀ (s : Shared) (H : Hp) (C : Addr) (cl : List (Str × Addr)) (fp : List Addr), PE (X.blk s H scope (compEnvC scope cl C X.env) fp) elt (up K te)) (sub : ∀ j ∈ S, j ∈ own.map (·.2)) (sub1 : ∀ j ∈ S1, j ∈ vs1) (hv : ∀ i ∈ vs1, i ∈ own.map (·.2)) (hs : ∀ x, foldedSetIterable iter X.env x = pure x := by intro _; rfl) (hs1 : ∀ env x, foldedSetIterable iter1 env x = pure x := by intro _ _; rfl) :
    PE X (.ListComp elt [⟨tg, iter, ifs, 0⟩, ⟨tg1, iter1, ifs1, 0⟩] scope pos) (upO K (fLc2 (own.map (·.2)) vs1 ι γ tt ι1 γ1 tt1 te)) := PE.imp (pe_lc2 hc hN hi ok hv hg ht hi1 hg1 ht1 he hs hs1) fun _ _ _ => lc2_up sub sub1 hv
/-! # sorted(..) of pairs of a text and a number -/
def plD (p : Pr.Pl) : PyData := .tuple [.str p.1, .int p.2]
def rSpD (K : PySem.W.Frag) : List V → Hp → VK → Prop := fun vs H Q => ∃ (a : Addr) (xs : List V) (ps : List Pr.Pl) (G : Hp), vs = [V.ref a] ∧ SqL K H a xs ∧ Same G H ∧ RpAll K G xs (ps.map plD) ∧
  ∀ ys qs p, SrtO.Srtd Pr.lt qs → qs.Perm ps → RpAll K G ys (qs.map plD) → H p = none → Q (.ref p) (upd H p (.lst ys))
theorem plD_at {K : PySem.W.Frag} {G : Hp} {v : V} {p : Pr.Pl} (h : Rp K G v (plD p)) : ∃ a, v = .ref a ∧ SqT K G a [.str p.1, .int p.2] := by
  obtain ⟨a, xs, rfl, h1, h2⟩ := h.tupI
  obtain ⟨v, u, rfl, h3, h4⟩ := h2.two
  rw [h3.strI, h4.intI] at h1
  exact ⟨a, rfl, h1⟩
noncomputable def plKey (K : PySem.W.Frag) (G : Hp) (v : V) : Pr.Pl := @Classical.epsilon _ ⟨("", 0)⟩ fun p => Rp K G v (plD p)
theorem plD_one {pins : List (Addr × Obj)} {σ : L2.St} {G H : Hp} {s : Shared} (I : Inv X pins σ H s) (g : Same G H) {v : V} {p q : Pr.Pl} (h1 : Rp X.K G v (plD p)) (h2 : Rp X.K G v (plD q)) : p = q := by
  obtain ⟨a, rfl, k1⟩ := plD_at h1
  obtain ⟨b, e, k2⟩ := plD_at h2
  cases e
  have := Zm.one (m := true) I (sqT_same g k1) (sqT_same g k2)
  cases p
  cases q
  cases this
  rfl
theorem plKey_is {pins : List (Addr × Obj)} {σ : L2.St} {G H : Hp} {s : Shared} (I : Inv X pins σ H s) (g : Same G H) {v : V} {p : Pr.Pl} (h : Rp X.K G v (plD p)) : plKey X.K G v = p := by
  have := @Classical.epsilon_spec _ (fun p => Rp X.K G v (plD p)) ⟨p, h⟩
  exact plD_one I g this h
theorem keys_are {pins : List (Addr × Obj)} {σ : L2.St} {G H : Hp} {s : Shared} (I : Inv X pins σ H s) (g : Same G H) : ∀ {xs : List V} {ps : List Pr.Pl}, RpAll X.K G xs (ps.map plD) → xs.map (plKey X.K G) = ps
  | [], [], .nil => rfl
  | x :: xs, p :: ps, .cons h r => by
    rw [List.map_cons, plKey_is I g h, keys_are I g r]
theorem rpAll_of {K : PySem.W.Frag} {G : Hp} {k : V → Pr.Pl} : ∀ {xs : List V}, (∀ x ∈ xs, Rp K G x (plD (k x))) → RpAll K G xs ((xs.map k).map plD)
  | [], _ => .nil
  | x :: xs, h => .cons (h x List.mem_cons_self) (rpAll_of fun y m => h y (List.mem_cons_of_mem _ m))
theorem mem_rp {K : PySem.W.Frag} {G : Hp} : ∀ {xs : List V} {ps : List Pr.Pl}, RpAll K G xs (ps.map plD) → ∀ x ∈ xs, ∃ p, Rp K G x (plD p)
  | [], _, _ => fun x m => nomatch m
  | x :: xs, p :: ps, .cons h r => fun y m => by
    rcases List.mem_cons.mp m with rfl | m
    · exact ⟨p, h⟩
    · exact mem_rp r y m
theorem cr_spD : CallR X (.builtin "sorted") (rSpD X.K) := by
  intro pins s σ H vs us Q I
  intro r h
  rcases h with ⟨a, xs, ps, G, rfl, hs, g, hx, q⟩
  rcases I.list hs with ⟨its, rv, hl, hz⟩
  rcases vals1 r with ⟨u, rfl, ru⟩
  have same_as : u = Value.ref a := ru
  subst same_as
  have hx' : ∀ x ∈ xs, Rp X.K G x (plD (plKey X.K G x)) := fun x m => by
    obtain ⟨p, hp⟩ := mem_rp hx x m
    rw [plKey_is I g hp]
    exact hp
  obtain ⟨e1, e2⟩ := refs_back rv fun x m => let ⟨t, e, _⟩ := plD_at (hx' x m); ⟨t, e⟩
  have pairs : ∀ v ∈ its, Pr.Is s.heap v (plKey X.K G (backV v)) := fun v hv => by
    obtain ⟨t, rfl⟩ := e2 v hv
    obtain ⟨t', e, ht⟩ := plD_at (hx' (V.ref t) (by rw [e1]; exact List.mem_map.mpr ⟨_, hv, rfl⟩))
    cases e
    obtain ⟨its2, r2, ⟨o, ho, hc, n, hd⟩, _⟩ := I.tuple (sqT_same g ht)
    obtain ⟨u1, u2, rfl, ⟨t1, rfl⟩, ⟨t2, rfl⟩⟩ := vals2 r2
    exact ⟨t, o, t1, t2, n, rfl, ho, hc,
        hd⟩
  refine SrtO.sorted_ord (Pr.swo fun u => plKey X.K G (backV u)) hl.isList (by rw [← rv.length]; exact hz) (fun h2 h₁ b hb kk => ?_) fun out h1 h2 => ?_
  · refine Pr.sortable (s := { s with heap := h₁ }) (by omega) (fun v m => (pairs v m).keeps fun b o e _ => (kk b o e).2) fun o e => ?_
    cases e.symm.trans hb
    exact fun c => absurd (Value.type.inj c) (by decide)
  · have h3 : ∀ u ∈ out, ∃ a, u = Value.ref a := fun u hu => e2 u (h2.perm.mem_iff.mp
        hu)
    obtain ⟨n, hn⟩ := sortedAll_at s.heap its out.toArray
    have pm : (out.map backV).Perm xs := by
      rw [e1]
      exact h2.perm.map backV
    refine ⟨.ref (s.heap.objs.size + 1), upd H _ (.lst (out.map backV)), I.laid (t' := s.toks) (fun b o e => sortedAll_old e) (Nat.le_succ _) ⟨?_, out, n, vals_back h3, hn⟩, rfl, q (out.map backV) ((out.map backV).map (plKey X.K G)) _ ?_ ?_ ?_ (I.hok.fresh (Nat.le_succ _))⟩
    · rw [pm.length_eq]
      exact hz
    · rw [List.map_map]
      exact SrtO.srtd_map h1
    · have := pm.map (plKey X.K G)
      rwa [keys_are I g hx] at this
    · exact rpAll_of fun x m => hx' x (pm.mem_iff.mp m)
end
end Lf

set_option maxRecDepth 100000
set_option maxHeartbeats 3900000
namespace Lf
open PySem PySem.Spec PyProof.Rows L2 K
/-! # written tables of a module -/
structure KTab (K : PySem.W.Frag) (w : World) (mg : Str → Option Value) (x : Str) (f : Str → Option PyData) : Prop where
  ex : ∃ a es n, mg x = some (.ref a) ∧ KDict K w a es n ∧ ∀ z, ∃ r, PySem.W.nsIn K a z = some r ∧ match f z with
    | none => r = none
    | some d => ∃ u v, r = some u ∧ RelV v u ∧ ∀ G : Hp, Rp K G v d
section
variable {X : Cx} {K : PySem.W.Frag} [Tabled K] {a b e o : Expr} {es : List Expr} {kws : List Keyword} {τ τa τb τo τk : FT} {τs τks : FTa} {pos p apos cpos : Pos} {x : Str} {f : Str → Option PyData}
def fKGet (f : Str → Option PyData) (τ : FT) : FT := fun o P => τ o fun d o1 => match d with
  | .str z => ∃ e, f z = some e ∧ P e o1
  | _ => False
def fKIn (f : Str → Option PyData) (τ : FT) : FT := fun o P => τ o fun d o1 => match d with
  | .str z => P (.bool (f z).isSome) o1
  | _ => False
theorem fe_kget (hK : X.K = K) (T : KTab X.K X.w X.mg x f) (hg : Gl X x) (hb : PE X b (up K τ)) (hs : PlainIx b := by exact fun _ _ => rfl) (hd : (x == ("__debug__" : Str)) = false := by decide) : PE X (.Subscript (.Name x p) b pos) (up K (fKGet f τ)) := by
  subst hK
  obtain ⟨a, es, n, gm, D, hf⟩ := T.ex
  exact PE.imp (pe_ix ix_kdict (pe_glob (v := .ref a) hg gm rfl hd) hb hs) fun σ H Q ⟨c, G, o, P, r, h, k⟩ => ⟨c, G, o, _, r, h, fun d o1 G1 v H1 p1 g r1 q => by
    split at p1
    · rename_i z
      obtain ⟨e, h1, h2⟩ := p1
      obtain ⟨r0, n0, m0⟩ := hf z
      rw [h1] at m0
      obtain ⟨u, v0, rfl, rv, rp⟩ := m0
      exact ⟨a, z, v0, rfl, q.strI, ⟨es, n, u, D.at_, D.lit, n0, rv⟩, k e o1 G1 v0 H1 h2 g r1 (rp G1)⟩
    · exact p1.elim⟩
theorem kin_up {a : Addr} {es : Array DictEntry} {n : Nat} (hf : ∀ z, ∃ r, PySem.W.nsIn K a z = some r ∧ match f z with
    | none => r = none
    | some d => ∃ u v, r = some u ∧ RelV v u ∧ ∀ G : Hp, Rp K G v d) {σ : L2.St} {H : Hp} {Q : VK} (h : up K (fKIn f τ) σ H Q) :
    tOp (fun x y H Q => ∃ (z : Str) (r : Option Value), x = .str z ∧ y = .ref a ∧ PySem.W.nsIn K a z = some r ∧ Q (.bl r.isSome) H) (up K τ) (tC (.ref a)) σ H Q := by
  obtain ⟨c, G, o, P, r, h, k⟩ := h
  refine ⟨c, G, o, _, r, h, fun d o1 G1 v H1 p1 g r1 q => ?_⟩
  split at p1
  · rename_i z
    obtain ⟨r0, n0, m0⟩ := hf z
    refine ⟨z, r0, q.strI, rfl, n0, ?_⟩
    have e0 : r0.isSome = (f z).isSome := by
      cases e : f z with
      | none => rw [e] at m0; rw [m0]; rfl
      | some d => rw [e] at m0; obtain ⟨u, v, e1, _⟩ := m0; rw [e1]; rfl
    rw [e0]
    exact k _ o1 G1 _ H1 p1 g r1 (.bl _)
  · exact p1.elim
theorem fe_kin (hK : X.K = K) (T : KTab X.K X.w X.mg x f) (hg : Gl X x) (hb : PE X b (up K τ)) (hm : behindInMarks .In (.Name x p) = false := by rfl) (hd : (x == ("__debug__" : Str)) = false := by decide) : PE X (.Compare b [.In] [.Name x p] pos) (up K (fKIn f τ)) := by
  subst hK
  obtain ⟨a, es, n, gm, D, hf⟩ := T.ex
  exact PE.imp (pe_cmpR (op_in_kd D) hb (pe_glob (v := .ref a) hg gm rfl hd) hm) fun _ _ _ => kin_up (es := es) (n := n) hf
theorem ft_kin (hK : X.K = K) (T : KTab X.K X.w X.mg x f) (hg : Gl X x) (hb : PE X b (up K τ)) (hm : behindInMarks .In (.Name x p) = false := by rfl) (hd : (x == ("__debug__" : Str)) = false := by decide) : PT X (.Compare b [.In] [.Name x p] pos) (upT K (fT (fKIn f τ))) := by
  subst hK
  obtain ⟨a, es, n, gm, D, hf⟩ := T.ex
  exact PT.imp (pt_cmpR (op_in_kd D) hb (pe_glob (v := .ref a) hg gm rfl hd) hm) fun σ H Q h => kin_up (es := es) (n := n) hf (ft_bool h)
/-! # d.get(k), d.update(e) -/
def simpleD (kvs : List (PyData × PyData)) : Prop := kvs = [] ∨ ∃ k v r, kvs = (kD k, v) :: r
theorem dic_simple {G : Hp} {v : V} {kvs : List (PyData × PyData)} (h : Rp K G v (.dict kvs)) (s : simpleD kvs) : ∃ a es, v = .ref a ∧ G a = some (.dK es) ∧ RpK K G es kvs := by
  obtain ⟨a, rfl, ⟨es, h1, h2⟩ | ⟨es, h1, ne, h2⟩⟩ := h.dicI
  · exact ⟨a, es, rfl, h1, h2⟩
  · rcases s with rfl | ⟨k, v, r, rfl⟩
    · cases h2
      exact absurd rfl ne
    · cases k <;> cases h2
def fGet1 (τo τk : FT) : FT := fun o P => τo o fun d o1 => (∃ kvs, d = .dict kvs ∧ simpleD kvs) ∧ τk o1 fun e o2 => match d, e with
  | .dict kvs, .str y => P ((lookK (.inr y) kvs).getD .none) o2
  | _, _ => False
theorem fe_get1 (hu : X.A.units + 1 < cLine) (ho : PE X o (up K τo)) (he : PE X e (up K τk)) (m : M1 X o "get" apos e cpos := by exact ⟨rfl, rfl, rfl, rfl⟩) : PE X (.Call (.Attribute o "get" apos) [e] [] cpos) (up K (fGet1 τo τk)) := PE.imp (pe_dget1 hu ho he m) fun σ H Q ⟨c, G, o, P, r, h, k⟩ =>
  ⟨c, G, o, _, r, h, fun d o1 G1 v H1 ⟨⟨kvs, ed, sd⟩, p⟩ g r1 q => by
    subst ed
    obtain ⟨a, es, rfl, h1, h2⟩ := dic_simple q sd
    refine ⟨a, rfl, .inl ⟨es, .inl (r1.sub _ _ h1)⟩, c, G1, o1, _, r1, p, fun e o2 G2 u H2 p2 g2 r2 q2 => ?_⟩
    split at p2
    · rename_i kvs' y e1
      cases e1
      have dg := DGet.k (k := .inr y) (r2.sub _ _ (g2 _ _ h1))
      have h3 : RpK K G2 es kvs := RpK.same g2 h2
      rw [q2.strI]
      refine ⟨_, dg, k _ o2 G2 _ H2 p2 (g.trans g2) r2 ?_⟩
      rcases h3.val (k := .inr y) with ⟨v, d', e1, e2, rr⟩ | ⟨e1, e2⟩
      · rw [e1, e2]
        exact rr
      · rw [e1, e2]
        exact .non
    · exact p2.elim⟩
def mergeD : List (PyData × PyData) → List (PyData × PyData) → List (PyData × PyData)
  | xs, [] => xs
  | xs, (k, v) :: r => match keyOf k with
    | some k => mergeD (putD k v xs) r
    | none => xs
theorem keyOf_kD (k : Key) : keyOf (kD k) = some k := by cases k <;> rfl
theorem RpK.merge {G : Hp} : ∀ {fs es : List (Key × V)} {gs ds : List (PyData × PyData)}, RpK K G es ds → RpK K G fs gs → RpK K G (mergeK es fs) (mergeD ds gs)
  | _, _, _, _, r, .nil => r
  | _, es, _, ds, r, .cons (k := k) (v := v) (vs := fs) (d := d) (ds := gs) h t => by
    show RpK K G (mergeK (putK es k v) fs) (mergeD ds ((kD k, d) :: gs))
    have : mergeD ds ((kD k, d) :: gs) = mergeD (putD k d ds) gs := by
      rw [mergeD, keyOf_kD]
    rw [this]
    exact RpK.merge (r.put h) t
def fUpd (i : Nat) (τs : FTa) : FT := fun o P => τs o fun ds o1 => match ds, o1.vs[i]? with
  | [.dict kvs], some (some (.own (.dict xs))) => simpleD kvs ∧ xs.length + kvs.length ≤ sizeLine ∧ P .none (o1.put i (.own (.dict (mergeD xs kvs))))
  | _, _ => False
theorem fe_update {i : Nat} (hv : PE X o (tVar i)) (ha : PA X [e] (upA K τs))
    (hbase : attributeBase o "update" X.env (eval o X.env) = eval o X.env := by rfl)
    (hfew : ((backTo cpos (starEach [e] X.env)).all (fun x => !x.1) && (backToKw cpos (keywordEach [] X.env)).all (fun x =>
        x.1.isSome)
      && decide (([e] : List Expr).length + ([] : List Keyword).length + (if ([] : List Keyword).isEmpty then 0 else 1) < 30)) = true := by
          rfl)
    (hline : (apos.endLine == cpos.line) = true := by rfl) (hs : starEach [e] X.env = (false, eval e X.env) :: starEach [] X.env := by rfl) :
    PE X (.Call (.Attribute o "update" apos) [e] [] cpos) (up K fun om P => isOwnD om i ∧ fUpd i τs om P) := PE.imp (pe_bm PySem.F.plainAttrs_dict PySem.F.slot_dict_update PySem.F.type_dict_update Zm.mt_update hv ha hbase hfew hline hs rfl) fun σ H Q ⟨c, G, om, P, r, ⟨⟨x0, h0⟩, h⟩, k⟩ => by
  obtain ⟨a, vs, h1, h2, h3⟩ := own_dict r h0
  refine ⟨_, h1, .inr (.inr (.inl ⟨rfl, .inl ⟨_, h2⟩⟩)), c, G, om, _, r, h, fun ds o1 G1 ws H1 p g r1 q => ?_⟩
  split at p
  · rename_i kvs xs hi
    obtain ⟨w, rfl, hw⟩ := q.one
    obtain ⟨sd, lz, pp⟩ := p
    obtain ⟨b, es, rfl, h7, h8⟩ := dic_simple hw sd
    obtain ⟨a', vs', h4, h5, h6⟩ := own_dict r1 hi
    rw [h1] at h4
    cases h4
    have ne : a ≠ b := fun z => by
      obtain ⟨v0, h9, b0, rfl, m⟩ := r1.var i _ hi
      rw [h1] at h9
      cases h9
      rw [z] at m
      rw [m.off] at h7
      cases h7
    refine ⟨a, b, vs', es, rfl, rfl, h5, r1.sub _ _ h7, ne, by rw [h6.len, h8.len]; exact lz, k _ _ G1 _ _ pp g (r1.write hi h1 ⟨_, upd_same, h6.merge h8⟩) .non⟩
  · exact p.elim
/-! # repr(..) of data -/
def seqLike : PyData → Bool
  | .list _ => true
  | .tuple _ => true
  | _ => false
def fRepr (τs : FTa) : FT := fun o P => τs o fun ds o1 => match ds with
  | [d] => seqLike d = true ∧ d.hasDict = false ∧ d.showable = true ∧ d.depth ≤ 30 ∧ d.shown.length ≤ sizeLine ∧ P (.str d.shown) o1
  | _ => False
theorem fe_repr (hK : X.K = K) (hq : X.A.guards = some []) (hu : X.A.units + 64 < cLine) (hg : Gl X "repr") (hm : X.mg "repr" = none) (ha : PA X [e] (upA K τs)) (he : starEach [e] X.env = (false, eval e X.env) :: starEach [] X.env := by rfl) : PE X (.Call (.Name "repr" p) [e] [] pos) (up K (fRepr τs)) := by
  subst hK
  exact PE.imp (pe_callB (call_repD hq hu) hg hm (by decide +kernel) ha (by decide) (by decide) he rfl) fun σ H Q ⟨c, G, om, P, r, h, k⟩ => ⟨c, G, om, _, r, h, fun ds o1 G1 vs H1 p g r1 q => by
    split at p
    · rename_i d
      obtain ⟨v, rfl, hv⟩ := q.one
      obtain ⟨sl, h1, h2, h3, h4, pp⟩ := p
      have hd := (hv.same r1.sub).dp h1
      have : ∃ a, v = .ref a := by
        cases d with
        | list xs => obtain ⟨a, _, e, _⟩ := hv.lstI; exact ⟨a, e⟩
        | tuple xs => obtain ⟨a, _, e, _⟩ := hv.tupI; exact ⟨a, e⟩
        | _ => cases sl
      obtain ⟨a, rfl⟩ := this
      exact ⟨a, d, rfl, hd, h1, h2, h3, h4, k _ o1 G1 _ H1 pp g r1 (.str _)⟩
    · exact p.elim⟩
/-! # calls by keywords -/
variable {ks : List Str} {n k j : Nat} {φ : Ph} {gV : List V → List V → List V} {gd : List PyData → List PyData → List PyData}
def fCallK (n m : Nat) (gd : List PyData → List PyData → List PyData) (φ : Ph) (τs τks : FTa) : FT := fun o P => τs o fun ds o1 => τks o1 fun es o2 => ds.length = n ∧ es.length = m ∧ φ (gd ds es) fun d => P d o2
theorem fks_nil : PK X [] (upA K fun o P => P [] o) := ⟨fun pos pins s σ H Q I ⟨c, G, o, P, r, h, k⟩ => pk_nil.run pos pins s σ H Q I (k [] o G [] H h (Same.refl G) r .nil)⟩
end
section
variable {X : Cx} {K : PySem.W.Frag} [Tabled K] {e : Expr} {es : List Expr} {kws : List Keyword} {τ : FT} {τs τks : FTa} {pos p : Pos} {x : Str} {nm : Option Str} {ks : List Str} {n k j : Nat} {φ : Ph} {gV : List V → List V → List V} {gd : List PyData → List PyData → List PyData}
theorem PK.imp {t t' : TA} (h : PK X kws t) (i : ∀ σ H Q, t' σ H Q → t σ H Q) : PK X kws t' := ⟨fun pos pins s σ H Q I q => h.run pos pins s σ H Q I (i σ H Q q)⟩
theorem cons_up {σ : L2.St} {H : Hp} {Q : List V → Hp → Prop} (h : upA K (fCons τ τs) σ H Q) : tCons (up K τ) (upA K τs) σ H Q := by
  obtain ⟨c, G, o, P, r, h, k⟩ := h
  exact ⟨c, G, o, _, r, h, fun d o1 G1 v H1 p g r1 q => ⟨c, G1, o1, _, r1, p, fun ds o2 G2 vs H2 p2 g2 r2 q2 => k _ o2 G2 _ H2 p2 (g.trans g2) r2 (.cons (q.same g2) q2)⟩⟩
theorem fks_cons {kpos : Pos} (ha : PE X e (up K τ)) (hr : PK X kws (upA K τs)) : PK X (⟨nm, e, kpos⟩ :: kws) (upA K (fCons τ τs)) := PK.imp (pk_cons ha hr) fun _ _ _ => cons_up
theorem callK_P {σ : L2.St} {H : Hp} {Q : VK} (hg : ∀ G vs ws ds es, RpAll K G vs ds → RpAll K G ws es → RpAll K G (gV vs ws) (gd ds es)) (h : up K (fCallK n ks.length gd φ τs τks) σ H Q) : L2.tCallN n ks.length (spP K φ) gV C8.E0 (upA K τs) (upA K τks) σ H Q := by
  obtain ⟨c, G, o, P, r, t, kk⟩ := h
  refine ⟨c, G, o, _, r, t, fun ds o1 G1 vs H1 p g r1 q => ⟨c, G1, o1, _, r1, p, fun es o2 G2 ws H2 ⟨l1, l2, p2⟩ g2 r2 q2 => ⟨by rw [q.len]; exact l1, by rw [q2.len]; exact l2, ?_⟩⟩⟩
  exact ⟨G2, _, _, r2.rdy, hg _ _ _ _ _ (q.same g2) q2, p2, fun d v G' H' pd s g3 s3 n rr => kk d o2 G' v H' pd ((g.trans g2).trans g3) (r2.growT g3 s s3.tabs s3.sub n) rr⟩
theorem callK_O {σ : L2.St} {H : Hp} {Q : VK} (hg : ∀ G vs ws ds es, RpAll K G vs ds → RpAll K G ws es → RpAll K G (gV vs ws) (gd ds es)) (h : upO K (fCallK n ks.length gd φ τs τks) σ H Q) : L2.tCallN n ks.length (spO K φ) gV C8.E0 (upA K τs) (upA K τks) σ H Q := by
  obtain ⟨c, G, o, P, r, t, kk⟩ := h
  refine ⟨c, G, o, _, r, t, fun ds o1 G1 vs H1 p g r1 q => ⟨c, G1, o1, _, r1, p, fun es o2 G2 ws H2 ⟨l1, l2, p2⟩ g2 r2 q2 => ⟨by rw [q.len]; exact l1, by rw [q2.len]; exact l2, ?_⟩⟩⟩
  refine ⟨G2, _, _, r2.rdy, hg _ _ _ _ _ (q.same g2) q2, p2, fun d a G' H' pd s g3 s3 n e1 e2 rr => kk d o2 G' a H' pd ((g.trans g2).trans g3) (r2.growT g3 s s3.tabs s3.sub n) ⟨e1, r2.h0 e2, rr⟩ fun j e h1 h2 => ?_⟩
  obtain ⟨v, h3, b, rfl, m⟩ := r2.var j _ h1
  rw [h2] at h3
  cases h3
  exact m.at'.ne e2
theorem fo_cK (hg : ∀ G vs ws ds es, RpAll K G vs ds → RpAll K G ws es → RpAll K G (gV vs ws) (gd ds es)) (c : CalN X.prog X.w X.K X.mg X.base k x (spO K φ) n ks gV) (hr : Room j X.A) (hk : k ≤ j) (hgl : Gl X x) (ha : PA X (e :: es) (upA K τs)) (hkw : PK X kws (upA K τks))
    (hall : (backToKw pos (keywordEach kws X.env)).all (·.1.isSome) = true := by rfl) (hks : (backToKw pos (keywordEach kws X.env)).filterMap (·.1) = ks := by rfl)
    (nodb : (x == ("__debug__" : Str)) = false := by decide) (est : starEach (e :: es) X.env = (false, eval e X.env) :: starEach es X.env := by rfl)
    (plain : ((backTo pos (starEach (e :: es) X.env)).any (·.1) || (backToKw pos (keywordEach kws X.env)).any (·.1.isNone)) = false := by rfl) :
    PE X (.Call (.Name x p) (e :: es) kws pos) (upO K (fCallK n ks.length gd φ τs τks)) := PE.imp (pe_cN c hr hk hgl ha hkw hall hks nodb est plain) fun _ _ _ => callK_O hg
theorem fe_cK (hg : ∀ G vs ws ds es, RpAll K G vs ds → RpAll K G ws es → RpAll K G (gV vs ws) (gd ds es)) (c : CalN X.prog X.w X.K X.mg X.base k x (spP K φ) n ks gV) (hr : Room j X.A) (hk : k ≤ j) (hgl : Gl X x) (ha : PA X (e :: es) (upA K τs)) (hkw : PK X kws (upA K τks))
    (hall : (backToKw pos (keywordEach kws X.env)).all (·.1.isSome) = true := by rfl) (hks : (backToKw pos (keywordEach kws X.env)).filterMap (·.1) = ks := by rfl)
    (nodb : (x == ("__debug__" : Str)) = false := by decide) (est : starEach (e :: es) X.env = (false, eval e X.env) :: starEach es X.env := by rfl)
    (plain : ((backTo pos (starEach (e :: es) X.env)).any (·.1) || (backToKw pos (keywordEach kws X.env)).any (·.1.isNone)) = false := by rfl) :
    PE X (.Call (.Name x p) (e :: es) kws pos) (up K (fCallK n ks.length gd φ τs τks)) := PE.imp (pe_cN c hr hk hgl ha hkw hall hks nodb est plain) fun _ _ _ => callK_P hg
/-- keywords alone -/
def fCallK0 (m : Nat) (gd : List PyData → List PyData → List PyData) (φ : Ph) (τks : FTa) : FT := fun o P => τks o fun es o2 => es.length = m ∧ φ (gd [] es) fun d => P d o2
theorem fo_cK0 (hg : ∀ G vs ws ds es, RpAll K G vs ds → RpAll K G ws es → RpAll K G (gV vs ws) (gd ds es)) (c : CalN X.prog X.w X.K X.mg X.base k x (spO K φ) 0 ks gV) (hr : Room j X.A) (hk : k ≤ j) (hgl : Gl X x) (hkw : PK X kws (upA K τks))
    (hall : (backToKw pos (keywordEach kws X.env)).all (·.1.isSome) = true := by rfl) (hks : (backToKw pos (keywordEach kws X.env)).filterMap (·.1) = ks := by rfl)
    (nodb : (x == ("__debug__" : Str)) = false := by decide)
    (plain : ((backTo pos (starEach [] X.env)).any (·.1) || (backToKw pos (keywordEach kws X.env)).any (·.1.isNone)) = false := by rfl) :
    PE X (.Call (.Name x p) [] kws pos) (upO K (fCallK0 ks.length gd φ τks)) := PE.imp (pe_cN0 c hr hk hgl hkw hall hks nodb plain) fun σ H Q ⟨c, G, o, P, r, t, kk⟩ => by
  refine ⟨c, G, o, _, r, t, fun es o2 G2 ws H2 ⟨l2, p2⟩ g2 r2 q2 => ⟨rfl, by rw [q2.len]; exact l2, ?_⟩⟩
  refine ⟨G2, _, _, r2.rdy, hg _ _ _ _ _ .nil q2, p2, fun d a G' H' pd s g3 s3 n e1 e2 rr => kk d o2 G' a H' pd (g2.trans g3) (r2.growT g3 s s3.tabs s3.sub n) ⟨e1, r2.h0 e2, rr⟩ fun j e h1 h2 => ?_⟩
  obtain ⟨v, h3, b, rfl, m⟩ := r2.var j _ h1
  rw [h2] at h3
  cases h3
  exact m.at'.ne e2
end
/-! # the law's tape -/
def spTp (K : PySem.W.Frag) : Sp := fun vs H Q _ => ∃ (a : Addr) (ns : List Int) (k : Nat), vs = [.ref a, .int (k : Int)] ∧ SqL K H a (ns.map V.int) ∧ ns.length ≤ 63 ∧ k < 1000 ∧
  ∀ (p : Addr) (H' : Hp), Same H H' → H p = none → Tp H' p 0 → Q (.ref p) H'
def noTp1 : Option Ho → Option Ho
  | some (.oth none) => none
  | x => x
def Om.noTp (o : Om) : Om := ⟨o.vs.map noTp1, o.n⟩
theorem noTp1_some {x : Option Ho} {w : Ho} (h : noTp1 x = some w) : x = some w ∧ w ≠ .tp := by
  cases x with
  | none => cases h
  | some y =>
    cases y with
    | dat d => cases h; exact ⟨rfl, fun z => nomatch z⟩
    | own d => cases h; exact ⟨rfl, fun z => nomatch z⟩
    | oth k =>
      cases k with
      | none => cases h
      | some ns => cases h; exact ⟨rfl, fun z => nomatch z⟩
theorem noTp_at {o : Om} {i : Nat} {w : Ho} (h : o.noTp.vs[i]? = some (some w)) : o.vs[i]? = some (some w) ∧ w ≠ .tp := by
  have h : (o.vs.map noTp1)[i]? = some (some w) := h
  rw [List.getElem?_map] at h
  cases e : o.vs[i]? with
  | none => rw [e] at h; cases
      h
  | some x =>
    rw [e] at h
    obtain ⟨rfl, n⟩ := noTp1_some (Option.some.inj h)
    exact ⟨rfl, n⟩
def Fc.taped (c : Fc) (t : Addr) (x : HO) : Fc := ⟨some t, upd c.H0 t x, c.G0⟩
section
variable {K : PySem.W.Frag} [Tabled K] {c : Fc} {G H H' : Hp} {o : Om} {σ : L2.St} {t : Addr}
theorem Rs.untape {x : HO} (r : Rs K (c.taped t x) G o σ H) (hT : c.T = none) (h0 : c.H0 t = none) : Rs K c G o.noTp σ H where
  sub := r.sub
  g0 := r.g0
  gn := fun a y e => (r.gn a y e).imp id fun z => by
    have z : upd c.H0 t x a = none := z
    by_cases q : a = t
    · rw [q, upd_same] at z
      cases z
    · rwa [upd_ne q] at z
  tabs := r.tabs
  toff := r.toff
  old := fun a y e _ n2 => r.old a y (show upd c.H0 t x a = some y by rw [upd_ne (ne_of_none e h0)]; exact e) (fun z => by
    rw [Option.some.inj z] at h0
    rw [h0] at e
    cases e) n2
  tape := fun u e => by
    rw [hT] at e
    cases e
  len := by
    show σ.length = (o.vs.map noTp1).length
    rw [List.length_map]
    exact r.len
  var := fun i w e => by
    obtain ⟨e1, n⟩ := noTp_at e
    obtain ⟨v, h1, h2⟩ := r.var i w e1
    refine ⟨v, h1, ?_⟩
    cases w with
    | dat d => exact h2
    | oth k =>
      cases k with
      | none => exact absurd rfl n
      | some ns => exact h2
    | own d =>
      obtain ⟨a, rfl, m⟩ := h2
      refine ⟨a, rfl, m.off, ?_, m.at'⟩
      have z : upd c.H0 t x a = none := m.new
      by_cases q : a = t
      · rw [q, upd_same] at z
        cases z
      · rwa [upd_ne q] at z
  dis := fun i j d e a ne h1 h2 => r.dis i j d e a ne (noTp_at h1).1 (noTp_at h2).1
theorem Rs.intape (r : Rs K c G o σ H) (hT : c.T = none) (s : Same H H') (hp : H t = none) (hn : Tp H' t 0) (i : Nat) : ∃ x, Rs K (c.taped t x) G { (o.put i .tp) with n := 0 } (σ.set i (some (.ref t))) H' ∧ c.H0 t = none := by
  have h0 := r.h0 hp
  have gp : G t = none := by
    cases e : G t with
    | none => rfl
    | some y => rw [r.sub t y e] at hp; cases hp
  obtain ⟨x, hx⟩ : ∃ x, H' t = Option.some x := by
    obtain ⟨a, b, d, e, _⟩ := hn
    exact ⟨_, e⟩
  refine ⟨x, ⟨r.sub.trans s, r.g0, fun a y e => (r.gn a y e).imp id fun z => ?_, fun a y e n n2 => ?_, fun u e => ?_, ?_, fun j w e => ?_, fun j k d e a ne h1 h2 h3 => ?_, r.tabs.same s, r.toff⟩, h0⟩
  · show upd c.H0 t x a = none
    rw [upd_ne (ne_of_none e gp)]
    exact z
  · have ne : a ≠ t := fun z => n (by rw [z]; rfl)
    have e : upd c.H0 t x a = some y := e
    rw [upd_ne ne] at e
    exact s a y (r.old a y e (by rw [hT]; exact fun z => nomatch z) n2)
  · cases (show some t = some u from e)
    refine ⟨gp, ?_, hn⟩
    show upd c.H0 t x t ≠ none
    rw [upd_same]
    exact fun z => nomatch z
  · show (σ.set i _).length = (o.vs.set i _).length
    rw [List.length_set, List.length_set]
    exact r.len
  · have lt : j < σ.length := by
      rw [r.len]
      have := (List.getElem?_eq_some_iff.mp (show (o.vs.set i (some .tp))[j]? = some (some w) from e)).1
      rwa [List.length_set] at this
    rcases set_some (show (o.vs.set i (some .tp))[j]? = some (some w) from e) with ⟨rfl, e2⟩ | ⟨ne, e2⟩
    · cases e2
      exact ⟨_, by rw [List.getElem?_set_self lt], t, rfl, rfl⟩
    · obtain ⟨v, h1, h2⟩ := r.var j w e2
      refine ⟨v, by rw [List.getElem?_set_ne (Ne.symm ne)]; exact h1, ?_⟩
      cases w with
      | dat d => exact h2
      | oth k =>
        cases k with
        | none => obtain ⟨u, z, _⟩ := h2; rw [hT] at z; cases z
        | some ns => exact h2
      | own d =>
        obtain ⟨a, rfl, m⟩ := h2
        have na : a ≠ t := fun z => m.at'.ne (by rw [z]; exact hp)
        refine ⟨a, rfl, m.off, ?_, m.at'.grow (Same.refl G) fun z hz => s _ _ hz⟩
        show upd c.H0 t x a = none
        rw [upd_ne na]
        exact m.new
  · rcases set_some (show (o.vs.set i (some .tp))[j]? = _ from h1) with ⟨_, z⟩ | ⟨n1, e1⟩
    · cases z
    rcases set_some (show (o.vs.set i (some .tp))[k]? = _ from h2) with ⟨_, z⟩ | ⟨n2, e2⟩
    · cases z
    rw [List.getElem?_set_ne (Ne.symm n1)] at h3
    rw [List.getElem?_set_ne (Ne.symm n2)]
    exact r.dis j k d e a ne e1 e2 h3
end
def Fe.noTp (E : Fe) : Fe := { nx := fun o => E.nx o.noTp, rt := fun d o => E.rt d o.noTp, ro := fun _ _ => False, bk := fun o => E.bk o.noTp, ct := fun o => E.ct o.noTp }
/-- tape = _law_tape(script, k), and what follows -/
def fTape (i l : Nat) (τs : FTa) (t : FTs) : FTs := fun E o => ∃ ns : List Int, o.vs[l]? = some (some (.scr ns)) ∧ ns.length ≤ 63 ∧ τs o fun ds o1 => ∃ k : Nat, ds = [.int (k : Int)] ∧ k < 1000 ∧ t E.noTp { (o1.put i .tp) with n := 0 }
section
variable {X : Cx} {K : PySem.W.Frag} [Tabled K] {a b : Expr} {es : List Expr} {τs : FTa} {t : FTs} {p pos spos ap : Pos} {y : Str} {i l j : Nat} {rest : List Stmt}
/-- a frame without a tape -/
def upSN (K : PySem.W.Frag) [Tabled K] (τ : FTs) : TS := fun D σ H => ∃ c G o E, c.T = none ∧ Rs K c G o σ H ∧ τ E o ∧ Cont K c G E D
theorem fss_tape (hK : X.K = K) (c : C8.Cal X.prog X.w X.K X.mg X.base 1 "_law_tape" (spTp K) []) (hr : Room j X.A) (hk : 1 ≤ j) (hg : Gl X "_law_tape") (hs : PE X a (tVar l)) (ha : PA X [b] (upA K τs))
    (hN : X.N.Nodup) (hi : X.N[i]? = some y) (hx : Loc X.env.scope y) (hrest : PSs X rest (upS K t))
    (he : starEach [a, b] X.env = (false, eval a X.env) :: starEach [b] X.env := by rfl) (hpl : (backTo pos (starEach [b] X.env)).any (·.1) = false := by rfl) (hsw : swapsWith (.Call (.Name "_law_tape" p) [a, b] [] pos) (some (.Name y ap)) spos.line X.env = pure false := by rfl) (hf : X.fn y = true ∨ X.env.scope.names.lookup y = some .local := by first | exact .inl rfl | exact .inr rfl | assumption) :
    PSs X (.Assign [.Name y ap] (.Call (.Name "_law_tape" p) [a, b] [] pos) spos :: rest) (upSN K (fTape i l τs t)) := by
  subst hK
  exact PSs.imp (pss_cons (ps_set hN hi hx (C8.pe_c c hr hk hg (pa_cons hs ha he) (by decide) he hpl) hsw hf) hrest) fun D σ H ⟨c, G, o, E, hT, r, ⟨ns, ho, hl, h⟩, k⟩ => by
    obtain ⟨v, h1, sa, rfl, sq⟩ := r.var l _ ho
    refine ⟨_, h1, c, G, o, _, r, h, fun ds o1 G1 vs H1 ⟨kk, e, hk1, hp⟩ g r1 q => ?_⟩
    subst e
    obtain ⟨w, rfl, hw⟩ := q.one
    rw [hw.intI]
    refine ⟨sa, ns, kk, rfl, sqL_same (g.trans r1.sub) sq, hl, hk1, fun t0 H' s hp0 htp => ?_⟩
    obtain ⟨x, r2, h0⟩ := r1.intape hT s hp0 htp i
    refine ⟨_, G1, _, E.noTp, r2, hp, ⟨fun o' G' σ' H'' h3 g' r' => ?_, fun d o' G' σ' v' H'' h3 g' r' rp => ?_, fun d o' G' σ' a' H'' h3 => h3.elim, fun o' G' σ' H'' h3 g' r' => ?_, fun o' G' σ' H'' h3 g' r' => ?_, fun _ _ _ _ _ _ h3 => h3.elim⟩⟩
    · exact k.nx _ G' σ' H'' h3 (g.trans g') (r'.untape hT h0)
    · exact k.rt d _ G' σ' v' H'' h3 (g.trans g') (r'.untape hT h0) rp
    · exact k.bk _ G' σ' H'' h3 (g.trans g') (r'.untape hT h0)
    · exact k.ct _ G' σ' H'' h3 (g.trans g') (r'.untape hT h0)
end
section
variable {X : Cx} {K : PySem.W.Frag} [Tabled K] {e : Expr} {τs : FTa} {p pos : Pos}
/-! # sorted(..) of a list of pairs -/
def fSortP (τs : FTa) : FT := fun o P => τs o fun ds o1 => match ds with
  | [.list es] => ∃ ps : List Pr.Pl, es = ps.map plD ∧ ∀ qs, SrtO.Srtd Pr.lt qs → qs.Perm ps → P (.list (qs.map plD)) o1
  | _ => False
theorem fo_sortP (hK : X.K = K) (hg : Gl X "sorted") (hm : X.mg "sorted" = none) (ha : PA X [e] (upA K τs)) (he : starEach [e] X.env = (false, eval e X.env) :: starEach [] X.env := by rfl) : PE X (.Call (.Name "sorted" p) [e] [] pos) (upO K (fSortP τs)) := by
  subst hK
  exact PE.imp (pe_callB cr_spD hg hm PyProof.Rows.boot_sorted ha (by decide) (by decide) he rfl) fun σ H Q ⟨c, G, om, P, r, h, k⟩ => ⟨c, G, om, _, r, h, fun ds o1 G1 vs H1 p g r1 q => by
    split at p
    · rename_i es
      obtain ⟨v, rfl, hv⟩ := q.one
      obtain ⟨ps, rfl, pp⟩ := p
      obtain ⟨a, xs, rfl, h1, h2⟩ := hv.lstI
      refine ⟨a, xs, ps, G1, rfl, SqL.of (r1.sub _ _ h1), r1.sub, h2, fun ys qs b s1 s2 s3 hb => ?_⟩
      obtain ⟨r2, m1, m2, m3⟩ := r1.mine hb (.lst ys)
      exact k _ o1 G1 b _ (pp qs s1 s2) g r2 ⟨m1, m2, ys, upd_same, s3⟩ m3
    · exact p.elim⟩
end
end Lf

set_option maxRecDepth 100000
set_option maxHeartbeats 3900000
namespace Dr
open PySem PySem.Spec PyProof.Rows L2 K Lf
/-! # what is asked of a program listed -/
structure Listed (p : Pg) : Prop where
  few : p.defs.length ≤ 100
  names : (p.defs.map (·.name)).Nodup
  labs : ∀ d ∈ p.defs, (d.steps.map (·.1)).Nodup
  short : ∀ d ∈ p.defs, d.steps.length ≤ 1000
def Df.acts (d : Df) : List (Pr.Pl × Act) := d.steps.map fun s => ((d.name, s.1), s.2)
def Pg.acts (p : Pg) : List (Pr.Pl × Act) := p.defs.flatMap Df.acts
def Pg.places (p : Pg) : List Pr.Pl := p.acts.map (·.1)
theorem strs_all (xs : List Str) : (xs.map PyData.str).all flatD = true := by
  induction xs with
  | nil => rfl
  | cons a r ih => rw [List.map_cons, List.all_cons, ih]; rfl
theorem ints_all (xs : List Int) : (xs.map PyData.int).all flatD = true := by
  induction xs with
  | nil => rfl
  | cons a r ih => rw [List.map_cons, List.all_cons, ih]; rfl
/-- where a text stands among texts that differ -/
theorem at_str {xs : List Str} (n : xs.Nodup) {x : Str} {k : Nat} (h : xs[k]? = some x) : flatD (.str x) = true ∧ (xs.map PyData.str).all flatD = true ∧ (xs.map PyData.str)[k]? = some (.str x) ∧ eqF (.str x) (.str x) = true ∧ ∀ m z', m < k → (xs.map PyData.str)[m]? = some z' → eqF z' (.str x) = false := by
  refine ⟨rfl, strs_all _, by rw [List.getElem?_map, h]; rfl, by simp [eqF], fun m z' hm hz => ?_⟩
  rw [List.getElem?_map] at hz
  cases e : xs[m]? with
  | none => rw [e] at hz; cases hz
  | some y =>
    rw [e] at hz
    cases hz
    have ne : y ≠ x := fun z => by
      subst z
      obtain ⟨l1, e1⟩ := List.getElem?_eq_some_iff.mp h
      obtain ⟨l2, e2⟩ := List.getElem?_eq_some_iff.mp e
      exact List.pairwise_iff_getElem.mp n m k l2 l1 hm (by rw [e1, e2])
    simp [eqF, ne]
theorem at_int {xs : List Int} (n : xs.Nodup) {x : Int} {k : Nat} (h : xs[k]? = some x) : flatD (.int x) = true ∧ (xs.map PyData.int).all flatD = true ∧ (xs.map PyData.int)[k]? = some (.int x) ∧ eqF (.int x) (.int x) = true ∧ ∀ m z', m < k → (xs.map PyData.int)[m]? = some z' → eqF z' (.int x) = false := by
  refine ⟨rfl, ints_all _, by rw [List.getElem?_map, h]; rfl, by simp [eqF], fun m z' hm hz => ?_⟩
  rw [List.getElem?_map] at hz
  cases e : xs[m]? with
  | none => rw [e] at hz; cases hz
  | some y =>
    rw [e] at hz
    cases hz
    have ne : y ≠ x := fun z => by
      subst z
      obtain ⟨l1, e1⟩ := List.getElem?_eq_some_iff.mp h
      obtain ⟨l2, e2⟩ := List.getElem?_eq_some_iff.mp e
      exact List.pairwise_iff_getElem.mp n m k l2 l1 hm (by rw [e1, e2])
    simp [eqF, ne]
theorem mapAt {α β : Type} {f : α → β} {xs : List α} {k : Nat} {y : β} (h : (xs.map f)[k]? = some y) : ∃ x, xs[k]? = some x ∧ y = f x := by
  rw [List.getElem?_map] at h
  cases e : xs[k]? with
  | none => rw [e] at h; cases
      h
  | some x => rw [e] at h; cases h; exact ⟨x, rfl, rfl⟩
theorem take_next {α : Type} {xs : List α} {i : Nat} {x : α} (h : xs[i]? = some x) : xs.take (i + 1) = xs.take i ++ [x] := by
  rw [List.take_add_one, h]
  rfl
theorem perm_map {α β : Type} {f : α → β} : ∀ {l : List α} {qs : List β}, qs.Perm (l.map f) → ∃ ts : List α, ts.Perm l ∧ qs = ts.map f := by
  intro l qs h
  generalize e : l.map f = m at h
  induction h generalizing l with
  | nil => exact ⟨[], by rw [List.map_eq_nil_iff.mp e], rfl⟩
  | cons x h ih =>
    cases l with
    | nil => cases e
    | cons a r =>
      injection e with e1 e2
      obtain ⟨ts, h1, h2⟩ := ih e2
      exact ⟨a :: ts, h1.cons a, by rw [h2, ← e1]; rfl⟩
  | swap x y r =>
    cases l with
    | nil => cases e
    | cons a l =>
      cases l with
      | nil => injection e with _ e2; cases e2
      | cons b l =>
        injection e with e1 e2
        injection e2 with e2 e3
        exact ⟨b :: a :: l, List.Perm.swap a b l, by rw [← e1, ← e2, ← e3]; rfl⟩
  | trans h1 h2 ih1 ih2 =>
    obtain ⟨ts, a1, a2⟩ := ih2 e
    obtain ⟨us, b1, b2⟩ := ih1 a2.symm
    exact ⟨us, b1.trans a1, b2⟩
end Dr

set_option maxRecDepth 100000
set_option maxHeartbeats 3900000
namespace K
open PySem PySem.Spec PyProof.Rows L2
def topS (i : Nat) : Stmt := PySem.Challenge.pw_withinall_k09_one_step.main.body.getD i (.Pass ⟨0, 0, 0, 0⟩)
/-- names that are read off the built-ins -/
structure Bs (mg : Str → Option Value) : Prop where
  len : mg "len" = none
  range : mg "range" = none
  list : mg "list" = none
  tuple : mg "tuple" = none
  int : mg "int" = none
  str : mg "str" = none
  dict : mg "dict" = none
  isinstance : mg "isinstance" = none
  sorted : mg "sorted" = none
  set : mg "set" = none
  zip : mg "zip" = none
  enumerate : mg "enumerate" = none
  repr : mg "repr" = none
  min : mg "min" = none
  max : mg "max" = none
  any : mg "any" = none
  all : mg "all" = none
  bool : mg "bool" = none
end K

set_option maxRecDepth 100000
set_option maxHeartbeats 3900000
namespace K
open PySem PySem.Spec PyProof.Rows L2
abbrev s_law_tape : Stmt := topS 22
abbrev s_law_draw : Stmt := topS 23
section
variable {P : Program} {w : World} {K : PySem.W.Frag} {mg : Str → Option Value} {base : Heap}
theorem scT : FnScope ["script", "k", "cell", "own"] ["script", "k"] (defScope s_law_tape) := ⟨rfl, rfl, rfl, by decide +kernel, rfl, by decide +kernel, by decide +kernel⟩
theorem ok_tape {f : Addr} {fd : FuncData} (F : Fun K "_law_tape" "_law_tape" s_law_tape f fd) (ml : mg "len" = none) : FnOk P w K mg base CX0 1 f fd ["script", "k"] (Lf.spTp K) := by
  refine F.ok scT (fun vs H Q E h => ?_) (fun cdv A outer s H vs Q E hr h => ?_)
  · obtain ⟨a, ns, k, rfl, _⟩ := h
    rfl
  · obtain ⟨a, ns, k, rfl, hS, hl, hk, q⟩ := h
    refine ⟨_, pss_cons (ps_set (i := 2) scT.nd rfl (.inl rfl) (pe_op op_add (pe_op op_mul pe_int (pv 1)) pe_int))
      (pss_cons (ps_if (pt_cmpR op_lt (pv 1) (pe_callB call_len_seq (by rfl) ml PySem.boot_len (pa_cons (pv 0) pa_nil)) (nomark _)) (pss_one (ps_set (i := 2) scT.nd rfl (.inl rfl) (pe_ix ix_list (pv 0) (pv 1) (fun _ _ => rfl)))) pss_nil)
      (pss_cons (ps_set (i := 3) scT.nd rfl (.inl rfl) pe_int)
      (pss_cons (ps_if (pt_cmpR op_ge (pv 2) (pe_op op_pow pe_int pe_int) (nomark _)) (pss_one (ps_set (i := 3) scT.nd rfl (.inl rfl) (pe_op op_sub (pv 2) (pe_op op_pow pe_int pe_int)))) pss_nil)
      (pss_one (ps_ret (pe_lst (pa_cons (pv 3) (pa_cons (pe_op op_add (pe_op op_modN (pv 2) pe_int) (pe_op op_mul pe_int (pv 1))) (pa_cons pe_int pa_nil))))))))), ?_⟩
    -- behind the first if: the cell is any number
    have tail : ∀ c : Int, ∀ D : Ends, D.rt = Q → (tSeq (tAsg (tC (.int 0)) (gName 3)) (tSeq (tIfS (tTest (tOp (rI0 fun i j => .bl (decide (j ≤ i))) (tVar 2) (tOp (rI CPow fun i j => .int (i ^ j.toNat)) (tC (.int 10)) (tC (.int 18)))))
        (tAsg (tOp (rI0 fun i j => .int (i - j)) (tVar 2) (tOp (rI CPow fun i j => .int (i ^ j.toNat)) (tC (.int 10)) (tC (.int 18)))) (gName 3)) tNext)
        (tRet (tLst (tCons (tVar 3) (tCons (tOp (rI0 fun i j => .int (i + j)) (tOp (rI (fun _ j => j ≠ 0) fun i j => .int (i.fmod j)) (tVar 2) (tC (.int 4611686018427387847))) (tOp (rI CMul fun i j => .int (i * j)) (tC (.int 59)) (tVar 1))) (tCons (tC (.int 0)) tNil))))))) D [some (.ref a), some (.int (k : Int)), some (.int c), none] H := by
      intro c D hD
      have fin : ∀ own : Int, (tRet (tLst (tCons (tVar 3) (tCons (tOp (rI0 fun i j => .int (i + j)) (tOp (rI (fun _ j => j ≠ 0) fun i j => .int (i.fmod j)) (tVar 2) (tC (.int 4611686018427387847))) (tOp (rI CMul fun i j => .int (i * j)) (tC (.int 59)) (tVar 1))) (tCons (tC (.int 0)) tNil))))) D [some (.ref a), some (.int (k : Int)), some (.int c), some (.int own)] H := by
        intro own
        refine ⟨_, rfl, _, rfl, _, _, rfl, rfl, (by show (4611686018427387847 : Int) ≠ 0; decide), _, rfl, _, _, rfl, rfl, .inl ⟨by decide, by decide⟩, _, _, rfl, rfl, (by show 3 ≤ sizeLine; decide), fun p hp => ?_⟩
        rw [hD]
        exact q p _ (same_new hp) hp ⟨_, _, _, upd_same, Int.le_refl _, Int.le_refl _⟩
      refine ⟨_, rfl, _, _, rfl, rfl, ⟨by decide, by decide, by decide⟩, _, _, rfl, rfl, _, rfl, ?_⟩
      refine ite2 (fun _ => ?_) (fun _ => ?_)
      · exact ⟨_, rfl, _, _, rfl, rfl, ⟨by decide, by decide, by decide⟩, _, _, rfl, rfl, fin _⟩
      · exact fin 0
    refine ⟨_, rfl, _, _, rfl, rfl, .inl ⟨by decide, by decide⟩, _, _, rfl, rfl, ?_⟩
    refine ⟨_, rfl, _, rfl, a, _, rfl, .inl hS, _, _, rfl, rfl, _, rfl, ?_⟩
    refine ite2 (fun hlt => ?_) (fun _ => ?_)
    · have hlt' : k < ns.length := by
        have := of_decide_eq_true hlt
        simp only [List.length_map] at this
        omega
      have g : (ns.map V.int)[k]? = some (.int ns[k]) := by
        rw [List.getElem?_map, List.getElem?_eq_getElem hlt']
        rfl
      refine ⟨_, rfl, _, rfl, a, _, _, _, rfl, rfl, hS, atI_nat g, ?_⟩
      exact tail _ _ rfl
    · exact tail _ _ rfl

/-! ### a draw -/
def spDraw : Sp := fun vs H Q _ => ∃ (t : Addr) (n : Nat) (m : Int), vs = [.ref t, .int m] ∧ Tp H t n ∧ n < 1000000 ∧ 0 < m ∧ m < 1073741824 ∧
  ∀ (r : Int) (H' : Hp), 0 ≤ r → r < m → Tp H' t (n + 1) → But t H H' → Q (.int r) H'
theorem scD : FnScope ["tape", "many", "digit", "primes", "prime", "first", "second"] ["tape", "many"] (defScope s_law_draw) := ⟨rfl, rfl, rfl, by decide +kernel, rfl, by decide +kernel, by decide +kernel⟩
theorem ok_draw {f : Addr} {fd : FuncData} (F : Fun K "_law_draw" "_law_draw" s_law_draw f fd) : FnOk P w K mg base CX0 1 f fd ["tape", "many"] spDraw := by
  refine F.ok scD (fun vs H Q E h => ?_) (fun cdv A outer s H vs Q E hr h => ?_)
  · obtain ⟨t, n, m, rfl, _⟩ := h
    rfl
  · obtain ⟨t, n, m, rfl, ⟨a, b, c, hT, c0, c1⟩, hn, m0, m1, q⟩ := h
    have px : ∀ _ _, _ = _ := fun (_ _ : Nat) => (rfl : (0:Nat) = 0)
    refine ⟨_, pss_cons (ps_if (pt_cmpR op_ge (pe_ix ix_list (pv 0) pe_int (fun _ _ => rfl)) (pv 1) (nomark _))
        (pss_cons (ps_set (i := 2) scD.nd rfl (.inl rfl) (pe_op op_mod (pe_ix ix_list (pv 0) pe_int (fun _ _ => rfl)) (pv 1)))
        (pss_cons (ps_asg (pe_op op_fdivN (pe_ix ix_list (pv 0) pe_int (fun _ _ => rfl)) (pv 1)) (pg_sub (pv 0) pe_int set_list))
        (pss_one (ps_ret (pv 2))))) pss_nil)
      (pss_cons (ps_asg (pe_op op_add (pe_ix ix_list (pv 0) pe_int (fun _ _ => rfl)) pe_int) (pg_sub (pv 0) pe_int set_list))
      (pss_cons (ps_set (i := 3) scD.nd rfl (.inl rfl) (pe_lst (pa_cons pe_int (pa_cons pe_int (pa_cons pe_int (pa_cons pe_int (pa_cons pe_int (pa_cons pe_int (pa_cons pe_int (pa_cons pe_int pa_nil)))))))))) 
      (pss_cons (ps_set (i := 4) scD.nd rfl (.inl rfl) (pe_ix ix_list (pv 3) (pe_op op_mod (pe_ix ix_list (pv 0) pe_int (fun _ _ => rfl)) pe_int) (fun _ _ => rfl)))
      (pss_cons (ps_set (i := 5) scD.nd rfl (.inl rfl) (pe_op op_add (pe_op op_mul (pe_op op_mod (pe_ix ix_list (pv 0) pe_int (fun _ _ => rfl)) (pv 4)) (pe_op op_add (pe_op op_mul pe_int (pe_ix ix_list (pv 0) pe_int (fun _ _ => rfl))) pe_int)) (pe_op op_mul pe_int (pe_ix ix_list (pv 0) pe_int (fun _ _ => rfl)))))
      (pss_cons (ps_set (i := 5) scD.nd rfl (.inl rfl) (pe_op op_mod (pe_op op_pow (pv 5) pe_int) (pv 4)))
      (pss_cons (ps_set (i := 6) scD.nd rfl (.inl rfl) (pe_op op_add (pe_op op_add (pe_op op_mul (pv 5) (pv 5)) (pe_op op_mod (pe_ix ix_list (pv 0) pe_int (fun _ _ => rfl)) pe_int)) (pe_ix ix_list (pv 0) pe_int (fun _ _ => rfl))))
      (pss_one (ps_ret (pe_op op_mod (pe_op op_fdivN (pe_op op_mod (pe_op op_pow (pv 6) pe_int) (pe_ix ix_list (pv 3) (pe_op op_mod (pe_op op_add (pe_ix ix_list (pv 0) pe_int (fun _ _ => rfl)) pe_int) pe_int) (fun _ _ => rfl))) pe_int) (pv 1)))))))))), ?_⟩
    have at0 : ∀ x y z : V, atI [x, y, z] (0 : Int) = some x := fun x y z => atI_nat (j := 0) rfl
    have at1 : ∀ x y z : V, atI [x, y, z] (1 : Int) = some y := fun x y z => atI_nat (j := 1) rfl
    have at2 : ∀ x y z : V, atI [x, y, z] (2 : Int) = some z := fun x y z => atI_nat (j := 2) rfl
    refine ⟨_, rfl, t, _, 0, _, rfl, rfl, SqL.of hT, at0 _ _ _, _, rfl, a, m, rfl, rfl, _, rfl, ?_⟩
    refine ite2 (fun _ => ?_) (fun _ => ?_)
    · refine ⟨_, rfl, t, _, 0, _, rfl, rfl, SqL.of hT, at0 _ _ _, _, rfl, a, m, rfl, rfl, m0, ?_⟩
      refine ⟨_, rfl, t, _, 0, _, rfl, rfl, SqL.of hT, at0 _ _ _, _, rfl, a, m, rfl, rfl, ⟨by omega, by omega⟩, ?_⟩
      refine ⟨_, rfl, t, _, 0, 0, rfl, rfl, hT, rfl, ?_⟩
      refine ⟨_, rfl, ?_⟩
      exact q _ _ (Int.emod_nonneg _ (by omega)) (Int.emod_lt_of_pos _ m0) ⟨_, _, _, upd_same, c0, by omega⟩ .set
    · -- tape[2] = tape[2] + 1
      refine ⟨_, rfl, t, _, 2, _, rfl, rfl, SqL.of hT, at2 _ _ _, _, _, rfl, rfl, ?_⟩
      refine ⟨_, rfl, t, _, 2, 2, rfl, rfl, hT, rfl, ?_⟩
      -- primes
      refine ⟨(by show 8 ≤ sizeLine; decide), fun p hp => ?_⟩
      have tp : t ≠ p := ne_of_none (show (upd H t (.lst [.int a, .int b, .int (c + 1)])) t = some (.lst [.int a, .int b, .int (c + 1)]) from upd_same) hp
      have hT2 : (upd (upd H t (.lst [.int a, .int b, .int (c + 1)])) p (.lst (primes.map V.int))) t = some (.lst [.int a, .int b, .int (c + 1)]) := by
        rw [upd_ne tp, upd_same]
      have hP : (upd (upd H t (.lst [.int a, .int b, .int (c + 1)])) p (.lst (primes.map V.int))) p = some (.lst (primes.map V.int)) := upd_same
      have hB : But t H (upd (upd H t (.lst [.int a, .int b, .int (c + 1)])) p (.lst (primes.map V.int))) := But.set.trans (.new hp)
      show (tSeq _ _) _ _ (upd (upd H t (.lst [.int a, .int b, .int (c + 1)])) p (.lst (primes.map V.int)))
      revert hT2 hP hB
      generalize (upd (upd H t (.lst [.int a, .int b, .int (c + 1)])) p (.lst (primes.map V.int))) = H2
      intro hT2 hP hB
      obtain ⟨q1, a1, p1, l1⟩ := prime_at (i := (c + 1) % 8) (Int.emod_nonneg _ (by decide)) (Int.emod_lt_of_pos _ (by decide))
      obtain ⟨q2, a2, p2, l2⟩ := prime_at (i := (c + 1 + 3) % 8) (Int.emod_nonneg _ (by decide)) (Int.emod_lt_of_pos _ (by decide))
      refine ⟨_, rfl, _, rfl, t, _, 2, _, rfl, rfl, SqL.of hT2, at2 _ _ _, _, _, rfl, rfl, (by show (0 : Int) < 8; decide), p, _, _, _, rfl, rfl, SqL.of hP, a1, ?_⟩
      have x0 : 0 ≤ b % q1 := Int.emod_nonneg _ (by omega)
      have x1 : b % q1 < q1 := Int.emod_lt_of_pos _ p1
      have e1 : 0 ≤ b % q1 * (2 * (c + 1) + 7) := Int.mul_nonneg x0 (by omega)
      have e2 : b % q1 * (2 * (c + 1) + 7) ≤ 2147483648 * 3000000 := Int.mul_le_mul (by omega) (by omega) (by omega) (by decide)
      -- first
      refine ⟨_, rfl, t, _, 1, _, rfl, rfl, SqL.of hT2, at1 _ _ _, _, rfl, _, _, rfl, rfl, p1, _, rfl, t, _, 2, _, rfl, rfl, SqL.of hT2, at2 _ _ _, _, _, rfl, rfl, .inl ⟨by decide, by decide⟩, _, _, rfl, rfl, _, _, rfl, rfl, .inl ⟨by omega, by omega⟩,
        _, rfl, t, _, 2, _, rfl, rfl, SqL.of hT2, at2 _ _ _, _, _, rfl, rfl, .inl ⟨by decide, by decide⟩, _, _, rfl, rfl, ?_⟩
      refine ⟨_, rfl, _, _, rfl, rfl, ⟨by decide, by decide, by omega⟩, _, rfl, _, _, rfl, rfl, p1, ?_⟩
      generalize (b % q1 * (2 * (c + 1) + 7) + 7001 * (c + 1)) ^ (3 : Int).toNat = y
      have y0 : 0 ≤ y % q1 := Int.emod_nonneg _ (by omega)
      have y1 : y % q1 < q1 := Int.emod_lt_of_pos _ p1
      have f1 : 0 ≤ y % q1 * (y % q1) := Int.mul_nonneg y0 y0
      have f2 : y % q1 * (y % q1) ≤ 2147483648 * 2147483648 := Int.mul_le_mul (by omega) (by omega) y0 (by decide)
      have z0 : 0 ≤ b % 1000033 := Int.emod_nonneg _ (by decide)
      have z1 : b % 1000033 < 1000033 := Int.emod_lt_of_pos _ (by decide)
      -- second
      refine ⟨_, rfl, _, rfl, _, _, rfl, rfl, .inl ⟨by omega, by omega⟩, _, rfl, t, _, 1, _, rfl, rfl, SqL.of hT2, at1 _ _ _, _, _, rfl, rfl, (by show (0 : Int) < 1000033; decide), _, _, rfl, rfl, _, rfl, t, _, 2, _, rfl, rfl, SqL.of hT2, at2 _ _ _, _, _, rfl, rfl, ?_⟩
      -- return
      refine ⟨_, rfl, _, _, rfl, rfl, ⟨by decide, by decide, by omega⟩, _, rfl, _, rfl, t, _, 2, _, rfl, rfl, SqL.of hT2, at2 _ _ _, _, _, rfl, rfl, _, _, rfl, rfl, (by show (0 : Int) < 8; decide), p, _, _, _, rfl, rfl, SqL.of hP, a2, _, _, rfl, rfl, p2, _, _, rfl, rfl, ⟨by decide, by decide⟩, _, rfl, _, _, rfl, rfl, m0, ?_⟩
      exact q _ _ (Int.emod_nonneg _ (by omega)) (Int.emod_lt_of_pos _ m0) ⟨_, _, _, hT2, by omega, by omega⟩ hB
end

end K
namespace Dr
open PySem PySem.Spec PyProof.Rows L2 K Lf
def phDraw : PhT := fun ds n P => ∃ m : Int, ds = [.int m] ∧ n < 1000000 ∧ 0 < m ∧ m < 1073741824 ∧ ∀ r : Int, 0 ≤ r → r < m → P (.int r) (n + 1)
theorem draw_T {P : Program} {w : World} {K : PySem.W.Frag} [Tabled K] {mg : Str → Option Value} {base : Heap} {k : Nat} {f : Addr} {fd : FuncData} {ps : List Str} (F : FnOk P w K mg base CX0 k f fd ps spDraw) : FnOk P w K mg base CX0 k f fd ps (spT K phDraw) := F.imp fun vs H Q E ⟨t, us, G, ds, n, P, e, s, g, ht, r, ⟨m, e2, hn, m0, m1, p⟩, q⟩ => by
  subst e e2
  obtain ⟨v, rfl, hv⟩ := r.one
  rw [hv.intI]
  exact ⟨t, n, m, rfl, ht, hn, m0, m1, fun r H' r0 r1 tp b => q _ _ _ G H' (p r r0 r1) (fun a x e n _ => b a x e n) (Same.refl G) ⟨fun a x e => b a x (s.sub a x e) fun z => (by rw [z, g] at e; cases e), s.tabs.but (a := t) (fun x o e n => b x o e n) (by obtain ⟨p, q, s, e, _⟩ := ht; exact .inl ⟨_, e⟩), s.toff⟩ New.refl tp (.int r)⟩
end Dr

set_option maxRecDepth 100000
set_option maxHeartbeats 3900000
namespace Dr
open PySem PySem.Spec PyProof.Rows L2 K Lf
section
variable {P : Program} {w : World} {K : PySem.W.Frag} [Tabled K] {mg : Str → Option Value} {base : Heap}
abbrev s_law_pick : Stmt := topS 24
theorem sc_law_pick : FnScope ["tape", "some"] ["tape", "some"] (defScope s_law_pick) := ⟨rfl, rfl, rfl, by decide +kernel, rfl, by decide +kernel, by decide +kernel⟩
def phPick : PhT := fun ds n P => ∃ xs : List PyData, ds = [.list xs] ∧ n < 1000000 ∧ 0 < xs.length ∧ xs.length < 1000000 ∧ ∀ d ∈ xs, P d (n + 1)
theorem ok_pick (B : Bs mg) (c_draw : C8.Cal P w K mg base 1 "_law_draw" (spT K phDraw) []) {f : Addr} {fd : FuncData} (F : Fun K "_law_pick" "_law_pick" s_law_pick f fd) : FnOk P w K mg base CX0 2 f fd ["tape", "some"] (spT K phPick) := by
  refine okT F sc_law_pick (fun ds n P ⟨xs, e, _⟩ => by rw [e]; rfl)
    (fun cdv A outer s H E hr => (fss_one (fs_ret (fe_ix rfl (fv (pv 1)) (fe_ct c_draw hr (by decide) (by rfl) (pv 0) (fa_cons (fe_len rfl (by rfl) B.len (fa_cons (fv (pv 1)) fa_nil)) fa_nil)))))) fun ds n P h => ?_
  obtain ⟨xs, rfl, hn, h0, h1, p⟩ := h
  refine ⟨rfl, _, rfl, hn, by omega, by omega, fun r r0 r1 => ?_⟩
  obtain ⟨d, e, hd⟩ := at_lt r0 r1
  exact ⟨d, e, p d hd⟩
abbrev s_law_a_word : Stmt := topS 25
theorem sc_law_a_word : FnScope ["tape", "wide", "some"] ["tape", "wide"] (defScope s_law_a_word) := ⟨rfl, rfl, rfl, by decide +kernel, rfl, by decide +kernel, by decide +kernel⟩
def phWord : PhT := fun ds n P => ∃ m : Int, ds = [.int m] ∧ n < 900000 ∧ 1 ≤ m ∧ m ≤ 1000 ∧ ∀ i, Wd m i → P (.int i) (n + 3)
theorem ok_word (c_draw : C8.Cal P w K mg base 1 "_law_draw" (spT K phDraw) []) (c_pick : C8.Cal P w K mg base 2 "_law_pick" (spT K phPick) []) {f : Addr} {fd : FuncData} (F : Fun K "_law_a_word" "_law_a_word" s_law_a_word f fd) : FnOk P w K mg base CX0 3 f fd ["tape", "wide"] (spT K phWord) := by
  refine okT F sc_law_a_word (fun ds n P ⟨xs, e, _⟩ => by rw [e]; rfl)
    (fun cdv A outer s H E hr => (fss_cons (fs_set (i := 2) sc_law_a_word.nd rfl (.inl rfl) (foe (fo_lst (fa_cons fe_int (fa_cons fe_int (fa_cons (fe_sub fe_int fe_int) (fa_cons (fv (pv 1)) (fa_cons (fe_sub fe_int (fv (pv 1))) (fa_cons (fe_sub (fe_ct c_draw hr (by decide) (by rfl) (pv 0) (fa_cons (fe_add (fe_mul fe_int (fv (pv 1))) fe_int) fa_nil)) (fv (pv 1))) (fa_cons (fe_ct c_draw hr (by decide) (by rfl) (pv 0) (fa_cons (fe_add (fv (pv 1)) fe_int) fa_nil)) fa_nil))))))))))
      (fss_one (fs_ret (fe_ct c_pick hr (by decide) (by rfl) (pv 0) (fa_cons (fv (pv 2)) fa_nil)))))) fun ds n P h => ?_
  obtain ⟨m, rfl, hn, m0, m1, p⟩ := h
  refine ⟨rfl, .inl ⟨by decide, by decide⟩, _, rfl, by show n < 1000000; omega, by omega, by omega, fun r r0 r1 => ⟨rfl, _, rfl, by show n + 1 < 1000000; omega, by omega, by omega, fun q q0 q1 => ⟨by show 7 ≤ sizeLine; decide, rfl, _, rfl, by show n + 2 < 1000000; omega, by show 0 < 7; decide, by show 7 < 1000000; decide, fun d hd => ?_⟩⟩⟩
  have W : ∀ i : Int, d = .int i → Wd m i → P d (n + 3) := fun i e h => by rw [e]; exact p i h
  simp only [List.mem_cons, List.not_mem_nil, or_false] at hd
  rcases hd with e | e | e | e | e | e | e
  · exact W _ e ⟨by omega, by omega⟩
  · exact W _ e ⟨by omega, by omega⟩
  · exact W _ e ⟨by omega, by omega⟩
  · exact W _ e ⟨by omega, by omega⟩
  · exact W _ e ⟨by omega, by omega⟩
  · exact W _ e ⟨by omega, by omega⟩
  · exact W _ e ⟨by omega, by omega⟩
abbrev s_law_numbers : Stmt := topS 27
theorem sc_law_numbers : FnScope ["head"] ["head"] (defScope s_law_numbers) := ⟨rfl, rfl, rfl, by decide +kernel, rfl, by decide +kernel, by decide +kernel⟩
def phNumbers : Ph := fun ds P => ∃ h : Hd, ds = [h.d] ∧ HdOk h ∧ P (strL h.nums)
theorem ok_numbers {f : Addr} {fd : FuncData} (F : Fun K "_law_numbers" "_law_numbers" s_law_numbers f fd) : FnOk P w K mg base CX0 1 f fd ["head"] (spP K phNumbers) := by
  refine okP F sc_law_numbers (fun ds P ⟨h, e, _⟩ => by rw [e]; rfl)
    (fun cdv A outer s H E hr => (fss_one (fs_ret (foe (fo_cat (fe_dget (hu_of hr) (fv (pv 0)) fe_str) (fe_dget (hu_of hr) (fv (pv 0)) fe_str)))))) fun ds P h => ?_
  obtain ⟨h, rfl, ok, p⟩ := h
  have l := ok.lens
  refine ⟨_, h.plain_at, _, h.fingers_at, ?_, ?_⟩
  · rw [List.length_map, List.length_map]
    exact Nat.le_trans (m := 5) (by omega) (by decide)
  · have e : strL h.nums = .list (h.plain.map PyData.str ++ h.fingers.map PyData.str) := by
      unfold strL Hd.nums
      rw [List.map_append]
    rw [e] at p
    exact p
theorem mem_strs {d : PyData} {xs : List Str} (h : d ∈ xs.map PyData.str) : ∃ x, x ∈ xs ∧ d = .str x := by
  obtain ⟨x, hx, rfl⟩ := List.mem_map.mp h
  exact ⟨x, hx, rfl⟩
theorem HdOk.numsLen {h : Hd} (o : HdOk h) : 0 < (h.nums.map PyData.str).length ∧ (h.nums.map PyData.str).length < 1000000 := by
  have l := o.lens
  unfold Hd.nums
  rw [List.length_map, List.length_append]
  omega
abbrev s_law_a_side : Stmt := topS 28
theorem sc_law_a_side : FnScope ["tape", "head", "wide"] ["tape", "head", "wide"] (defScope s_law_a_side) := ⟨rfl, rfl, rfl, by decide +kernel, rfl, by decide +kernel, by decide +kernel⟩
def phSide : PhT := fun ds n P => ∃ (h : Hd) (m : Int), ds = [h.d, .int m] ∧ HdOk h ∧ n < 800000 ∧ 1 ≤ m ∧ m ≤ 1000 ∧ ∀ s, SideOk h m s → P s.d (n + 6)
theorem ok_side (c_pick : C8.Cal P w K mg base 2 "_law_pick" (spT K phPick) []) (c_a_word : C8.Cal P w K mg base 3 "_law_a_word" (spT K phWord) []) (c_numbers : C8.Cal P w K mg base 1 "_law_numbers" (spP K phNumbers) []) {f : Addr} {fd : FuncData} (F : Fun K "_law_a_side" "_law_a_side" s_law_a_side f fd) : FnOk P w K mg base CX0 4 f fd ["tape", "head", "wide"] (spT K phSide) := by
  refine okT F sc_law_a_side (fun ds n P ⟨h, m, e, _⟩ => by rw [e]; rfl)
    (fun cdv A outer s H E hr => (fss_one (fs_ret (fe_ct c_pick hr (by decide) (by rfl) (pv 0) (fa_cons (foe (fo_lst (fa_cons (fe_ct c_pick hr (by decide) (by rfl) (pv 0) (fa_cons (fe_c c_numbers hr (by decide) (by rfl) (fa_cons (fv (pv 1)) fa_nil)) fa_nil)) (fa_cons (fe_ct c_pick hr (by decide) (by rfl) (pv 0) (fa_cons (fe_c c_numbers hr (by decide) (by rfl) (fa_cons (fv (pv 1)) fa_nil)) fa_nil)) (fa_cons (fe_ct c_a_word hr (by decide) (by rfl) (pv 0) (fa_cons (fv (pv 2)) fa_nil)) fa_nil))))) fa_nil))))) fun ds n P h => ?_
  obtain ⟨h, m, rfl, ok, hn, m0, m1, p⟩ := h
  obtain ⟨l0, l1⟩ := ok.numsLen
  refine ⟨rfl, rfl, h, rfl, ok, _, rfl, by show n < 1000000; omega, l0, l1, fun d hd => ⟨rfl, h, rfl, ok, _, rfl, by show n + 1 < 1000000; omega, l0, l1, fun e he => ⟨rfl, m, rfl, by show n + 2 < 900000; omega, m0, m1, fun i hi => ⟨by show 3 ≤ sizeLine; decide, _, rfl, by show n + 5 < 1000000; omega, by show 0 < 3; decide, by show 3 < 1000000; decide, fun z hz => ?_⟩⟩⟩⟩
  obtain ⟨x, hx, rfl⟩ := mem_strs hd
  obtain ⟨y, hy, rfl⟩ := mem_strs he
  simp only [List.mem_cons, List.not_mem_nil, or_false] at hz
  rcases hz with rfl | rfl | rfl
  · exact p (.nm x) (.nm hx)
  · exact p (.nm y) (.nm hy)
  · exact p (.wd i) (.wd hi)
abbrev s_law_test : Stmt := topS 29
theorem sc_law_test : FnScope ["tape", "head", "wide"] ["tape", "head", "wide"] (defScope s_law_test) := ⟨rfl, rfl, rfl, by decide +kernel, rfl, by decide +kernel, by decide +kernel⟩
def phTest : PhT := fun ds n P => ∃ (h : Hd) (m : Int), ds = [h.d, .int m] ∧ HdOk h ∧ n < 700000 ∧ 1 ≤ m ∧ m ≤ 1000 ∧ ∀ s g t, SideOk h m s → g ∈ signs → SideOk h m t → P (.tuple [s.d, .str g, t.d]) (n + 13)
theorem ok_test (c_pick : C8.Cal P w K mg base 2 "_law_pick" (spT K phPick) []) (c_a_side : C8.Cal P w K mg base 4 "_law_a_side" (spT K phSide) []) {f : Addr} {fd : FuncData} (F : Fun K "_law_test" "_law_test" s_law_test f fd) : FnOk P w K mg base CX0 5 f fd ["tape", "head", "wide"] (spT K phTest) := by
  refine okT F sc_law_test (fun ds n P ⟨h, m, e, _⟩ => by rw [e]; rfl)
    (fun cdv A outer s H E hr => (fss_one (fs_ret (fe_tup (fa_cons (fe_ct c_a_side hr (by decide) (by rfl) (pv 0) (fa_cons (fv (pv 1)) (fa_cons (fv (pv 2)) fa_nil))) (fa_cons (fe_ct c_pick hr (by decide) (by rfl) (pv 0) (fa_cons (foe (fo_lst (fa_cons fe_str (fa_cons fe_str fa_nil)))) fa_nil)) (fa_cons (fe_ct c_a_side hr (by decide) (by rfl) (pv 0) (fa_cons (fv (pv 1)) (fa_cons (fv (pv 2)) fa_nil))) fa_nil))))))) fun ds n P h => ?_
  obtain ⟨h, m, rfl, ok, hn, m0, m1, p⟩ := h
  refine ⟨rfl, h, m, rfl, ok, by show n < 800000; omega, m0, m1, fun s hs => ⟨rfl, by show 2 ≤ sizeLine; decide, _, rfl, by show n + 6 < 1000000; omega, by show 0 < 2; decide, by show 2 < 1000000; decide, fun g hg => ⟨rfl, h, m, rfl, ok, by show n + 7 < 800000; omega, m0, m1, fun t ht => ⟨by show 3 ≤ sizeLine; decide, ?_⟩⟩⟩⟩
  obtain ⟨z, hz, rfl⟩ := mem_strs (xs := signs) hg
  exact p s z t hs hz ht
abbrev s_law_kind : Stmt := topS 30
theorem sc_law_kind : FnScope ["head", "name", "kind"] ["head", "name"] (defScope s_law_kind) := ⟨rfl, rfl, rfl, by decide +kernel, rfl, by decide +kernel, by decide +kernel⟩
def phKind : Ph := fun ds P => ∃ (h : Hd) (x : Str), ds = [h.d, .str x] ∧ HdOk h ∧ x ∈ h.plain ++ h.fingers ++ h.rows ∧ ∀ k : Str, (x ∈ h.plain ∧ k = "plain") ∨ (x ∈ h.fingers ∧ k = "fingers") ∨ (x ∈ h.rows ∧ k = "rows") → P (.str k)
theorem flat_strs (xs : List Str) : (xs.map PyData.str).all flatD = true := by
  induction xs with
  | nil => rfl
  | cons a r ih => exact ih
theorem any_strs (x : Str) : ∀ xs : List Str, ((xs.map PyData.str).any fun d => eqF d (.str x)) = decide (x ∈ xs)
  | [] => rfl
  | a :: r => by
    show ((a == x) || ((r.map PyData.str).any fun d => eqF d (.str x))) = _
    rw [any_strs x r]
    by_cases e : a = x
    · subst e; simp
    · have : (a == x) = false := beq_eq_false_iff_ne.mpr e
      rw [this]
      have ne : x ≠ a := fun z => e z.symm
      simp [ne]
theorem ok_kind {f : Addr} {fd : FuncData} (F : Fun K "_law_kind" "_law_kind" s_law_kind f fd) : FnOk P w K mg base CX0 1 f fd ["head", "name"] (spP K phKind) := by
  refine okP F sc_law_kind (fun ds P ⟨h, x, e, _⟩ => by rw [e]; rfl)
    (fun cdv A outer s H E hr => (fss_one (fs_ret (fe_ix rfl (foe (fo_lc (own := [("kind", 2)]) (by rfl) sc_law_kind.nd (fi_list rfl (foe (fo_lst (fa_cons fe_str (fa_cons fe_str (fa_cons fe_str fa_nil)))))) (blkOk_by (own := [("kind", 2)]) (N := ["head", "name", "kind"]) (sc := defScope s_law_kind) (by decide +kernel)) (fun _ _ _ _ _ => (fg_name (i := 2) sc_law_kind.nd rfl (.inl rfl) (hf := .inr rfl))) (fun _ _ _ _ _ => fts_one (ft_in rfl (fv (pv 1)) (fe_dget (hu_of hr) (fv (pv 0)) (fv (pv 2))))) (fun _ _ _ _ _ => (fv (pv 2))) (by decide))) fe_int)))) fun ds P h => ?_
  obtain ⟨h, x, rfl, ok, hx, p⟩ := h
  refine ⟨by show 3 ≤ sizeLine; decide, by show 3 < sizeLine; decide, fun i acc o => o = ⟨[some (.dat h.d), some (.dat (.str x)), none], 0⟩ ∧ (∀ d ∈ acc, ∃ k : Str, d = .str k ∧ ((x ∈ h.plain ∧ k = "plain") ∨ (x ∈ h.fingers ∧ k = "fingers") ∨ (x ∈ h.rows ∧ k = "rows"))) ∧ ((1 ≤ i ∧ x ∈ h.plain) ∨ (2 ≤ i ∧ x ∈ h.fingers) ∨ (3 ≤ i ∧ x ∈ h.rows) → acc ≠ []), ⟨rfl, fun d hd => (nomatch hd), fun z => by omega⟩, ?_, ?_⟩
  · rintro i acc d o hi ⟨rfl, ha, hz⟩
    have step : ∀ (k : Str) (xs : List Str), d = .str k → lookK (.inr k) h.kvs = some (strL xs) → (x ∈ xs → (x ∈ h.plain ∧ k = "plain") ∨ (x ∈ h.fingers ∧ k = "fingers") ∨ (x ∈ h.rows ∧ k = "rows")) → ((1 ≤ i + 1 ∧ x ∈ h.plain) ∨ (2 ≤ i + 1 ∧ x ∈ h.fingers) ∨ (3 ≤ i + 1 ∧ x ∈ h.rows) → x ∉ xs → acc ≠ []) → fgName 2 d ⟨[some (.dat h.d), some (.dat (.str x)), none], 0⟩ fun o2 => (fT (fOp (fIn false) (fVar 1) (fOp fDGet (fVar 0) (fVar 2)))) o2 fun b o3 => if b = true then (fVar 2) o3 fun y o4 => (o4.wipe ([("kind", 2)].map (·.2)) = ⟨[some (.dat h.d), some (.dat (.str x)), none], 0⟩ ∧ (∀ d ∈ acc ++ [y], ∃ k : Str, d = .str k ∧ ((x ∈ h.plain ∧ k = "plain") ∨ (x ∈ h.fingers ∧ k = "fingers") ∨ (x ∈ h.rows ∧ k = "rows"))) ∧ ((1 ≤ i + 1 ∧ x ∈ h.plain) ∨ (2 ≤ i + 1 ∧ x ∈ h.fingers) ∨ (3 ≤ i + 1 ∧ x ∈ h.rows) → acc ++ [y] ≠ [])) else (o3.wipe ([("kind", 2)].map (·.2)) = ⟨[some (.dat h.d), some (.dat (.str x)), none], 0⟩ ∧ (∀ d ∈ acc, ∃ k : Str, d = .str k ∧ ((x ∈ h.plain ∧ k = "plain") ∨ (x ∈ h.fingers ∧ k = "fingers") ∨ (x ∈ h.rows ∧ k = "rows"))) ∧ ((1 ≤ i + 1 ∧ x ∈ h.plain) ∨ (2 ≤ i + 1 ∧ x ∈ h.fingers) ∨ (3 ≤ i + 1 ∧ x ∈ h.rows) → acc ≠ [])) := by
      intro k xs e lk hin hnot
      subst e
      refine ⟨_, lk, ⟨rfl, flat_strs xs⟩, ?_⟩
      show if (if false = true then _ else _) = true then _ else _
      rw [if_neg Bool.false_ne_true, any_strs]
      by_cases hm : x ∈ xs
      · rw [decide_eq_true hm, if_pos rfl]
        refine ⟨rfl, fun d hd => ?_, fun _ => by simp⟩
        rcases List.mem_append.mp hd with q | q
        · exact ha d q
        · exact ⟨k, by simpa using q, hin hm⟩
      · rw [decide_eq_false hm, if_neg Bool.false_ne_true]
        exact ⟨rfl, ha, fun z => hnot z hm⟩
    rcases i with _ | _ | _ | i
    · refine step "plain" h.plain (by cases hi; rfl) h.plain_at (fun m => .inl ⟨m, rfl⟩) fun z n => ?_
      rcases z with ⟨_, z⟩ | ⟨q, _⟩ | ⟨q, _⟩
      · exact absurd z n
      · omega
      · omega
    · refine step "fingers" h.fingers (by cases hi; rfl) h.fingers_at (fun m => .inr (.inl ⟨m, rfl⟩)) fun z n => ?_
      rcases z with ⟨_, z⟩ | ⟨q, z⟩ | ⟨q, _⟩
      · exact hz (.inl ⟨by omega, z⟩)
      · exact absurd z n
      · omega
    · refine step "rows" h.rows (by cases hi; rfl) h.rows_at (fun m => .inr (.inr ⟨m, rfl⟩)) fun z n => ?_
      rcases z with ⟨_, z⟩ | ⟨q, z⟩ | ⟨q, z⟩
      · exact hz (.inl ⟨by omega, z⟩)
      · exact hz (.inr (.inl ⟨by omega, z⟩))
      · exact absurd z n
    · cases hi
  · rintro acc o ⟨rfl, ha, hz⟩
    have ne : acc ≠ [] := hz (by
      rcases List.mem_append.mp hx with q | q
      · obtain q | q := List.mem_append.mp q
        · exact .inl ⟨by show 1 ≤ 3; decide, q⟩
        · exact .inr (.inl ⟨by show 2 ≤ 3; decide, q⟩)
      · exact .inr (.inr ⟨by show 3 ≤ 3; decide, q⟩))
    cases acc with
    | nil => exact absurd rfl ne
    | cons a r =>
      obtain ⟨k, rfl, hk⟩ := ha a List.mem_cons_self
      exact ⟨_, atI_nat (j := 0) rfl, p k hk⟩
end
end Dr

set_option maxRecDepth 100000
set_option maxHeartbeats 3900000
namespace Dr
open PySem PySem.Spec PyProof.Rows L2 K Lf
section
variable {P : Program} {w : World} {K : PySem.W.Frag} [Tabled K] {mg : Str → Option Value} {base : Heap}
abbrev s_law_call : Stmt := topS 31
theorem sc_law_call : FnScope ["tape", "head", "other", "names", "param", "kind", "some"] ["tape", "head", "other"] (defScope s_law_call) := ⟨rfl, rfl, rfl, by decide +kernel, rfl, by decide +kernel, by decide +kernel⟩
def phCall : PhT := fun ds n P => ∃ (h o : Hd), ds = [h.d, o.d] ∧ HdOk h ∧ HdOk o ∧ n < 700000 ∧ ∀ (a : Act), ((∃ y, y ∈ h.nums ∧ a = .tell y) ∨ ∃ x gs, x ∈ h.plain ∧ Given h o gs o.params ∧ a = .call x o.name gs) → ∀ m, m ≤ n + 20 → P a.d m
/-- what stands for a param of this kind -/
theorem Given.snoc {h o : Hd} : ∀ {gs ps : List Str} {g p : Str}, Given h o gs ps → ((p ∈ o.plain ∧ g ∈ h.nums) ∨ (p ∈ o.fingers ∧ g ∈ h.fingers) ∨ (p ∈ o.rows ∧ g ∈ h.rows)) → Given h o (gs ++ [g]) (ps ++ [p])
  | _, _, _, _, .nil, .inl ⟨a, b⟩ => .plain a b .nil
  | _, _, _, _, .nil, .inr (.inl ⟨a, b⟩) => .finger a b .nil
  | _, _, _, _, .nil, .inr (.inr ⟨a, b⟩) => .row a b .nil
  | _, _, _, _, .plain a b r, k => .plain a b (Given.snoc r k)
  | _, _, _, _, .finger a b r, k => .finger a b (Given.snoc r k)
  | _, _, _, _, .row a b r, k => .row a b (Given.snoc r k)
theorem at_pos {α : Type} {a : α} {r : List α} : atI (a :: r) 0 = some a := atI_nat (j := 0) rfl
theorem at_two {α : Type} {a b : α} : atI [a, b] 1 = some b := atI_nat (j := 1) rfl
theorem ok_call (B : Bs mg) (c_pick : C8.Cal P w K mg base 2 "_law_pick" (spT K phPick) []) (c_numbers : C8.Cal P w K mg base 1 "_law_numbers" (spP K phNumbers) []) (c_kind : C8.Cal P w K mg base 1 "_law_kind" (spP K phKind) []) {f : Addr} {fd : FuncData} (F : Fun K "_law_call" "_law_call" s_law_call f fd) : FnOk P w K mg base CX0 3 f fd ["tape", "head", "other"] (spT K phCall) := by
  refine okT F sc_law_call (fun ds n P ⟨h, m, e, _⟩ => by rw [e]; rfl)
    (fun cdv A outer s H E hr => (fss_cons (fs_setO (i := 3) sc_law_call.nd rfl (.inl rfl) (fo_lst fa_nil))
      (fss_cons (fs_for (fi_list rfl (fe_dget (hu_of hr) (fv (pv 2)) fe_str)) (fg_name (i := 4) sc_law_call.nd rfl (.inl rfl))
      (fss_cons (fs_set (i := 5) sc_law_call.nd rfl (.inl rfl) (fe_c c_kind hr (by decide) (by rfl) (fa_cons (fv (pv 2)) (fa_cons (fv (pv 4)) fa_nil))))
      (fss_cut (fs_set (i := 6) sc_law_call.nd rfl (.inl rfl) (fe_ix rfl (foe (fo_lst (fa_cons (fe_dget (hu_of hr) (fv (pv 1)) (fv (pv 5))) (fa_cons (fe_c c_numbers hr (by decide) (by rfl) (fa_cons (fv (pv 1)) fa_nil)) fa_nil)))) (fe_intOf (by rfl) B.int (fa_cons (fe_eq (fv (pv 5)) fe_str) fa_nil))))
      (fss_cons (fs_if (ft_eqD hr.units rfl (fv (pv 6)) (foe (fo_lst fa_nil)))
      (fss_one (fs_ret (fe_tup (fa_cons fe_str (fa_cons (fe_ix rfl (fe_dget (hu_of hr) (fv (pv 1)) fe_str) fe_int) fa_nil)))))
      fss_nil)
      (fss_one (fs_expr (fe_append (pv 3) (fa_cons (fe_ct c_pick hr (by decide) (by rfl) (pv 0) (fa_cons (fv (pv 6)) fa_nil)) fa_nil))))))) PassesOwn.never rfl)
      (fss_one (fs_ret (fe_tup (fa_cons fe_str (fa_cons (fe_ct c_pick hr (by decide) (by rfl) (pv 0) (fa_cons (fe_dget (hu_of hr) (fv (pv 1)) fe_str) fa_nil)) (fa_cons (fe_dget (hu_of hr) (fv (pv 2)) fe_str) (fa_cons (fe_tupleOf rfl (by rfl) B.tuple (fv (pv 3))) fa_nil)))))))))) fun ds n P h => ?_
  obtain ⟨h, o, rfl, ok, oo, hn, p⟩ := h
  obtain ⟨l0, l1⟩ := ok.numsLen
  obtain ⟨pl, hpl⟩ := ok.first
  have hp0 : (("x" : Str)) ∈ h.plain := by rw [hpl]; exact List.mem_cons_self
  have few := oo.few
  refine ⟨by show 0 ≤ sizeLine; decide, _, o.params_at, fun i om => ∃ (gs : List Str) (u v z : Option Ho) (m : Nat), om = ⟨[some .tp, some (.dat h.d), some (.dat o.d), some (.own (strL gs)), u, v, z], m⟩ ∧ m ≤ n + i ∧ gs.length = i ∧ i ≤ o.params.length ∧ Given h o gs (o.params.take i), ⟨[], none, none, none, n, rfl, Nat.le_refl _, rfl, Nat.zero_le _, .nil⟩, ?_, ?_⟩
  · rintro i d om hi ⟨gs, u, v, z, m, rfl, hm, hl, hi', gv⟩
    rw [List.getElem?_map] at hi
    obtain ⟨q, hq, rfl⟩ : ∃ q, o.params[i]? = some q ∧ d = .str q := by
      cases e : o.params[i]? with
      | none => rw [e] at hi; cases hi
      | some q => rw [e] at hi; cases hi; exact ⟨q, rfl, rfl⟩
    have hmem := List.mem_of_getElem? hq
    have hilt := (List.getElem?_eq_some_iff.mp hq).1
    refine ⟨o, q, rfl, oo, oo.params.2 q hmem, fun k hk => ?_⟩
    refine ⟨fun om => ∃ xs : List Str, om = ⟨[some .tp, some (.dat h.d), some (.dat o.d), some (.own (strL gs)), some (.dat (.str q)), some (.dat (.str k)), some (.dat (strL xs))], m⟩ ∧ (∀ x ∈ xs, x ∈ letters ∧ ((q ∈ o.plain ∧ x ∈ h.nums) ∨ (q ∈ o.fingers ∧ x ∈ h.fingers) ∨ (q ∈ o.rows ∧ x ∈ h.rows))) ∧ xs.length ≤ 5, ?_, ?_⟩
    · have l := ok.lens
      rcases hk with ⟨a, rfl⟩ | ⟨a, rfl⟩ | ⟨a, rfl⟩
      · refine ⟨_, h.plain_at, h, rfl, ok, by show 2 ≤ sizeLine; decide, _, at_two, h.nums, rfl, fun x hx => ⟨ok.numIn hx, .inl ⟨a, hx⟩⟩, ?_⟩
        unfold Hd.nums
        rw [List.length_append]
        omega
      · exact ⟨_, h.fingers_at, h, rfl, ok, by show 2 ≤ sizeLine; decide, _, at_pos, h.fingers, rfl, fun x hx => ⟨ok.kinds.2.1 hx, .inr (.inl ⟨a, hx⟩)⟩, by omega⟩
      · exact ⟨_, h.rows_at, h, rfl, ok, by show 2 ≤ sizeLine; decide, _, at_pos, h.rows, rfl, fun x hx => ⟨ok.kinds.2.2 hx, .inr (.inr ⟨a, hx⟩)⟩, by omega⟩
    · rintro om ⟨xs, rfl, hx, hxl⟩
      refine ⟨by show 0 ≤ sizeLine; decide, shaped_names fun x h => (hx x h).1, shaped_nil, ?_⟩
      show if PyData.eqv (strL xs) (.list []) = true then _ else _
      rw [eqv_nil]
      cases xs with
      | nil => exact ⟨_, h.plain_at, _, by rw [hpl]; exact at_pos, by show 2 ≤ sizeLine; decide, p (.tell "x") (.inl ⟨_, List.mem_append_left _ hp0, rfl⟩) m (by omega)⟩
      | cons x0 xr =>
        rw [if_neg (by simp)]
        refine ⟨⟨_, rfl⟩, rfl, _, rfl, by show m < 1000000; omega, len_pos (xs := x0 :: xr) (by simp), by rw [List.length_map]; omega, fun d hd => ?_⟩
        obtain ⟨x, hx1, rfl⟩ := mem_strs hd
        refine ⟨?_, gs ++ [x], some (.dat (.str q)), some (.dat (.str k)), some (.dat (strL (x0 :: xr))), m + 1, ?_, by omega, by rw [List.length_append, hl]; rfl, hilt, ?_⟩
        · rw [List.length_map, hl]
          exact Nat.lt_of_le_of_lt (m := 7) (by omega) (by decide)
        · unfold strL
          rw [List.map_append]
          rfl
        · rw [List.take_add_one, hq]
          exact gv.snoc (hx x hx1).2
  · rintro om ⟨gs, u, v, z, m, rfl, hm, hl, hi', gv⟩
    rw [List.length_map] at gv hl hm
    refine ⟨rfl, _, h.plain_at, _, rfl, by show m < 1000000; omega, by rw [List.length_map]; exact ok.lens.1, by rw [List.length_map]; have := ok.lens; omega, fun d hd => ⟨_, o.name_at, by show 4 ≤ sizeLine; decide, ?_⟩⟩
    obtain ⟨x, hx, rfl⟩ := mem_strs hd
    rw [List.take_length] at gv
    exact p (.call x o.name gs) (.inr ⟨x, gs, hx, gv, rfl⟩) (m + 1) (by omega)
abbrev s_law_row_act : Stmt := topS 32
theorem sc_law_row_act : FnScope ["tape", "head", "wide", "a", "number", "place", "way"] ["tape", "head", "wide"] (defScope s_law_row_act) := ⟨rfl, rfl, rfl, by decide +kernel, rfl, by decide +kernel, by decide +kernel⟩
def phRow : PhT := fun ds n P => ∃ (h : Hd) (wd : Int), ds = [h.d, .int wd] ∧ HdOk h ∧ h.rows ≠ [] ∧ n < 700000 ∧ 1 ≤ wd ∧ wd ≤ 1000 ∧ ∀ (a : Act), (∀ hs L, AFit h hs wd L a) → ∀ m, m ≤ n + 10 → P a.d m
theorem cat_len {h : Hd} (o : HdOk h) : (h.fingers.map PyData.str).length + (h.nums.map PyData.str).length ≤ sizeLine ∧ 0 < (h.fingers.map PyData.str ++ h.nums.map PyData.str).length ∧ (h.fingers.map PyData.str ++ h.nums.map PyData.str).length < 1000000 := by
  have l := o.lens
  obtain ⟨l0, l1⟩ := o.numsLen
  have e : h.nums.length = h.plain.length + h.fingers.length := by unfold Hd.nums; rw [List.length_append]
  rw [List.length_append]
  rw [List.length_map, List.length_map] at *
  refine ⟨Nat.le_trans (m := 10) (by omega) (by decide), by omega, by omega⟩
theorem mem_cat {h : Hd} {d : PyData} (hd : d ∈ h.fingers.map PyData.str ++ h.nums.map PyData.str) : ∃ x, x ∈ h.nums ∧ d = .str x := by
  rcases List.mem_append.mp hd with q | q
  · obtain ⟨x, hx, rfl⟩ := mem_strs q
    exact ⟨x, List.mem_append_right _ hx, rfl⟩
  · exact mem_strs q
theorem ok_row (c_draw : C8.Cal P w K mg base 1 "_law_draw" (spT K phDraw) []) (c_pick : C8.Cal P w K mg base 2 "_law_pick" (spT K phPick) []) (c_numbers : C8.Cal P w K mg base 1 "_law_numbers" (spP K phNumbers) []) {f : Addr} {fd : FuncData} (F : Fun K "_law_row_act" "_law_row_act" s_law_row_act f fd) : FnOk P w K mg base CX0 3 f fd ["tape", "head", "wide"] (spT K phRow) := by
  refine okT F sc_law_row_act (fun ds n P ⟨h, m, e, _⟩ => by rw [e]; rfl)
    (fun cdv A outer s H E hr => (fss_cons (fs_par (i := 3) (j := 4) rfl sc_law_row_act.nd rfl rfl (by decide) rfl rfl (fa_cons (fe_ct c_pick hr (by decide) (by rfl) (pv 0) (fa_cons (fe_dget (hu_of hr) (fv (pv 1)) fe_str) fa_nil)) (fa_cons (fe_ct c_pick hr (by decide) (by rfl) (pv 0) (fa_cons (fe_c c_numbers hr (by decide) (by rfl) (fa_cons (fv (pv 1)) fa_nil)) fa_nil)) fa_nil)) (by rfl))
      (fss_cons (fs_set (i := 5) sc_law_row_act.nd rfl (.inl rfl) (fe_ct c_pick hr (by decide) (by rfl) (pv 0) (fa_cons (foe (fo_cat (fe_dget (hu_of hr) (fv (pv 1)) fe_str) (fe_c c_numbers hr (by decide) (by rfl) (fa_cons (fv (pv 1)) fa_nil)))) fa_nil)))
      (fss_cons (fs_set (i := 6) sc_law_row_act.nd rfl (.inl rfl) (fe_ct c_draw hr (by decide) (by rfl) (pv 0) (fa_cons fe_int fa_nil)))
      (fss_cons (fs_if (ft_eq (fv (pv 6)) fe_int)
      (fss_one (fs_ret (fe_tup (fa_cons fe_str (fa_cons (fv (pv 3)) (fa_cons (fv (pv 4)) fa_nil))))))
      fss_nil)
      (fss_cons (fs_if (ft_eq (fv (pv 6)) fe_int)
      (fss_one (fs_ret (fe_tup (fa_cons fe_str (fa_cons (fe_ct c_pick hr (by decide) (by rfl) (pv 0) (fa_cons (foe (fo_cat (fe_dget (hu_of hr) (fv (pv 1)) fe_str) (fe_c c_numbers hr (by decide) (by rfl) (fa_cons (fv (pv 1)) fa_nil)))) fa_nil)) (fa_cons (fv (pv 3)) fa_nil))))))
      fss_nil)
      (fss_cons (fs_if (ft_lt (fv (pv 6)) fe_int)
      (fss_one (fs_ret (fe_tup (fa_cons fe_str (fa_cons (fe_ct c_pick hr (by decide) (by rfl) (pv 0) (fa_cons (fe_dget (hu_of hr) (fv (pv 1)) fe_str) fa_nil)) (fa_cons (fv (pv 3)) (fa_cons (fv (pv 5)) fa_nil)))))))
      fss_nil)
      (fss_one (fs_ret (fe_tup (fa_cons fe_str (fa_cons (fv (pv 3)) (fa_cons (fv (pv 5)) (fa_cons (fv (pv 4)) fa_nil)))))))))))))) fun ds n P h => ?_
  obtain ⟨h, wd, rfl, ok, hne, hn, w0, w1, p⟩ := h
  obtain ⟨l0, l1⟩ := ok.numsLen
  obtain ⟨k0, k1, k2⟩ := cat_len ok
  have l := ok.lens
  refine ⟨rfl, _, h.rows_at, _, rfl, by show n < 1000000; omega, len_pos hne, by rw [List.length_map]; omega, fun d hd => ⟨rfl, h, rfl, ok, _, rfl, by show n + 1 < 1000000; omega, l0, l1, fun e he => ⟨rfl, _, h.fingers_at, h, rfl, ok, k0, _, rfl, by show n + 2 < 1000000; omega, k1, k2, fun f hf => ⟨rfl, 5, rfl, by show n + 3 < 1000000; omega, by decide, by decide, fun r r0 r1 => ?_⟩⟩⟩⟩
  obtain ⟨a, ha, rfl⟩ := mem_strs hd
  obtain ⟨y, hy, rfl⟩ := mem_strs he
  obtain ⟨i, hi, rfl⟩ := mem_cat hf
  show if (if false = true then _ else decide (r = 0)) = true then _ else _
  rw [if_neg Bool.false_ne_true] <;> skip
  by_cases h0 : r = 0
  · rw [decide_eq_true h0, if_pos rfl]
    exact ⟨by show 3 ≤ sizeLine; decide, p (.row a y) (fun _ _ => .row ha hy) (n + 4) (by omega)⟩
  rw [decide_eq_false h0, if_neg Bool.false_ne_true]
  show if (if false = true then _ else decide (r = 1)) = true then _ else _
  rw [if_neg Bool.false_ne_true] <;> skip
  by_cases h1 : r = 1
  · rw [decide_eq_true h1, if_pos rfl]
    refine ⟨rfl, _, h.fingers_at, h, rfl, ok, k0, _, rfl, by show n + 4 < 1000000; omega, k1, k2, fun g hg => ?_⟩
    obtain ⟨x, hx, rfl⟩ := mem_cat hg
    exact ⟨by show 3 ≤ sizeLine; decide, p (.length x a) (fun _ _ => .length hx ha) (n + 5) (by omega)⟩
  rw [decide_eq_false h1, if_neg Bool.false_ne_true]
  show if decide (r < 4) = true then _ else _
  by_cases h2 : r < 4
  · rw [decide_eq_true h2, if_pos rfl]
    refine ⟨rfl, _, h.plain_at, _, rfl, by show n + 4 < 1000000; omega, by rw [List.length_map]; omega, by rw [List.length_map]; omega, fun g hg => ?_⟩
    obtain ⟨x, hx, rfl⟩ := mem_strs hg
    exact ⟨by show 4 ≤ sizeLine; decide, p (.get x a i) (fun _ _ => .get hx ha hi) (n + 5) (by omega)⟩
  rw [decide_eq_false h2, if_neg Bool.false_ne_true]
  exact ⟨by show 4 ≤ sizeLine; decide, p (.put a i y) (fun _ _ => .put ha hi hy) (n + 4) (by omega)⟩
abbrev s_law_finger_act : Stmt := topS 33
theorem sc_law_finger_act : FnScope ["tape", "head", "wide", "p", "q", "way"] ["tape", "head", "wide"] (defScope s_law_finger_act) := ⟨rfl, rfl, rfl, by decide +kernel, rfl, by decide +kernel, by decide +kernel⟩
def phFinger : PhT := fun ds n P => ∃ (h : Hd) (wd : Int), ds = [h.d, .int wd] ∧ HdOk h ∧ h.fingers ≠ [] ∧ n < 700000 ∧ 1 ≤ wd ∧ wd ≤ 1000 ∧ ∀ (a : Act), (∀ hs L, AFit h hs wd L a) → ∀ m, m ≤ n + 10 → P a.d m
theorem ok_finger (c_draw : C8.Cal P w K mg base 1 "_law_draw" (spT K phDraw) []) (c_pick : C8.Cal P w K mg base 2 "_law_pick" (spT K phPick) []) (c_a_word : C8.Cal P w K mg base 3 "_law_a_word" (spT K phWord) []) {f : Addr} {fd : FuncData} (F : Fun K "_law_finger_act" "_law_finger_act" s_law_finger_act f fd) : FnOk P w K mg base CX0 4 f fd ["tape", "head", "wide"] (spT K phFinger) := by
  refine okT F sc_law_finger_act (fun ds n P ⟨h, m, e, _⟩ => by rw [e]; rfl)
    (fun cdv A outer s H E hr => (fss_cons (fs_par (i := 3) (j := 4) rfl sc_law_finger_act.nd rfl rfl (by decide) rfl rfl (fa_cons (fe_ct c_pick hr (by decide) (by rfl) (pv 0) (fa_cons (fe_dget (hu_of hr) (fv (pv 1)) fe_str) fa_nil)) (fa_cons (fe_ct c_pick hr (by decide) (by rfl) (pv 0) (fa_cons (fe_dget (hu_of hr) (fv (pv 1)) fe_str) fa_nil)) fa_nil)) (by rfl))
      (fss_cons (fs_set (i := 5) sc_law_finger_act.nd rfl (.inl rfl) (fe_ct c_draw hr (by decide) (by rfl) (pv 0) (fa_cons fe_int fa_nil)))
      (fss_cons (fs_if (ft_eq (fv (pv 5)) fe_int)
      (fss_one (fs_ret (fe_tup (fa_cons fe_str (fa_cons (fv (pv 3)) (fa_cons (fe_ct c_a_word hr (by decide) (by rfl) (pv 0) (fa_cons (fv (pv 2)) fa_nil)) fa_nil))))))
      fss_nil)
      (fss_cons (fs_if (ft_eq (fv (pv 5)) fe_int)
      (fss_one (fs_ret (fe_tup (fa_cons fe_str (fa_cons (fv (pv 3)) (fa_cons (fv (pv 4)) (fa_cons (fe_ct c_pick hr (by decide) (by rfl) (pv 0) (fa_cons (fe_dget (hu_of hr) (fv (pv 1)) fe_str) fa_nil)) fa_nil)))))))
      fss_nil)
      (fss_one (fs_ret (fe_tup (fa_cons fe_str (fa_cons (fv (pv 3)) (fa_cons (fv (pv 4)) (fa_cons (fe_ct c_pick hr (by decide) (by rfl) (pv 0) (fa_cons (foe (fo_lst (fa_cons fe_int (fa_cons fe_int (fa_cons (fe_sub fe_int fe_int) (fa_cons fe_int (fa_cons (fe_ct c_a_word hr (by decide) (by rfl) (pv 0) (fa_cons (fv (pv 2)) fa_nil)) fa_nil))))))) fa_nil)) fa_nil)))))))))))) fun ds n P h => ?_
  obtain ⟨h, wd, rfl, ok, hne, hn, w0, w1, p⟩ := h
  have l := ok.lens
  have lf : (h.fingers.map PyData.str).length < 1000000 := by rw [List.length_map]; omega
  refine ⟨rfl, _, h.fingers_at, _, rfl, by show n < 1000000; omega, len_pos hne, lf, fun d hd => ⟨rfl, _, h.fingers_at, _, rfl, by show n + 1 < 1000000; omega, len_pos hne, lf, fun e he => ⟨rfl, 4, rfl, by show n + 2 < 1000000; omega, by decide, by decide, fun r r0 r1 => ?_⟩⟩⟩
  obtain ⟨x, hx, rfl⟩ := mem_strs hd
  obtain ⟨y, hy, rfl⟩ := mem_strs he
  have hxn : x ∈ h.nums := List.mem_append_right _ hx
  show if (if false = true then _ else decide (r = 0)) = true then _ else _
  rw [if_neg Bool.false_ne_true] <;> skip
  by_cases h0 : r = 0
  · rw [decide_eq_true h0, if_pos rfl]
    exact ⟨rfl, wd, rfl, by show n + 3 < 900000; omega, w0, w1, fun i hi => ⟨by show 3 ≤ sizeLine; decide, p (.set x i) (fun _ _ => .set hxn hi) (n + 6) (by omega)⟩⟩
  rw [decide_eq_false h0, if_neg Bool.false_ne_true]
  show if (if false = true then _ else decide (r = 1)) = true then _ else _
  rw [if_neg Bool.false_ne_true] <;> skip
  by_cases h1 : r = 1
  · rw [decide_eq_true h1, if_pos rfl]
    refine ⟨rfl, _, h.fingers_at, _, rfl, by show n + 3 < 1000000; omega, len_pos hne, lf, fun g hg => ?_⟩
    obtain ⟨z, hz, rfl⟩ := mem_strs hg
    exact ⟨by show 4 ≤ sizeLine; decide, p (.mid x y z) (fun _ _ => .midF hx hy hz) (n + 4) (by omega)⟩
  rw [decide_eq_false h1, if_neg Bool.false_ne_true]
  refine ⟨rfl, rfl, wd, rfl, by show n + 3 < 900000; omega, w0, w1, fun i hi => ⟨by show 5 ≤ sizeLine; decide, _, rfl, by show n + 6 < 1000000; omega, by show 0 < 5; decide, by show 5 < 1000000; decide, fun z hz => ⟨by show 4 ≤ sizeLine; decide, ?_⟩⟩⟩
  have W : ∀ k : Int, z = .int k → Wd wd k → P (.tuple [.str "add", .str x, .str y, z]) (n + 7) := fun k e hk => by
    subst e
    exact p (.add x y k) (fun _ _ => .addF hx hy hk) (n + 7) (by omega)
  simp only [List.mem_cons, List.not_mem_nil, or_false] at hz
  rcases hz with e | e | e | e | e
  · exact W _ e ⟨by omega, by omega⟩
  · exact W _ e ⟨by omega, by omega⟩
  · exact W _ e ⟨by omega, by omega⟩
  · exact W _ e ⟨by omega, by omega⟩
  · exact W _ e hi
end
end Dr

set_option maxRecDepth 100000
set_option maxHeartbeats 3900000
namespace Dr
open PySem PySem.Spec PyProof.Rows L2 K Lf
section
variable {P : Program} {w : World} {K : PySem.W.Frag} [Tabled K] {mg : Str → Option Value} {base : Heap}
abbrev s_law_act : Stmt := topS 34
theorem sc_law_act : FnScope ["tape", "head", "heads", "wide", "x", "y", "z", "way", "low", "high"] ["tape", "head", "heads", "wide"] (defScope s_law_act) := ⟨rfl, rfl, rfl, by decide +kernel, rfl, by decide +kernel, by decide +kernel⟩
def hdsD (hs : List Hd) : PyData := .list (hs.map Hd.d)
def phAct : PhT := fun ds n P => ∃ (h : Hd) (hs : List Hd) (wd : Int), ds = [h.d, hdsD hs, .int wd] ∧ HdOk h ∧ (∀ o ∈ hs, HdOk o) ∧ hs ≠ [] ∧ hs.length ≤ 6 ∧ n < 600000 ∧ 1 ≤ wd ∧ wd ≤ 1000 ∧ ∀ (a : Act), AFit h hs wd Raw a → ∀ m, m ≤ n + 30 → P a.d m
theorem ok_act (B : Bs mg) (c_draw : C8.Cal P w K mg base 1 "_law_draw" (spT K phDraw) []) (c_pick : C8.Cal P w K mg base 2 "_law_pick" (spT K phPick) []) (c_a_word : C8.Cal P w K mg base 3 "_law_a_word" (spT K phWord) []) (c_numbers : C8.Cal P w K mg base 1 "_law_numbers" (spP K phNumbers) [])
    (c_test : C8.Cal P w K mg base 5 "_law_test" (spT K phTest) []) (c_call : C8.Cal P w K mg base 3 "_law_call" (spT K phCall) []) (c_row_act : C8.Cal P w K mg base 3 "_law_row_act" (spT K phRow) []) (c_finger_act : C8.Cal P w K mg base 4 "_law_finger_act" (spT K phFinger) []) {f : Addr} {fd : FuncData} (F : Fun K "_law_act" "_law_act" s_law_act f fd) : FnOk P w K mg base CX0 6 f fd ["tape", "head", "heads", "wide"] (spT K phAct) := by
  refine okT F sc_law_act (fun ds n P ⟨h, hs, m, e, _⟩ => by rw [e]; rfl)
    (fun cdv A outer s H E hr => (fss_cons (fs_par3 (i := 4) (j := 5) (l := 6) rfl sc_law_act.nd rfl rfl rfl (by decide) (by decide) (by decide) rfl rfl rfl (fa_cons (fe_ct c_pick hr (by decide) (by rfl) (pv 0) (fa_cons (fe_dget (hu_of hr) (fv (pv 1)) fe_str) fa_nil)) (fa_cons (fe_ct c_pick hr (by decide) (by rfl) (pv 0) (fa_cons (fe_dget (hu_of hr) (fv (pv 1)) fe_str) fa_nil)) (fa_cons (fe_ct c_pick hr (by decide) (by rfl) (pv 0) (fa_cons (fe_dget (hu_of hr) (fv (pv 1)) fe_str) fa_nil)) fa_nil))) (by rfl))
      (fss_cons (fs_set (i := 7) sc_law_act.nd rfl (.inl rfl) (fe_ct c_draw hr (by decide) (by rfl) (pv 0) (fa_cons fe_int fa_nil)))
      (fss_cut (fs_if (fw_pt (fw_and (ft_lt (fv (pv 7)) fe_int) (fw_and1 (ft_neD hr.units rfl (fe_dget (hu_of hr) (fv (pv 1)) fe_str) (foe (fo_lst fa_nil))))))
      (fss_one (fs_ret (fe_ct c_row_act hr (by decide) (by rfl) (pv 0) (fa_cons (fv (pv 1)) (fa_cons (fv (pv 3)) fa_nil)))))
      fss_nil)
      (fss_cut (fs_if (fw_pt (fw_and (ft_lt (fv (pv 7)) fe_int) (fw_and1 (ft_neD hr.units rfl (fe_dget (hu_of hr) (fv (pv 1)) fe_str) (foe (fo_lst fa_nil))))))
      (fss_one (fs_ret (fe_ct c_finger_act hr (by decide) (by rfl) (pv 0) (fa_cons (fv (pv 1)) (fa_cons (fv (pv 3)) fa_nil)))))
      fss_nil)
      (fss_cons (fs_if (ft_lt (fv (pv 7)) fe_int)
      (fss_one (fs_ret (fe_tup (fa_cons (fe_ct c_pick hr (by decide) (by rfl) (pv 0) (fa_cons (foe (fo_lst (fa_cons fe_str (fa_cons fe_str (fa_cons fe_str (fa_cons fe_str (fa_cons fe_str fa_nil))))))) fa_nil)) (fa_cons (fv (pv 4)) (fa_cons (fv (pv 5)) (fa_cons (fv (pv 6)) fa_nil)))))))
      fss_nil)
      (fss_cons (fs_if (ft_lt (fv (pv 7)) fe_int)
      (fss_one (fs_ret (fe_tup (fa_cons fe_str (fa_cons (fv (pv 4)) (fa_cons (fe_ct c_pick hr (by decide) (by rfl) (pv 0) (fa_cons (fe_c c_numbers hr (by decide) (by rfl) (fa_cons (fv (pv 1)) fa_nil)) fa_nil)) (fa_cons (fe_ct c_a_word hr (by decide) (by rfl) (pv 0) (fa_cons (fv (pv 3)) fa_nil)) fa_nil)))))))
      fss_nil)
      (fss_cons (fs_if (ft_lt (fv (pv 7)) fe_int)
      (fss_cons (fs_par (i := 8) (j := 9) rfl sc_law_act.nd rfl rfl (by decide) rfl rfl (fa_cons (fe_ct c_a_word hr (by decide) (by rfl) (pv 0) (fa_cons (fv (pv 3)) fa_nil)) (fa_cons (fe_ct c_a_word hr (by decide) (by rfl) (pv 0) (fa_cons (fv (pv 3)) fa_nil)) fa_nil)) (by rfl))
      (fss_one (fs_ret (fe_tup (fa_cons fe_str (fa_cons (fv (pv 4)) (fa_cons (fe_min2 rfl (by rfl) B.min (fa_cons (fv (pv 8)) (fa_cons (fv (pv 9)) fa_nil))) (fa_cons (fe_max2 rfl (by rfl) B.max (fa_cons (fv (pv 8)) (fa_cons (fv (pv 9)) fa_nil))) fa_nil))))))))
      fss_nil)
      (fss_cons (fs_if (ft_lt (fv (pv 7)) fe_int)
      (fss_one (fs_ret (fe_catT rfl (fe_catT rfl (fe_tup (fa_cons fe_str fa_nil)) (fe_ct c_test hr (by decide) (by rfl) (pv 0) (fa_cons (fv (pv 1)) (fa_cons (fv (pv 3)) fa_nil)))) (fe_tup (fa_cons (fe_ct c_draw hr (by decide) (by rfl) (pv 0) (fa_cons fe_int fa_nil)) fa_nil)))))
      fss_nil)
      (fss_cons (fs_if (ft_eq (fv (pv 7)) fe_int)
      (fss_one (fs_ret (fe_catT rfl (fe_tup (fa_cons fe_str fa_nil)) (fe_ct c_test hr (by decide) (by rfl) (pv 0) (fa_cons (fv (pv 1)) (fa_cons (fv (pv 3)) fa_nil))))))
      fss_nil)
      (fss_cons (fs_if (ft_eq (fv (pv 7)) fe_int)
      (fss_one (fs_ret (fe_ct c_call hr (by decide) (by rfl) (pv 0) (fa_cons (fv (pv 1)) (fa_cons (fe_ct c_pick hr (by decide) (by rfl) (pv 0) (fa_cons (fv (pv 2)) fa_nil)) fa_nil)))))
      fss_nil)
      (fss_cons (fs_if (ft_in rfl (fv (pv 7)) (fe_tup (fa_cons fe_int (fa_cons fe_int (fa_cons fe_int fa_nil)))))
      (fss_one (fs_ret (fe_tup (fa_cons (fe_ix rfl (foe (fo_lst (fa_cons fe_str (fa_cons fe_str fa_nil)))) (fe_intOf (by rfl) B.int (fa_cons (fe_gt (fv (pv 7)) fe_int) fa_nil))) (fa_cons (fe_ct c_pick hr (by decide) (by rfl) (pv 0) (fa_cons (fe_c c_numbers hr (by decide) (by rfl) (fa_cons (fv (pv 1)) fa_nil)) fa_nil)) fa_nil)))))
      fss_nil)
      (fss_one (fs_ret (fe_ix rfl (foe (fo_lst (fa_cons (fe_tup (fa_cons fe_str (fa_cons (fv (pv 4)) (fa_cons (fe_ct c_a_word hr (by decide) (by rfl) (pv 0) (fa_cons (fv (pv 3)) fa_nil)) fa_nil)))) (fa_cons (fe_tup (fa_cons fe_str (fa_cons (fv (pv 4)) (fa_cons (fv (pv 5)) (fa_cons (fv (pv 6)) fa_nil))))) (fa_cons (fe_tup (fa_cons fe_str (fa_cons (fe_ct c_draw hr (by decide) (by rfl) (pv 0) (fa_cons fe_int fa_nil)) fa_nil))) fa_nil))))) (fe_ct c_draw hr (by decide) (by rfl) (pv 0) (fa_cons fe_int fa_nil))))))))))))))))) fun ds n P h => ?_
  obtain ⟨h, hs, wd, rfl, ok, oks, hsne, hsl, hn, w0, w1, p⟩ := h
  have l := ok.lens
  have lp : 0 < (h.plain.map PyData.str).length ∧ (h.plain.map PyData.str).length < 1000000 := by rw [List.length_map]; omega
  obtain ⟨l0, l1⟩ := ok.numsLen
  refine ⟨rfl, _, h.plain_at, _, rfl, by show n < 1000000; omega, lp.1, lp.2, fun d1 hd1 => ⟨rfl, _, h.plain_at, _, rfl, by show n + 1 < 1000000; omega, lp.1, lp.2, fun d2 hd2 => ⟨rfl, _, h.plain_at, _, rfl, by show n + 2 < 1000000; omega, lp.1, lp.2, fun d3 hd3 => ⟨rfl, 28, rfl, by show n + 3 < 1000000; omega, by decide, by decide, fun r r0 r1 => ?_⟩⟩⟩⟩
  obtain ⟨x, hx, rfl⟩ := mem_strs hd1
  obtain ⟨y, hy, rfl⟩ := mem_strs hd2
  obtain ⟨z, hz, rfl⟩ := mem_strs hd3
  have nx : ∀ {v}, v ∈ h.plain → v ∈ h.nums := fun q => List.mem_append_left _ q
  have ne_of : ∀ {xs : List Str}, (!PyData.eqv (strL xs) (.list [])) = true → xs ≠ [] := fun {xs} q e => by
    rw [e] at q
    exact nomatch q
  refine ⟨fun om => om = ⟨[some .tp, some (.dat h.d), some (.dat (hdsD hs)), some (.dat (.int wd)), some (.dat (.str x)), some (.dat (.str y)), some (.dat (.str z)), some (.dat (.int r)), none, none], n + 4⟩, ?_, ?_⟩
  · refine ite2 (fun _ => ⟨_, h.rows_at, by show 0 ≤ sizeLine; decide, shaped_names (fun v => ok.kinds.2.2), shaped_nil, ite2 (fun q => ?_) fun _ => rfl⟩) fun _ => rfl
    exact ⟨rfl, h, wd, rfl, ok, ne_of q, by show n + 4 < 700000; omega, w0, w1, fun a ha m hm => p a (ha _ _) m (by have : m ≤ n + 4 + 10 := hm; omega)⟩
  rintro _ rfl
  refine ⟨fun om => om = ⟨[some .tp, some (.dat h.d), some (.dat (hdsD hs)), some (.dat (.int wd)), some (.dat (.str x)), some (.dat (.str y)), some (.dat (.str z)), some (.dat (.int r)), none, none], n + 4⟩, ?_, ?_⟩
  · refine ite2 (fun _ => ⟨_, h.fingers_at, by show 0 ≤ sizeLine; decide, shaped_names (fun v => ok.kinds.2.1), shaped_nil, ite2 (fun q => ?_) fun _ => rfl⟩) fun _ => rfl
    exact ⟨rfl, h, wd, rfl, ok, ne_of q, by show n + 4 < 700000; omega, w0, w1, fun a ha m hm => p a (ha _ _) m (by have : m ≤ n + 4 + 10 := hm; omega)⟩
  rintro _ rfl
  -- a sum
  refine ite2 (fun _ => ⟨rfl, by show 5 ≤ sizeLine; decide, _, rfl, by show n + 4 < 1000000; omega, by show 0 < 5; decide, by show 5 < 1000000; decide, fun g hg => ?_⟩) fun _ => ?_
  · obtain ⟨s, hs', rfl⟩ := mem_strs (xs := sumWords) hg
    exact ⟨by show 4 ≤ sizeLine; decide, p (.sum s x y z) (.sum hs' hx hy hz) (n + 5) (by omega)⟩
  -- an addition
  refine ite2 (fun _ => ⟨rfl, h, rfl, ok, _, rfl, by show n + 4 < 1000000; omega, l0, l1, fun g hg => ⟨rfl, wd, rfl, by show n + 5 < 900000; omega, w0, w1, fun i hi => ?_⟩⟩) fun _ => ?_
  · obtain ⟨v, hv, rfl⟩ := mem_strs hg
    exact ⟨by show 4 ≤ sizeLine; decide, p (.add x v i) (.addP hx hv hi) (n + 8) (by omega)⟩
  -- a word asked for
  refine ite2 (fun _ => ⟨rfl, wd, rfl, by show n + 4 < 900000; omega, w0, w1, fun i hi => ⟨rfl, wd, rfl, by show n + 7 < 900000; omega, w0, w1, fun j hj => ?_⟩⟩) fun _ => ?_
  · refine ⟨by show 4 ≤ sizeLine; decide, p (.ask x (if j < i then j else i) (if j > i then j else i)) (.ask hx ?_ ?_ ?_) (n + 10) (by omega)⟩
    · split
      · exact hj
      · exact hi
    · split
      · exact hj
      · exact hi
    · split <;> split <;> omega
  -- if
  refine ite2 (fun _ => ⟨by show 1 ≤ sizeLine; decide, rfl, h, wd, rfl, ok, by show n + 4 < 700000; omega, w0, w1, fun s g t hs' hg ht => ⟨by show 1 + 3 ≤ sizeLine; decide, rfl, 30, rfl, by show n + 17 < 1000000; omega, by decide, by decide, fun q q0 q1 => ⟨by show 1 ≤ sizeLine; decide, by show 4 + 1 ≤ sizeLine; decide, p (.ite s g t q) (.ite hs' hg ht ⟨q0, q1⟩) (n + 18) (by omega)⟩⟩⟩) fun _ => ?_
  -- check
  refine ite2 (fun _ => ⟨by show 1 ≤ sizeLine; decide, rfl, h, wd, rfl, ok, by show n + 4 < 700000; omega, w0, w1, fun s g t hs' hg ht => ⟨by show 1 + 3 ≤ sizeLine; decide, p (.check s g t) (.check hs' hg ht) (n + 17) (by omega)⟩⟩) fun _ => ?_
  -- a call
  refine ite2 (fun _ => ⟨rfl, rfl, _, rfl, by show n + 4 < 1000000; omega, by
      cases hs with
      | nil => exact absurd rfl hsne
      | cons a b => rw [List.length_map]; exact Nat.succ_pos _, by rw [List.length_map]; omega, fun d hd => ?_⟩) fun _ => ?_
  · obtain ⟨o, ho, rfl⟩ := List.mem_map.mp hd
    refine ⟨h, o, rfl, ok, oks o ho, by show n + 5 < 700000; omega, fun a ha m hm => p a ?_ m (by have : m ≤ n + 5 + 20 := hm; omega)⟩
    rcases ha with ⟨v, hv, rfl⟩ | ⟨v, gs, hv, hg, rfl⟩
    · exact .tell hv
    · exact .call hv ho hg
  -- a telling, a going back
  refine ⟨by show 3 ≤ sizeLine; decide, ⟨rfl, rfl⟩, ite2 (fun _ => ?_) fun _ => ?_⟩
  · refine ⟨by show 2 ≤ sizeLine; decide, ?_⟩
    by_cases h24 : 24 < r
    · refine ⟨.str "back", by show atI [PyData.str "tell", PyData.str "back"] (if decide (24 < r) = true then 1 else 0) = _; rw [decide_eq_true h24, if_pos rfl]; exact at_two, rfl, h, rfl, ok, _, rfl, by show n + 4 < 1000000; omega, l0, l1, fun g hg => ?_⟩
      obtain ⟨v, hv, rfl⟩ := mem_strs hg
      exact ⟨by show 2 ≤ sizeLine; decide, p (.back v) (.back hv) (n + 5) (by omega)⟩
    · refine ⟨.str "tell", by show atI [PyData.str "tell", PyData.str "back"] (if decide (24 < r) = true then 1 else 0) = _; rw [decide_eq_false h24, if_neg Bool.false_ne_true]; exact at_pos, rfl, h, rfl, ok, _, rfl, by show n + 4 < 1000000; omega, l0, l1, fun g hg => ?_⟩
      obtain ⟨v, hv, rfl⟩ := mem_strs hg
      exact ⟨by show 2 ≤ sizeLine; decide, p (.tell v) (.tell hv) (n + 5) (by omega)⟩
  -- the rest
  refine ⟨rfl, wd, rfl, by show n + 4 < 900000; omega, w0, w1, fun i hi => ⟨by show 3 ≤ sizeLine; decide, by show 4 ≤ sizeLine; decide, rfl, 30, rfl, by show n + 7 < 1000000; omega, by decide, by decide, fun q q0 q1 => ⟨by show 2 ≤ sizeLine; decide, by show 3 ≤ sizeLine; decide, rfl, 3, rfl, by show n + 8 < 1000000; omega, by decide, by decide, fun k k0 k1 => ?_⟩⟩⟩
  obtain ⟨d, e, hd⟩ := at_lt (xs := [PyData.tuple [.str "set", .str x, .int i], .tuple [.str "mid", .str x, .str y, .str z], .tuple [.str "go", .int q]]) k0 k1
  refine ⟨d, e, ?_⟩
  simp only [List.mem_cons, List.not_mem_nil, or_false] at hd
  rcases hd with rfl | rfl | rfl
  · exact p (.set x i) (.set (nx hx) hi) (n + 9) (by omega)
  · exact p (.mid x y z) (.midP hx hy hz) (n + 9) (by omega)
  · exact p (.go q) (.go ⟨q0, q1⟩) (n + 9) (by omega)
end
end Dr

set_option maxRecDepth 100000
set_option maxHeartbeats 3900000
namespace Dr
open PySem PySem.Spec PyProof.Rows L2 K Lf
section
variable {P : Program} {w : World} {K : PySem.W.Frag} [Tabled K] {mg : Str → Option Value} {base : Heap}
abbrev s_law_loop : Stmt := topS 35
theorem sc_law_loop : FnScope ["tape", "head", "wide", "a", "p", "x", "last", "touch", "found"] ["tape", "head", "wide"] (defScope s_law_loop) := ⟨rfl, rfl, rfl, by decide +kernel, rfl, by decide +kernel, by decide +kernel⟩
def actsD (as : List Act) : PyData := .list (as.map Act.d)
def phLoop : PhT := fun ds n P => ∃ (h : Hd) (wd : Int), ds = [h.d, .int wd] ∧ HdOk h ∧ h.rows ≠ [] ∧ h.fingers ≠ [] ∧ 1 < h.nums.length ∧ n < 600000 ∧ 1 ≤ wd ∧ wd ≤ 1000 ∧ ∀ as : List Act, as.length = 9 → (∀ hs, ∀ a ∈ as, AFit h hs wd Raw a) → P (actsD as) (n + 5)
theorem cons_of {xs : List Str} (h : xs ≠ []) : ∃ a r, xs = a :: r := by
  cases xs with
  | nil => exact absurd rfl h
  | cons a r => exact ⟨a, r, rfl⟩
theorem ok_loop (c_draw : C8.Cal P w K mg base 1 "_law_draw" (spT K phDraw) []) (c_pick : C8.Cal P w K mg base 2 "_law_pick" (spT K phPick) []) {f : Addr} {fd : FuncData} (F : Fun K "_law_loop" "_law_loop" s_law_loop f fd) : FnOk P w K mg base CX0 3 f fd ["tape", "head", "wide"] (spTO K phLoop) := by
  refine okTO F sc_law_loop (fun ds n P ⟨h, m, e, _⟩ => by rw [e]; rfl)
    (fun cdv A outer s H E hr => (fss_cons (fs_par3 (i := 3) (j := 4) (l := 5) rfl sc_law_loop.nd rfl rfl rfl (by decide) (by decide) (by decide) rfl rfl rfl (fa_cons (fe_ix rfl (fe_dget (hu_of hr) (fv (pv 1)) fe_str) fe_int) (fa_cons (fe_ix rfl (fe_dget (hu_of hr) (fv (pv 1)) fe_str) fe_int) (fa_cons (fe_ix rfl (fe_dget (hu_of hr) (fv (pv 1)) fe_str) fe_int) fa_nil))) (by rfl))
      (fss_cons (fs_set (i := 6) sc_law_loop.nd rfl (.inl rfl) (fe_ix rfl (foe (fo_cat (fe_dget (hu_of hr) (fv (pv 1)) fe_str) (fe_dget (hu_of hr) (fv (pv 1)) fe_str))) fe_int))
      (fss_cons (fs_set (i := 7) sc_law_loop.nd rfl (.inl rfl) (fe_ct c_pick hr (by decide) (by rfl) (pv 0) (fa_cons (foe (fo_lst (fa_cons (fe_tup (fa_cons fe_str (fa_cons (fv (pv 5)) (fa_cons (fv (pv 3)) (fa_cons (fv (pv 4)) fa_nil))))) (fa_cons (fe_tup (fa_cons fe_str (fa_cons (fv (pv 3)) (fa_cons (fv (pv 4)) (fa_cons (fv (pv 5)) fa_nil))))) (fa_cons (fe_tup (fa_cons fe_str (fa_cons (fv (pv 3)) (fa_cons (fv (pv 4)) (fa_cons (fv (pv 4)) fa_nil))))) fa_nil))))) fa_nil)))
      (fss_cons (fs_set (i := 8) sc_law_loop.nd rfl (.inl rfl) (foe (fo_lst (fa_cons (fe_tup (fa_cons fe_str (fa_cons (fv (pv 5)) (fa_cons fe_int (fa_cons (fe_ct c_draw hr (by decide) (by rfl) (pv 0) (fa_cons (fe_add (fv (pv 2)) fe_int) fa_nil)) fa_nil))))) (fa_cons (fe_tup (fa_cons fe_str (fa_cons (fv (pv 3)) (fa_cons (fv (pv 5)) fa_nil)))) (fa_cons (fe_tup (fa_cons fe_str (fa_cons (fv (pv 4)) (fa_cons (fe_ct c_pick hr (by decide) (by rfl) (pv 0) (fa_cons (foe (fo_lst (fa_cons fe_int (fa_cons fe_int (fa_cons fe_int (fa_cons fe_int fa_nil)))))) fa_nil)) fa_nil)))) fa_nil))))))
      (fss_cons (fs_set (i := 8) sc_law_loop.nd rfl (.inl rfl) (foe (fo_cat (fv (pv 8)) (foe (fo_lst (fa_cons (fe_tup (fa_cons fe_str (fa_cons (fv (pv 6)) (fa_cons (fv (pv 3)) fa_nil)))) (fa_cons (fe_tup (fa_cons fe_str (fa_cons (fv (pv 6)) (fa_cons (fe_ct c_pick hr (by decide) (by rfl) (pv 0) (fa_cons (foe (fo_lst (fa_cons fe_str (fa_cons fe_str (fa_cons fe_str fa_nil))))) fa_nil)) (fa_cons (fv (pv 4)) (fa_cons fe_int fa_nil)))))) (fa_cons (fv (pv 7)) fa_nil))))))))
      (fss_one (fs_retO (fo_cat (fv (pv 8)) (foe (fo_lst (fa_cons (fe_tup (fa_cons fe_str (fa_cons (fv (pv 4)) (fa_cons (fv (pv 4)) (fa_cons fe_int fa_nil))))) (fa_cons (fe_tup (fa_cons fe_str (fa_cons (fe_ct c_pick hr (by decide) (by rfl) (pv 0) (fa_cons (foe (fo_lst (fa_cons fe_int (fa_cons fe_int fa_nil)))) fa_nil)) fa_nil))) (fa_cons (fe_tup (fa_cons fe_str (fa_cons (fv (pv 5)) fa_nil))) fa_nil)))))))))))))) fun ds n P h => ?_
  obtain ⟨h, wd, rfl, ok, rne, fne, two, hn, w0, w1, p⟩ := h
  have l := ok.lens
  obtain ⟨pr, hpl⟩ := ok.first
  obtain ⟨fi, fr, hfi⟩ := cons_of fne
  obtain ⟨ro, rr, hro⟩ := cons_of rne
  have hx : ("x" : Str) ∈ h.plain := by rw [hpl]; exact List.mem_cons_self
  have hf : fi ∈ h.fingers := by rw [hfi]; exact List.mem_cons_self
  have ha : ro ∈ h.rows := by rw [hro]; exact List.mem_cons_self
  obtain ⟨la, hla, hl1⟩ : ∃ la, atI (h.fingers.map PyData.str ++ h.plain.map PyData.str) 1 = some (.str la) ∧ la ∈ h.nums := by
    have len : (1 : Int) < ((h.fingers.map PyData.str ++ h.plain.map PyData.str).length : Nat) := by
      have e : h.nums.length = h.plain.length + h.fingers.length := by unfold Hd.nums; rw [List.length_append]
      rw [List.length_append, List.length_map, List.length_map]
      omega
    obtain ⟨d, e, hd⟩ := at_lt (by decide) len
    rcases List.mem_append.mp hd with q | q
    · obtain ⟨v, hv, rfl⟩ := mem_strs q
      exact ⟨v, e, List.mem_append_right _ hv⟩
    · obtain ⟨v, hv, rfl⟩ := mem_strs q
      exact ⟨v, e, List.mem_append_left _ hv⟩
  have fn : fi ∈ h.nums := List.mem_append_right _ hf
  have xn : ("x" : Str) ∈ h.nums := List.mem_append_left _ hx
  refine ⟨_, h.rows_at, _, by rw [hro]; exact at_pos, _, h.fingers_at, _, by rw [hfi]; exact at_pos, _, h.plain_at, _, by rw [hpl]; exact at_pos, _, h.fingers_at, _, h.plain_at, by rw [List.length_map, List.length_map]; exact Nat.le_trans (m := 10) (by omega) (by decide), _, hla, ?_⟩
  refine ⟨rfl, by show 4 ≤ sizeLine; decide, by show 4 ≤ sizeLine; decide, by show 4 ≤ sizeLine; decide, by show 3 ≤ sizeLine; decide, _, rfl, by show n < 1000000; omega, by show 0 < 3; decide, by show 3 < 1000000; decide, fun t ht => ?_⟩
  refine ⟨rfl, wd + 1, rfl, by show n + 1 < 1000000; omega, by omega, by omega, fun hi hi0 hi1 => ⟨by show 4 ≤ sizeLine; decide, by show 3 ≤ sizeLine; decide, rfl, by show 4 ≤ sizeLine; decide, _, rfl, by show n + 2 < 1000000; omega, by show 0 < 4; decide, by show 4 < 1000000; decide, fun k hk => ⟨by show 3 ≤ sizeLine; decide, by show 3 ≤ sizeLine; decide, ?_⟩⟩⟩
  refine ⟨by show 3 ≤ sizeLine; decide, rfl, by show 3 ≤ sizeLine; decide, _, rfl, by show n + 3 < 1000000; omega, by show 0 < 3; decide, by show 3 < 1000000; decide, fun g hg => ⟨by show 5 ≤ sizeLine; decide, by show 3 ≤ sizeLine; decide, by show 3 + 3 ≤ sizeLine; decide, ?_⟩⟩
  refine ⟨by show 4 ≤ sizeLine; decide, rfl, by show 2 ≤ sizeLine; decide, _, rfl, by show n + 4 < 1000000; omega, by show 0 < 2; decide, by show 2 < 1000000; decide, fun j hj => ⟨by show 2 ≤ sizeLine; decide, by show 2 ≤ sizeLine; decide, by show 3 ≤ sizeLine; decide, by show 6 + 3 ≤ sizeLine; decide, ?_⟩⟩
  obtain ⟨g, hg2, rfl⟩ := mem_strs (xs := ["<=", "<=", "<"]) hg
  have hg : g ∈ signs := by
    simp only [List.mem_cons, List.not_mem_nil, or_false] at hg2
    rcases hg2 with rfl | rfl | rfl <;> decide +kernel
  obtain ⟨ta, rfl, hta⟩ : ∃ ta : Act, t = ta.d ∧ ∀ hs, AFit h hs wd Raw ta := by
    simp only [List.mem_cons, List.not_mem_nil, or_false] at ht
    rcases ht with rfl | rfl | rfl
    · exact ⟨.get "x" ro fi, rfl, fun hs => .get hx ha fn⟩
    · exact ⟨.put ro fi "x", rfl, fun hs => .put ha fn xn⟩
    · exact ⟨.put ro fi fi, rfl, fun hs => .put ha fn fn⟩
  obtain ⟨kk, rfl, hkk⟩ : ∃ kk : Int, k = .int kk ∧ (kk = 0 ∨ kk = 1) := by
    simp only [List.mem_cons, List.not_mem_nil, or_false] at hk
    rcases hk with rfl | rfl | rfl | rfl
    · exact ⟨0, rfl, .inl rfl⟩
    · exact ⟨0, rfl, .inl rfl⟩
    · exact ⟨0, rfl, .inl rfl⟩
    · exact ⟨1, rfl, .inr rfl⟩
  obtain ⟨jj, rfl, hjj⟩ : ∃ jj : Int, j = .int jj ∧ Raw jj := by
    simp only [List.mem_cons, List.not_mem_nil, or_false] at hj
    rcases hj with rfl | rfl
    · exact ⟨3, rfl, by decide, by decide⟩
    · exact ⟨4, rfl, by decide, by decide⟩
  refine p [.ask "x" 0 hi, .row ro "x", .set fi kk, .length la ro, .ite (.nm la) g (.nm fi) 8, ta, .add fi fi 1, .go jj, .tell "x"] rfl fun hs a hmem => ?_
  simp only [List.mem_cons, List.not_mem_nil, or_false] at hmem
  rcases hmem with rfl | rfl | rfl | rfl | rfl | rfl | rfl | rfl | rfl
  · exact .ask hx ⟨by omega, by omega⟩ ⟨by omega, by omega⟩ (by omega)
  · exact .row ha xn
  · exact .set fn ⟨by omega, by omega⟩
  · exact .length hl1 ha
  · exact .ite (.nm hl1) hg (.nm fn) ⟨by decide, by decide⟩
  · exact hta hs
  · exact .addF hf hf ⟨by omega, by omega⟩
  · exact .go hjj
  · exact .tell xn
end
end Dr

set_option maxRecDepth 100000
set_option maxHeartbeats 3900000
namespace Dr
open PySem PySem.Spec PyProof.Rows L2 K Lf
section
variable {P : Program} {w : World} {K : PySem.W.Frag} [Tabled K] {mg : Str → Option Value} {base : Heap}
abbrev s_law_steps : Stmt := topS 36
theorem sc_law_steps : FnScope ["tape", "head", "heads", "wide", "most", "acts", "turn", "last", "labels", "act", "found", "label"] ["tape", "head", "heads", "wide", "most"] (defScope s_law_steps) := ⟨rfl, rfl, rfl, by decide +kernel, rfl, by decide +kernel, by decide +kernel⟩
def stepsD (st : List Stp) : PyData := .tuple (st.map stpD)
def phSteps : PhT := fun ds n P => ∃ (h : Hd) (hs : List Hd) (wd most : Int), ds = [h.d, hdsD hs, .int wd, .int most] ∧ HdOk h ∧ (∀ o ∈ hs, HdOk o) ∧ hs ≠ [] ∧ hs.length ≤ 6 ∧ n < 500000 ∧ 1 ≤ wd ∧ wd ≤ 1000 ∧ 1 ≤ most ∧ most ≤ 20 ∧ ∀ st : List Stp, StOk h hs wd st → ∀ m, m ≤ n + 1000 → P (stepsD st) m
theorem acts_cat (as : List Act) (a : Act) : as.map Act.d ++ [a.d] = (as ++ [a]).map Act.d := by rw [List.map_append]; rfl
theorem ints_cat (as : List Int) (a : Int) : as.map PyData.int ++ [.int a] = (as ++ [a]).map PyData.int := by rw [List.map_append]; rfl
theorem small {n : Nat} (h : n ≤ 100) : n < sizeLine := Nat.lt_of_le_of_lt h (by decide)
theorem ok_steps (B : Bs mg) (c_draw : C8.Cal P w K mg base 1 "_law_draw" (spT K phDraw) []) (c_pick : C8.Cal P w K mg base 2 "_law_pick" (spT K phPick) []) (c_numbers : C8.Cal P w K mg base 1 "_law_numbers" (spP K phNumbers) [])
    (c_loop : C8.Cal P w K mg base 3 "_law_loop" (spTO K phLoop) []) (c_act : C8.Cal P w K mg base 6 "_law_act" (spT K phAct) []) {f : Addr} {fd : FuncData} (F : Fun K "_law_steps" "_law_steps" s_law_steps f fd) : FnOk P w K mg base CX0 7 f fd ["tape", "head", "heads", "wide", "most"] (spT K phSteps) := by
  refine okT F sc_law_steps (fun ds n P ⟨h, hs, m, k, e, _⟩ => by rw [e]; rfl)
    (fun cdv A outer s H E hr => (fss_cons (fs_setO (i := 5) sc_law_steps.nd rfl (.inl rfl) (fo_lst fa_nil))
      (fss_cut (fs_if (fw_pt (fw_and (ft_neD hr.units rfl (fe_dget (hu_of hr) (fv (pv 1)) fe_str) (foe (fo_lst fa_nil))) (fw_and (ft_neD hr.units rfl (fe_dget (hu_of hr) (fv (pv 1)) fe_str) (foe (fo_lst fa_nil))) (fw_and (ft_gt (fe_len rfl (by rfl) B.len (fa_cons (fe_c c_numbers hr (by decide) (by rfl) (fa_cons (fv (pv 1)) fa_nil)) fa_nil)) fe_int) (fw_and1 (ft_eq (fe_ct c_draw hr (by decide) (by rfl) (pv 0) (fa_cons fe_int fa_nil)) fe_int))))))
      (fss_one (fs_setO (i := 5) sc_law_steps.nd rfl (.inl rfl) (fo_ct c_loop hr (by decide) (by rfl) (pv 0) (fa_cons (fv (pv 1)) (fa_cons (fv (pv 3)) fa_nil)))))
      fss_nil)
      (fss_cons (fs_for (fi_range1 (by rfl) B.range (fa_cons (fe_add fe_int (fe_ct c_draw hr (by decide) (by rfl) (pv 0) (fa_cons (fv (pv 4)) fa_nil))) fa_nil)) (fg_name (i := 6) sc_law_steps.nd rfl (.inl rfl))
      (fss_one (fs_expr (fe_append (pv 5) (fa_cons (fe_ct c_act hr (by decide) (by rfl) (pv 0) (fa_cons (fv (pv 1)) (fa_cons (fv (pv 2)) (fa_cons (fv (pv 3)) fa_nil)))) fa_nil)))) PassesOwn.never rfl)
      (fss_cons (fs_set (i := 7) sc_law_steps.nd rfl (.inl rfl) (fe_tup (fa_cons fe_str (fa_cons (fe_ct c_pick hr (by decide) (by rfl) (pv 0) (fa_cons (fe_c c_numbers hr (by decide) (by rfl) (fa_cons (fv (pv 1)) fa_nil)) fa_nil)) fa_nil))))
      (fss_cut (fs_if (ft_eq (fe_ct c_draw hr (by decide) (by rfl) (pv 0) (fa_cons fe_int fa_nil)) fe_int)
      (fss_one (fs_set (i := 7) sc_law_steps.nd rfl (.inl rfl) (fe_tup (fa_cons fe_str (fa_cons (fe_ct c_draw hr (by decide) (by rfl) (pv 0) (fa_cons fe_int fa_nil)) fa_nil)))))
      fss_nil)
      (fss_cons (fs_expr (fe_append (pv 5) (fa_cons (fv (pv 7)) fa_nil)))
      (fss_cons (fs_setO (i := 8) sc_law_steps.nd rfl (.inl rfl) (fo_lst (fa_cons (fe_ct c_draw hr (by decide) (by rfl) (pv 0) (fa_cons fe_int fa_nil)) fa_nil)))
      (fss_cons (fs_for (fi_list rfl (foe (fo_sl rfl (fv (pv 5)) (fp_some fe_int) fp_none))) (fg_name (i := 9) sc_law_steps.nd rfl (.inl rfl))
      (fss_one (fs_expr (fe_append (pv 8) (fa_cons (fe_add (fe_add (fe_ixO (pv 8) (fe_neg fe_int)) fe_int) (fe_ct c_draw hr (by decide) (by rfl) (pv 0) (fa_cons (fe_ct c_pick hr (by decide) (by rfl) (pv 0) (fa_cons (foe (fo_lst (fa_cons fe_int (fa_cons fe_int (fa_cons fe_int fa_nil))))) fa_nil)) fa_nil))) fa_nil)))) PassesOwn.never rfl)
      (fss_cons (fs_setO (i := 10) sc_law_steps.nd rfl (.inl rfl) (fo_lst fa_nil))
      (fss_cons (fs_for (fi_zip false false rfl (by rfl) B.zip (fa_cons (fv (pv 8)) (fa_cons (fv (pv 5)) fa_nil))) (fg_tup (n := 2) rfl rfl (fgs_cons (fg_name (i := 11) sc_law_steps.nd rfl (.inl rfl)) (fgs_cons (fg_name (i := 9) sc_law_steps.nd rfl (.inl rfl)) fgs_nil)))
      (fss_cons (fs_if (ft_in rfl (fe_ix rfl (fv (pv 9)) fe_int) (fe_tup (fa_cons fe_str (fa_cons fe_str fa_nil))))
      (fss_one (fs_set (i := 9) sc_law_steps.nd rfl (.inl rfl) (fe_catT rfl (fe_slT rfl (fv (pv 9)) fp_none (fp_some (fe_neg fe_int))) (fe_tup (fa_cons (fe_ix rfl (fv (pv 8)) (fe_mod (fe_ix rfl (fv (pv 9)) (fe_neg fe_int)) (fe_len rfl (by rfl) B.len (fa_cons (fv (pv 8)) fa_nil)))) fa_nil)))))
      fss_nil)
      (fss_one (fs_expr (fe_append (pv 10) (fa_cons (fe_tup (fa_cons (fv (pv 11)) (fa_cons (fv (pv 9)) fa_nil))) fa_nil))))) PassesOwn.never rfl)
      (fss_one (fs_ret (fe_tupleOf rfl (by rfl) B.tuple (fv (pv 10)))))))))))))))) fun ds n P h => ?_
  obtain ⟨h, hs, wd, most, rfl, ok, oks, hsne, hsl, hn, w0, w1, o0, o1, p⟩ := h
  obtain ⟨l0, l1⟩ := ok.numsLen
  have ne_of : ∀ {xs : List Str}, (!PyData.eqv (strL xs) (.list [])) = true → xs ≠ [] := fun {xs} q e => by
    rw [e] at q
    exact nomatch q
  refine ⟨by show 0 ≤ sizeLine; decide, fun om => ∃ (as : List Act) (m : Nat), om = ⟨[some .tp, some (.dat h.d), some (.dat (hdsD hs)), some (.dat (.int wd)), some (.dat (.int most)), some (.own (actsD as)), none, none, none, none, none, none], m⟩ ∧ as.length ≤ 9 ∧ (∀ a ∈ as, AFit h hs wd Raw a) ∧ m ≤ n + 6, ?_, ?_⟩
  · have z : ∀ {m : Nat}, m ≤ n + 6 → ∃ (as : List Act) (k : Nat), (⟨[some .tp, some (.dat h.d), some (.dat (hdsD hs)), some (.dat (.int wd)), some (.dat (.int most)), some (.own (.list [])), none, none, none, none, none, none], m⟩ : Om) = ⟨[some .tp, some (.dat h.d), some (.dat (hdsD hs)), some (.dat (.int wd)), some (.dat (.int most)), some (.own (actsD as)), none, none, none, none, none, none], k⟩ ∧ as.length ≤ 9 ∧ (∀ a ∈ as, AFit h hs wd Raw a) ∧ k ≤ n + 6 := fun {m} hm => ⟨[], m, rfl, by decide, fun a ha => (nomatch ha), hm⟩
    refine ⟨_, h.rows_at, by show 0 ≤ sizeLine; decide, shaped_names (fun v => ok.kinds.2.2), shaped_nil, ite2 (fun q1 => ?_) fun _ => z (m := n) (by omega)⟩
    refine ⟨_, h.fingers_at, by show 0 ≤ sizeLine; decide, shaped_names (fun v => ok.kinds.2.1), shaped_nil, ite2 (fun q2 => ?_) fun _ => z (m := n) (by omega)⟩
    refine ⟨h, rfl, ok, ite2 (fun q3 => ?_) fun _ => z (m := n) (by omega)⟩
    refine ⟨rfl, 2, rfl, by show n < 1000000; omega, by decide, by decide, fun r r0 r1 => ite2 (fun _ => ?_) fun _ => z (m := n + 1) (by omega)⟩
    have two : 1 < h.nums.length := by
      have : (1 : Int) < ((h.nums.map PyData.str).length : Nat) := of_decide_eq_true q3
      rw [List.length_map] at this
      omega
    exact ⟨rfl, h, wd, rfl, ok, ne_of q1, ne_of q2, two, by show n + 1 < 600000; omega, w0, w1, fun as la fa => ⟨as, n + 1 + 5, rfl, by omega, fa hs, by omega⟩⟩
  rintro _ ⟨as, m, rfl, la, fa, hm⟩
  -- more acts
  refine ⟨rfl, most, rfl, by show m < 1000000; omega, by omega, by omega, fun r r0 r1 => ⟨⟨by omega, by omega⟩, ?_⟩⟩
  refine ⟨fun i om => ∃ (as : List Act) (u : Option Ho) (m : Nat), om = ⟨[some .tp, some (.dat h.d), some (.dat (hdsD hs)), some (.dat (.int wd)), some (.dat (.int most)), some (.own (actsD as)), u, none, none, none, none, none], m⟩ ∧ as.length ≤ 9 + i ∧ (∀ a ∈ as, AFit h hs wd Raw a) ∧ m ≤ n + 7 + 30 * i, ⟨as, none, m + 1, rfl, by omega, fa, by omega⟩, ?_, ?_⟩
  · rintro i d om hi ⟨as, u, m, rfl, la, fa, hm⟩
    have il : i < (1 + r).toNat := by
      have := (List.getElem?_eq_some_iff.mp
          hi).1
      rwa [rngD_len] at this
    refine ⟨⟨_, rfl⟩, rfl, h, hs, wd, rfl, ok, oks, hsne, hsl, by show m < 600000; omega, w0, w1, fun a ha k hk => ⟨?_, as ++ [a], some (.dat d), k, ?_, ?_, ?_, ?_⟩⟩
    · rw [List.length_map]
      exact small (by omega)
    · unfold actsD
      rw [← acts_cat]
      rfl
    · rw [List.length_append]
      show as.length + 1 ≤ _
      omega
    · intro b hb
      rcases List.mem_append.mp hb with q | q
      · exact fa b q
      · rw [List.mem_singleton.mp q]
        exact ha
    · have : k ≤ m + 30 := hk
      omega
  rw [rngD_len]
  rintro om ⟨as, u, m, rfl, la, fa, hm⟩
  have la : as.length ≤ 29 := by omega
  have hm : m ≤ n + 607 := by omega
  -- the last one
  refine ⟨rfl, h, rfl, ok, _, rfl, by show m < 1000000; omega, l0, l1, fun g hg => ⟨by show 2 ≤ sizeLine; decide, ?_⟩⟩
  obtain ⟨y, hy, rfl⟩ := mem_strs hg
  refine ⟨fun om => ∃ (a : Act) (k : Nat), om = ⟨[some .tp, some (.dat h.d), some (.dat (hdsD hs)), some (.dat (.int wd)), some (.dat (.int most)), some (.own (actsD as)), u, some (.dat a.d), none, none, none, none], k⟩ ∧ AFit h hs wd Raw a ∧ ((∃ y, a = .back y) ∨ ∃ l, a = .go l) ∧ k ≤ n + 611, ?_, ?_⟩
  · refine ⟨rfl, 6, rfl, by show m + 1 < 1000000; omega, by decide, by decide, fun r r0 r1 => ite2 (fun _ => ?_) fun _ => ⟨.back y, m + 2, rfl, .back hy, .inl ⟨y, rfl⟩, by omega⟩⟩
    exact ⟨rfl, 30, rfl, by show m + 2 < 1000000; omega, by decide, by decide, fun q q0 q1 => ⟨by show 2 ≤ sizeLine; decide, .go q, m + 3, rfl, .go ⟨q0, q1⟩, .inr ⟨q, rfl⟩, by omega⟩⟩
  rintro _ ⟨la', k, rfl, fl, hl, hk⟩
  refine ⟨⟨_, rfl⟩, by rw [List.length_map]; exact small (by omega), rfl, 12, rfl, by show k < 1000000; omega, by decide, by decide, fun l0' l00 l01 => ⟨by show 1 ≤ sizeLine; decide, ?_⟩⟩
  -- all acts: bs
  obtain ⟨bs, hbs⟩ : ∃ bs, bs = as ++ [la'] := ⟨_, rfl⟩
  have e5 : PyData.list (as.map Act.d ++ [la'.d]) = actsD bs := by rw [acts_cat, hbs]; rfl
  have fb : ∀ a ∈ bs, AFit h hs wd Raw a := fun b hb => by
    rw [hbs] at hb
    rcases List.mem_append.mp hb with q | q
    · exact fa b q
    · rw [List.mem_singleton.mp q]
      exact fl
  have lb : bs.length = as.length + 1 := by rw [hbs, List.length_append]; rfl
  have lastb : bs.getLast? = some la' := by rw [hbs]; simp
  -- their labels
  have lc : (cutL (as.map Act.d ++ [la'.d]) (some 1) none).length = as.length := by
    rw [cut_tail, List.length_tail, List.length_append, List.length_map]
    rfl
  refine ⟨fun i om => ∃ (ls : List Int) (la : Int) (u v : Option Ho) (m : Nat), om = ⟨[some .tp, some (.dat h.d), some (.dat (hdsD hs)), some (.dat (.int wd)), some (.dat (.int most)), some (.dat (actsD bs)), u, some (.dat la'.d), some (.own (.list (ls.map .int))), v, none, none], m⟩ ∧ ls.length = i + 1 ∧ ls.getLast? = some la ∧ la ≤ 11 + 300 * i ∧ (∀ l ∈ ls, 0 ≤ l ∧ l ≤ la) ∧ ls.Pairwise (· < ·) ∧ m ≤ n + 612 + 2 * i, ⟨[l0'], l0', u, none, k + 1, by rw [← e5]; rfl, rfl, rfl, by omega, fun l hl => ?_, List.pairwise_singleton _ _, by omega⟩, ?_, ?_⟩
  · rw [List.mem_singleton.mp hl]
    omega
  · rintro i d om hi ⟨ls, la2, u, v, m, rfl, ll, lt, lle, lall, lri, hm⟩
    have il : i < as.length := by
      have := (List.getElem?_eq_some_iff.mp
          hi).1
      rwa [lc] at this
    obtain ⟨ys, hys⟩ := last_split lt
    refine ⟨⟨_, rfl⟩, ⟨_, rfl⟩, .int la2, by rw [hys, List.map_append]; exact atI_last, rfl, rfl, by show 3 ≤ sizeLine; decide, _, rfl, by show m < 1000000; omega, by show 0 < 3; decide, by show 3 < 1000000; decide, fun q hq => ?_⟩
    obtain ⟨qq, rfl, q0, q1⟩ : ∃ qq : Int, q = .int qq ∧ 1 ≤ qq ∧ qq ≤ 300 := by
      simp only [List.mem_cons, List.not_mem_nil, or_false] at hq
      rcases hq with rfl | rfl | rfl
      · exact ⟨1, rfl, by decide, by decide⟩
      · exact ⟨10, rfl, by decide, by decide⟩
      · exact ⟨300, rfl, by decide, by decide⟩
    refine ⟨qq, rfl, by show m + 1 < 1000000; omega, by omega, by omega, fun r r0 r1 => ⟨by rw [List.length_map]; exact small (by omega), ls ++ [la2 + 1 + r], la2 + 1 + r, u, some (.dat d), m + 2, by rw [ints_cat]; rfl, by rw [List.length_append, ll]; rfl, by simp, by omega, fun l hl => ?_, rise_snoc lri lt (by omega), by omega⟩⟩
    rcases List.mem_append.mp hl with z | z
    · have := lall l z
      omega
    · rw [List.mem_singleton.mp z] <;> skip
      have : 0 ≤ la2 := by
        have := lall la2 (by rw [hys]; simp)
        omega
      omega
  rw [lc]
  rintro om ⟨ls, la2, u, v, m, rfl, ll, lt, lle, lall, lri, hm⟩
  have l9 : ∀ l ∈ ls, 0 ≤ l ∧ l ≤ 9999 := fun l hl => by
    have := lall l hl
    omega
  have ll'' : ls.length = bs.length := by omega
  -- put together
  refine ⟨by show 0 ≤ sizeLine; decide, ls.map .int, bs.map Act.d, rfl, rfl, ?_⟩
  have zl : (zipD (ls.map .int) (bs.map Act.d)).length = bs.length := by
    rw [zipD_len, List.length_map, List.length_map]
    omega
  refine ⟨fun i om => ∃ (st : List Stp) (u v z : Option Ho), om = ⟨[some .tp, some (.dat h.d), some (.dat (hdsD hs)), some (.dat (.int wd)), some (.dat (.int most)), some (.dat (actsD bs)), u, some (.dat la'.d), some (.dat (.list (ls.map .int))), v, some (.own (.list (st.map stpD))), z], m⟩ ∧ st.length = i ∧ i ≤ bs.length ∧ st.map (·.1) = ls.take i ∧ Tagged bs ls st, ⟨[], u, v, none, rfl, rfl, Nat.zero_le _, rfl, Tagged.nil⟩, ?_, ?_⟩
  · rintro i d om hi ⟨st, u, v, z, rfl, sl, ib, sm, sr⟩
    have il : i < bs.length := by
      have := (List.getElem?_eq_some_iff.mp
          hi).1
      rwa [zl] at this
    have hl : ls[i]? = some ls[i] := List.getElem?_eq_getElem (by omega)
    have hb : bs[i]? = some bs[i] := List.getElem?_eq_getElem il
    have e := zipD_at (xs := ls.map .int) (ys := bs.map Act.d) (i := i) (x := .int ls[i]) (y := bs[i].d) (by rw [List.getElem?_map, hl]; rfl) (by rw [List.getElem?_map, hb]; rfl)
    rw [e] at hi
    cases hi
    have hmem : bs[i] ∈ bs := List.getElem_mem il
    have fa := fb _ hmem
    -- behind the if
    have fin : ∀ l, l ∈ ls → ∃ (st' : List Stp) (u' v' z' : Option Ho), ((⟨[some .tp, some (.dat h.d), some (.dat (hdsD hs)), some (.dat (.int wd)), some (.dat (.int most)), some (.dat (actsD bs)), u, some (.dat la'.d), some (.dat (.list (ls.map .int))), some (.dat (bs[i].relabel l).d), some (.own (.list (st.map stpD ++ [stpD (ls[i], bs[i].relabel l)]))), some (.dat (.int ls[i]))], m⟩ : Om) = ⟨[some .tp, some (.dat h.d), some (.dat (hdsD hs)), some (.dat (.int wd)), some (.dat (.int most)), some (.dat (actsD bs)), u', some (.dat la'.d), some (.dat (.list (ls.map .int))), v', some (.own (.list (st'.map stpD))), z'], m⟩) ∧ st'.length = i + 1 ∧ i + 1 ≤ bs.length ∧ st'.map (·.1) = ls.take (i + 1) ∧ Tagged bs ls st' := by
      intro l hl'
      refine ⟨st ++ [(ls[i], bs[i].relabel l)], u, _, _, by rw [List.map_append]; rfl, by rw [List.length_append, sl]; rfl, il, ?_, sr.snoc (by rw [sl]; exact hb) hl'⟩
      rw [List.map_append, sm, List.take_add_one, hl]
      rfl
    have lst : (st.map stpD).length < sizeLine := by rw [List.length_map]; exact small (by omega)
    refine ⟨rfl, .str bs[i].word, at_pos, by show 2 ≤ sizeLine; decide, ⟨rfl, rfl⟩, ?_⟩
    show if (([("if" : Str), "go"].map PyData.str).any fun d => eqF d (.str bs[i].word)) = true then _ else _
    rw [word_goes fa]
    cases hg : bs[i].goes with
    | none =>
      rw [if_neg (by simp)]
      have q := fin ls[i] (List.getElem_mem _)
      rw [Act.relabel_none hg] at q
      exact ⟨⟨_, rfl⟩, by show 2 ≤ sizeLine; decide, lst, q⟩
    | some l0 =>
      rw [if_pos (show (some l0).isSome = true from rfl)]
      obtain ⟨r0, r1⟩ := fa.raw hg
      obtain ⟨e1, e2⟩ := Act.goes_d hg
      have hlen : (0 : Int) < ((ls.map PyData.int).length : Nat) := by rw [List.length_map]; omega
      obtain ⟨dl, ed, hd⟩ := at_lt (xs := ls.map PyData.int) (r := l0.fmod ((ls.map PyData.int).length : Nat)) (by rw [Int.fmod_eq_emod_of_nonneg _ (by omega)]; exact Int.emod_nonneg _ (by omega)) (by rw [Int.fmod_eq_emod_of_nonneg _ (by omega)]; exact Int.emod_lt_of_pos _ hlen)
      obtain ⟨l, hl', rfl⟩ := List.mem_map.mp hd
      have q := fin l hl'
      have hh := bs[i].head_len
      have nz : ((ls.map PyData.int).length : Nat) ≠ (0 : Int) := by omega
      rw [e1]
      refine ⟨.int l0, atI_last, nz, .int l, ed, by show 1 ≤ sizeLine; decide, ?_, ⟨_, rfl⟩, by show 2 ≤ sizeLine; decide, lst, ?_⟩
      · rw [cut_init, List.dropLast_concat]
        exact Nat.le_trans (m := 5) (by show bs[i].head.length + 1 ≤ 5; omega) (by decide)
      · have e3 := e2 l
        rw [← List.dropLast_concat (l₁ := bs[i].head) (b := PyData.int l0), ← cut_init] at e3
        have e4 : stpD (ls[i], bs[i].relabel l) = .tuple [.int ls[i], .tuple (cutL (bs[i].head ++ [.int l0]) none (some (-1)) ++ [.int l])] := by
          unfold stpD
          rw [e3]
        rw [e4, e3] at q
        exact q
  · rw [zl]
    rintro om ⟨st, u, v, z, rfl, sl, ib, sm, sr⟩
    refine p st (stOk_of sl (by rw [sm, ← sl, sl, ← ll'', List.take_length]) sr fb (by omega) l9 lri lastb hl) m (by omega)
end
end Dr

set_option maxRecDepth 100000
set_option maxHeartbeats 3900000
namespace Dr
open PySem PySem.Spec PyProof.Rows L2 K Lf
section
variable {P : Program} {w : World} {K : PySem.W.Frag} [Tabled K] {mg : Str → Option Value} {base : Heap}
abbrev s_law_head : Stmt := topS 26
theorem sc_law_head : FnScope ["tape", "k", "head", "every"] ["tape", "k"] (defScope s_law_head) := ⟨rfl, rfl, rfl, by decide +kernel, rfl, by decide +kernel, by decide +kernel⟩
theorem up_then {τ : FTs} {R : TS} {D : Ends} {σ : L2.St} {H : Hp} {c : Fc} {G : Hp} {o : Om} (M : Om → Prop) (r : Rs K c G o σ H) (h : τ { nx := M } o) (k : ∀ o' G' σ' H', M o' → Same G G' → Rs K c G' o' σ' H' → R D σ' H') : tSeq (upS K τ) R D σ H :=
  ⟨c, G, o, { nx := M }, r, h, ⟨k, fun _ _ _ _ _ _ p => p.elim, fun _ _ _ _ _ _ p => p.elim, fun _ _ _ _ p => p.elim, fun _ _ _ _ p => p.elim, fun _ _ _ _ _ _ p => p.elim⟩⟩
def phHead : PhT := fun ds n P => ∃ k : Nat, ds = [.int (k : Int)] ∧ k < 3 ∧ n < 500000 ∧ ∀ h : Hd, HdOk h → h.name = hdName k → (k = 0 → h.params = []) → ∀ m, m ≤ n + 20 → P h.d m
def kvs4 (nm : Str) (pl fi ro : List Str) : List (PyData × PyData) := [(.str "name", .str nm), (.str "plain", strL pl), (.str "fingers", strL fi), (.str "rows", strL ro)]
def kvsV (nm : Str) (pl fi ro : Addr) : List (Key × V) := [(.inr "name", .str nm), (.inr "plain", .ref pl), (.inr "fingers", .ref fi), (.inr "rows", .ref ro)]
theorem kd_str {k : Key} {x : Str} (e : kD k = .str x) : k = .inr x := by
  cases k with
  | inl i => cases e
  | inr y => cases e; rfl
theorem rpk_cons {G : Hp} {es : List (Key × V)} {x : Str} {d : PyData} {r : List (PyData × PyData)} (h : RpK K G es ((.str x, d) :: r)) : ∃ v es', es = (.inr x, v) :: es' ∧ Rp K G v d ∧ RpK K G es' r := by
  generalize hk : ((PyData.str x, d) :: r) = L at h
  cases h with
  | nil => cases hk
  | cons h1 h2 =>
    injection hk with e1 e2
    injection e1 with e3 e4
    subst e2 e4
    rw [kd_str e3.symm]
    exact ⟨_, _, rfl, h1, h2⟩
theorem rpk_nil {G : Hp} {es : List (Key × V)} (h : RpK K G es []) : es = [] := by
  generalize hk : ([] : List (PyData × PyData)) = L at h
  cases h with
  | nil => rfl
  | cons _ _ => cases hk
theorem rp_strL {G : Hp} {v : V} {xs : List Str} (h : Rp K G v (strL xs)) : ∃ a, v = .ref a ∧ G a = some (.lst (xs.map .str)) := by
  obtain ⟨a, vs, rfl, h1, h2⟩ := Rp.lstI h
  rw [strs_rp h2] at h1
  exact ⟨a, rfl, h1⟩
theorem kvs4_V {G : Hp} {nm : Str} {pl fi ro : List Str} {es : List (Key × V)} (r : RpK K G es (kvs4 nm pl fi ro)) : ∃ a b c, es = kvsV nm a b c ∧ G a = some (.lst (pl.map .str)) ∧ G b = some (.lst (fi.map .str)) ∧ G c = some (.lst (ro.map .str)) := by
  obtain ⟨v1, e1, rfl, h1, r⟩ := rpk_cons r
  obtain ⟨v2, e2, rfl, h2, r⟩ := rpk_cons r
  obtain ⟨v3, e3, rfl, h3, r⟩ := rpk_cons r
  obtain ⟨v4, e4, rfl, h4, r⟩ := rpk_cons r
  obtain rfl := rpk_nil r
  obtain ⟨a, rfl, h5⟩ := rp_strL h2
  obtain ⟨b, rfl, h6⟩ := rp_strL h3
  obtain ⟨c, rfl, h7⟩ := rp_strL h4
  rw [Rp.strI h1]
  exact ⟨a, b, c, rfl, h5, h6, h7⟩
def es5 (nm : Str) (a b c pb : Addr) : List (Key × V) := kvsV nm a b c ++ [(.inr "params", .ref pb)]
theorem put_params {nm : Str} {a b c pb : Addr} : putK (kvsV nm a b c) (.inr "params") (.ref pb) = es5 nm a b c pb := by
  have n1 : (Sum.inr "name" : Key) ≠ .inr "params" := by decide +kernel
  have n2 : (Sum.inr "plain" : Key) ≠ .inr "params" := by decide +kernel
  have n3 : (Sum.inr "fingers" : Key) ≠ .inr "params" := by decide +kernel
  have n4 : (Sum.inr "rows" : Key) ≠ .inr "params" := by decide +kernel
  unfold putK
  rw [if_neg (by unfold kvsV; simp [n1, n2, n3, n4])]
  rfl
theorem val_es5 {nm : Str} {a b c pb : Addr} : valV (es5 nm a b c pb) (.inr "plain") = some (.ref a) ∧ valV (es5 nm a b c pb) (.inr "fingers") = some (.ref b) ∧ valV (es5 nm a b c pb) (.inr "rows") = some (.ref c) ∧ valV (es5 nm a b c pb) (.inr "params") = some (.ref pb) := by
  have n1 : ¬ (Sum.inr "name" : Key) = .inr "plain" := by decide +kernel
  have n2 : ¬ (Sum.inr "name" : Key) = .inr "fingers" := by decide +kernel
  have n3 : ¬ (Sum.inr "name" : Key) = .inr "rows" := by decide +kernel
  have n4 : ¬ (Sum.inr "name" : Key) = .inr "params" := by decide +kernel
  have m2 : ¬ (Sum.inr "plain" : Key) = .inr "fingers" := by decide +kernel
  have m3 : ¬ (Sum.inr "plain" : Key) = .inr "rows" := by decide +kernel
  have m4 : ¬ (Sum.inr "plain" : Key) = .inr "params" := by decide +kernel
  have k3 : ¬ (Sum.inr "fingers" : Key) = .inr "rows" := by decide +kernel
  have k4 : ¬ (Sum.inr "fingers" : Key) = .inr "params" := by decide +kernel
  have j4 : ¬ (Sum.inr "rows" : Key) = .inr "params" := by decide +kernel
  unfold es5 kvsV
  simp only [List.cons_append, List.nil_append]
  exact ⟨by rw [valV_neg n1, valV_pos rfl], by rw [valV_neg n2, valV_neg m2, valV_pos rfl], by rw [valV_neg n3, valV_neg m3, valV_neg k3, valV_pos rfl], by rw [valV_neg n4, valV_neg m4, valV_neg k4, valV_neg j4, valV_pos rfl]⟩
theorem draw_L {H : Hp} {t : Addr} {n : Nat} {m : Int} {Q : VK} {E : XK} (tb : TabsOf K H) (ht : Tp H t n) (hn : n < 1000000) (m0 : 0 < m) (m1 : m < 1073741824) (q : ∀ (r : Int) (H' : Hp), 0 ≤ r → r < m → ButT K t H H' → TabsOf K H' → Tp H' t (n + 1) → Q (.int r) H') : spT K phDraw [.ref t, .int m] H Q E :=
  ⟨t, [.int m], fun _ => none, [.int m], n, fun d k => ∃ r : Int, d = .int r ∧ 0 ≤ r ∧ r < m ∧ k = n + 1, rfl, ⟨fun _ _ e => (nomatch e), tb, fun _ _ => rfl⟩, rfl, ht, .cons (.int _) .nil, ⟨m, rfl, hn, m0, m1, fun r r0 r1 => ⟨r, rfl, r0, r1, rfl⟩⟩, fun d k v G' H' ⟨r, e, r0, r1, ek⟩ b _ rd _ tp rv => by
    subst e ek
    rw [Rp.intI rv]
    exact q r H' r0 r1 b rd.tabs tp⟩
theorem cut_to {α : Type} (xs : List α) (k : Nat) : cutL xs none (some (k : Int)) = xs.take k := by
  unfold cutL
  rw [HT.sIx_none, List.drop_zero, Nat.sub_zero, HT.sIx_nat]
  by_cases h : k ≤ xs.length
  · rw [Nat.min_eq_left h]
  · rw [Nat.min_eq_right (by omega), List.take_length, List.take_of_length_le (by omega)]
theorem cut_toI {xs : List Str} {k : Int} (h : 0 ≤ k) : PyData.list (cutL (xs.map PyData.str) none (some k)) = strL (xs.take k.toNat) := by
  obtain ⟨n, rfl⟩ : ∃ n : Nat, k = (n : Int) := ⟨k.toNat, by omega⟩
  rw [cut_to, ← List.map_take]
  rfl
theorem perm_erase {α : Type} : ∀ {l : List α} {i : Nat} (h : i < l.length), (l[i] :: l.eraseIdx i).Perm l
  | a :: l, 0, _ => .refl _
  | a :: l, i + 1, h => by
    have h' : i < l.length := by simpa using h
    show (l[i] :: a :: l.eraseIdx i).Perm (a :: l)
    exact (List.Perm.swap _ _ _).trans (.cons a (perm_erase h'))
theorem seq_ix {r : Int} {n : Nat} (h0 : 0 ≤ r) (h1 : r < n) : seqIndex? r n = some r.toNat := by
  unfold seqIndex?
  rw [show (if r < 0 then r + (n : Int) else r) = r from if_neg (by omega)]
  show (if (decide (0 ≤ r) && decide (r < (n : Int))) = true then some r.toNat else none) = _
  rw [if_pos (by rw [decide_eq_true h0, decide_eq_true h1]; rfl)]
/-- the heap while the params are drawn -/
structure Hx (K : PySem.W.Frag) [Tabled K] (H0 G : Hp) (t hd pb : Addr) (L : List (Key × V)) (ps : List Str) (k : Nat) (H : Hp) : Prop where
  but : ButT K t H0 H
  tabs : TabsOf K H
  toff : ∀ a, tabA K a → G a = none
  sub : Same G H
  tp : Tp H t k
  hd : H hd = some (.dK L)
  pb : H pb = some (.lst (ps.map .str))
theorem Hx.new {H0 G H : Hp} {t hd pb p : Addr} {L : List (Key × V)} {ps : List Str} {k : Nat} (h : Hx K H0 G t hd pb L ps k H) (x : HO) (hp : H p = none) : Hx K H0 G t hd pb L ps k (upd H p x) :=
  ⟨fun a y e n n2 => by rw [upd_ne (ne_of_none (h.but a y e n n2) hp)]; exact h.but a y e n n2, h.tabs.same (same_new hp), h.toff, fun a y e => by rw [upd_ne (ne_of_none (h.sub a y e) hp)]; exact h.sub a y e, h.tp.same (same_new hp), by rw [upd_ne (ne_of_none h.hd hp)]; exact h.hd, by rw [upd_ne (ne_of_none h.pb hp)]; exact h.pb⟩
theorem Hx.drawn {H0 G H H' : Hp} {t hd pb : Addr} {L : List (Key × V)} {ps : List Str} {k m : Nat} (h : Hx K H0 G t hd pb L ps k H) (b : ButT K t H H') (tb : TabsOf K H') (tp : Tp H' t m) (gt : G t = none) (n1 : hd ≠ t) (n2 : pb ≠ t) : Hx K H0 G t hd pb L ps m H' :=
  ⟨fun a y e n n2 => b a y (h.but a y e n n2) n n2, tb, h.toff, fun a y e => b a y (h.sub a y e) (fun z => (by rw [z, gt] at e; cases e)) fun z => (by rw [h.toff a z] at e; cases e), tp, b _ _ h.hd n1 (h.tabs.lst h.hd fun ps z => nomatch z), b _ _ h.pb n2 (h.tabs.lst h.pb fun ps z => nomatch z)⟩
theorem ok_head (c_draw : C8.Cal P w K mg base 1 "_law_draw" (spT K phDraw) []) (c_pick : C8.Cal P w K mg base 2 "_law_pick" (spT K phPick) []) (B : Bs mg) {f : Addr} {fd : FuncData} (F : Fun K "_law_head" "_law_head" s_law_head f fd) : FnOk P w K mg base CX0 3 f fd ["tape", "k"] (spT K phHead) := by
  refine F.ok sc_law_head (fun vs H Q E ⟨t, us, G, ds, n, P, e, _, _, _, r, ⟨k, e2, _⟩, _⟩ => by rw [e, List.length_cons, r.len, e2]; rfl) fun cdv A outer s H vs Q E hr ⟨t, us, G, ds, n, P, e, sm, g, ht, r, ⟨k, e2, hk, hn, p⟩, q⟩ => ?_
  subst e e2
  refine ⟨_, pss_cons (fs_setO (K := K) (i := 2) sc_law_head.nd rfl (.inl rfl) (fo_disp (fps_cons fe_str (fe_ix rfl (foe (fo_lst (fa_cons fe_str (fa_cons fe_str (fa_cons fe_str fa_nil))))) (fv (pv 1))) (fps_cons fe_str (foe (fo_sl rfl (foe (fo_lst (fa_cons fe_str (fa_cons fe_str (fa_cons fe_str fa_nil))))) fp_none (fp_some (fe_add fe_int (fe_ct c_draw hr (by decide) (by rfl) (pv 0) (fa_cons fe_int fa_nil)))))) fps_nil)) rfl rfl (by decide) (by decide)))
    (pss_cons (fs_subD (K := K) (foe (fo_sl rfl (foe (fo_lst (fa_cons fe_str (fa_cons fe_str fa_nil)))) fp_none (fp_some (fe_ct c_draw hr (by decide) (by rfl) (pv 0) (fa_cons fe_int fa_nil))))) (pv 2) fe_str (hu_of hr))
    (pss_cons (fs_subD (K := K) (foe (fo_sl rfl (foe (fo_lst (fa_cons fe_str (fa_cons fe_str fa_nil)))) fp_none (fp_some (fe_ct c_pick hr (by decide) (by rfl) (pv 0) (fa_cons (foe (fo_lst (fa_cons fe_int (fa_cons fe_int (fa_cons fe_int (fa_cons fe_int (fa_cons fe_int fa_nil))))))) fa_nil))))) (pv 2) fe_str (hu_of hr))
    (pss_cons (ps_asg (pe_lst pa_nil) (pg_sub (pv 2) pe_str (set_dict (hu_of hr))))
    (pss_cons (ps_if (pt_cmpR op_gt (pv 1) pe_int (nomark _))
      (pss_cons (ps_set (i := 3) sc_law_head.nd rfl (.inl rfl) (pe_op op_cat (pe_op op_cat (pe_dget (hu_of hr) (pv 2) pe_str (fun _ _ => rfl)) (pe_dget (hu_of hr) (pv 2) pe_str (fun _ _ => rfl))) (pe_dget (hu_of hr) (pv 2) pe_str (fun _ _ => rfl))))
      (pss_one (ps_while PassesOwn.never (PW.pt (pw_and (pt_cmpR (op_neD hr.units) (pv 3) (pe_lst pa_nil) (nomark _)) (pw_and1 (pt_cmpR op_gt (C8.pe_c c_draw hr (by decide) (by rfl) (pa_cons (pv 0) (pa_cons pe_int pa_nil))) pe_int (nomark _)))))
        (pss_one (ps_expr (pe_bm PySem.F.plainAttrs_list PySem.F.slot_list_append PySem.F.type_list_append mt_append (pe_dget (hu_of hr) (pv 2) pe_str (fun _ _ => rfl)) (pa_cons (pe_bm PySem.F.plainAttrs_list PySem.F.slot_list_pop PySem.F.type_list_pop mt_popAt (pv 3) (pa_cons (C8.pe_c c_draw hr (by decide) (by rfl) (pa_cons (pv 0) (pa_cons (pe_callB call_len_seq (by rfl) B.len PySem.boot_len (pa_cons (pv 3) pa_nil)) pa_nil))) pa_nil)) pa_nil)))))))
      pss_nil)
    (pss_one (ps_ret (pv 2))))))), ?_⟩
  have names : atI [PyData.str "main", .str "f", .str "g"] (k : Int) = some (.str (hdName k)) := by
    match k, hk with
    | 0, _ => exact atI_nat (j := 0) rfl
    | 1, _ => exact atI_nat (j := 1) rfl
    | 2, _ => exact atI_nat (j := 2) rfl
  refine up_then (c := ⟨some t, H, G⟩) (fun om => ∃ (pl : List Str), (∃ j, 1 ≤ j ∧ j ≤ 3 ∧ pl = (["x", "y", "z"] : List Str).take j) ∧ om = ⟨[some .tp, some (.dat (.int (k : Int))), some (.own (.dict [(.str "name", .str (hdName k)), (.str "plain", strL pl)])), none], n + 1⟩) (rs_startT sm g ht r (by show 2 ≤ 4; decide)) ?_ ?_
  · refine ⟨by show 3 ≤ sizeLine; decide, _, names, by show 3 ≤ sizeLine; decide, rfl, 3, rfl, by show n < 1000000; omega, by decide, by decide, fun r r0 r1 => ⟨[.inr "name", .inr "plain"], rfl, by decide +kernel, by show 2 ≤ 15; decide, (["x", "y", "z"] : List Str).take (1 + r).toNat, ⟨(1 + r).toNat, by omega, by omega, rfl⟩, ?_⟩⟩
    rw [← cut_toI (by omega)]
    rfl
  rintro _ G1 σ1 H1 ⟨pl, ⟨j1, j10, j11, hpl⟩, rfl⟩ g1 r1
  refine up_then (c := ⟨some t, H, G⟩) (fun om => ∃ (fi : List Str), (∃ j, j ≤ 2 ∧ fi = (["p", "q"] : List Str).take j) ∧ om = ⟨[some .tp, some (.dat (.int (k : Int))), some (.own (.dict [(.str "name", .str (hdName k)), (.str "plain", strL pl), (.str "fingers", strL fi)])), none], n + 2⟩) r1 ?_ ?_
  · refine ⟨by show 2 ≤ sizeLine; decide, rfl, 3, rfl, by show n + 1 < 1000000; omega, by decide, by decide, fun r r0 r1 => ⟨⟨_, rfl⟩, .inr "fingers", _, rfl, rfl, by show 2 < sizeLine; decide, (["p", "q"] : List Str).take r.toNat, ⟨r.toNat, by omega, rfl⟩, ?_⟩⟩
    rw [← cut_toI r0]
    rfl
  rintro _ G2 σ2 H2 ⟨fi, ⟨j2, j21, hfi⟩, rfl⟩ g2 r2
  refine up_then (c := ⟨some t, H, G⟩) (fun om => ∃ (ro : List Str), (∃ j, j ≤ 2 ∧ ro = (["a", "b"] : List Str).take j) ∧ om = ⟨[some .tp, some (.dat (.int (k : Int))), some (.own (.dict (kvs4 (hdName k) pl fi ro))), none], n + 3⟩) r2 ?_ ?_
  · refine ⟨by show 2 ≤ sizeLine; decide, rfl, by show 5 ≤ sizeLine; decide, _, rfl, by show n + 2 < 1000000; omega, by show 0 < 5; decide, by show 5 < 1000000; decide, fun d hd => ?_⟩
    obtain ⟨r, rfl, r0, r1⟩ : ∃ r : Int, d = .int r ∧ 0 ≤ r ∧ r ≤ 2 := by
      simp only [List.mem_cons, List.not_mem_nil, or_false] at hd
      rcases hd with rfl | rfl | rfl | rfl | rfl
      · exact ⟨0, rfl, by decide, by decide⟩
      · exact ⟨1, rfl, by decide, by decide⟩
      · exact ⟨1, rfl, by decide, by decide⟩
      · exact ⟨1, rfl, by decide, by decide⟩
      · exact ⟨2, rfl, by decide, by decide⟩
    refine ⟨⟨_, rfl⟩, .inr "rows", _, rfl, rfl, by show 3 < sizeLine; decide, (["a", "b"] : List Str).take r.toNat, ⟨r.toNat, by omega, rfl⟩, ?_⟩
    have e := cut_toI (xs := (["a", "b"] : List Str)) r0
    unfold kvs4
    rw [← e]
    rfl
  rintro _ G3 σ3 H3 ⟨ro, ⟨j3, j31, hro⟩, rfl⟩ g3 r3
  -- where things are
  obtain ⟨v0, s0, t', ht', rfl⟩ := r3.var 0 .tp rfl
  cases ht'
  obtain ⟨v1, s1, hv1⟩ := r3.var 1 (.dat (.int (k : Int))) rfl
  have hv1 : v1 = .int (k : Int) := Rp.intI hv1
  subst hv1
  obtain ⟨v2, s2, hd, rfl, mine⟩ := r3.var 2 (.own (.dict (kvs4 (hdName k) pl fi ro))) rfl
  obtain ⟨L0, hL0, rL0⟩ := mine.at'
  obtain ⟨pa, fa, ra, rfl, hpa, hfa, hra⟩ := kvs4_V rL0
  obtain ⟨σ4, rfl⟩ : ∃ u3, σ3 = [some (.ref t), some (.int (k : Int)), some (.ref hd), u3] := by
    have l := r3.len
    match σ3, l, s0, s1, s2 with
    | [a, b, c, d], _, s0, s1, s2 =>
      cases s0
      cases s1
      cases s2
      exact ⟨d, rfl⟩
  have gt := (r3.tape t rfl).1
  have tp3 := (r3.tape t rfl).2.2
  have n1 : hd ≠ t := fun e => mine.ne r3 rfl e.symm
  have b3 : ButT K t H H3 := fun a y e n n2 => r3.old a y e (fun z => n (Option.some.inj z).symm) n2
  -- head["params"] = []
  refine ⟨by show 0 ≤ sizeLine; decide, fun pb hpb => ⟨_, rfl, hd, _, rfl, DPut.k (k := .inr "params") (by rw [upd_ne (ne_of_none hL0 hpb)]; exact hL0) (by show 4 < sizeLine; decide), ?_⟩⟩
  rw [put_params]
  have n2 : pb ≠ t := fun e => r3.ht rfl (by rw [← e]; exact hpb)
  have n3 : hd ≠ pb := ne_of_none hL0 hpb
  have gpb : G3 pb = none := by
    cases e : G3 pb with
    | none => rfl
    | some y => rw [r3.sub _ _ e] at hpb; cases hpb
  have x5 : Hx K H G3 t hd pb (es5 (hdName k) pa fa ra pb) [] (n + 3) (upd (upd H3 pb (.lst [])) hd (.dK (es5 (hdName k) pa fa ra pb))) := by
    refine ⟨fun a y e n n2 => ?_, ?_, r3.toff, fun a y e => ?_, ?_, upd_same, by rw [upd_ne (Ne.symm n3), upd_same]; rfl⟩
    · rw [upd_ne (ne_of_none e mine.new), upd_ne (ne_of_none (b3 a y e n n2) hpb)]
      exact b3 a y e n n2
    · refine (r3.tabs.same (same_new (o := .lst []) hpb)).but (a := hd) (fun x o e n => by rw [upd_ne n]; exact e) (.inr (.inl ⟨_, by rw [upd_ne n3]; exact hL0⟩))
    · rw [upd_ne (ne_of_none e mine.off), upd_ne (ne_of_none e gpb)]
      exact r3.sub a y e
    · obtain ⟨x, y, z, e, w1, w2⟩ := tp3
      exact ⟨x, y, z, by rw [upd_ne (Ne.symm n1), upd_ne (Ne.symm n2)]; exact e, w1, w2⟩
  revert x5
  generalize (upd (upd H3 pb (.lst [])) hd (.dK (es5 (hdName k) pa fa ra pb))) = H5
  intro x5
  -- the end
  have hdok : ∀ ps : List Str, ps.Nodup → (∀ x ∈ ps, x ∈ pl ++ fi ++ ro) → ps.length ≤ 7 → HdOk ⟨hdName k, pl, fi, ro, ps⟩ := fun ps nd hm l => ⟨⟨j1, j10, j11, hpl⟩, ⟨j2, j21, hfi⟩, ⟨j3, j31, hro⟩, ⟨nd, hm⟩, l⟩
  have h0pb : H pb = none := r3.h0 hpb
  have fin : ∀ (ps : List Str) (m : Nat) (H' : Hp), Hx K H G3 t hd pb (es5 (hdName k) pa fa ra pb) ps m H' → ps.Nodup → (∀ x ∈ ps, x ∈ pl ++ fi ++ ro) → ps.length ≤ 7 → (k = 0 → ps = []) → m ≤ n + 20 → Q (.ref hd) H' := by
    intro ps m H' x nd hm l k0 hmn
    have s1 : Same G3 (upd G3 pb (.lst (ps.map .str))) := same_new gpb
    have ghd : (upd G3 pb (.lst (ps.map .str))) hd = none := by rw [upd_ne n3]; exact mine.off
    have s2 : Same (upd G3 pb (.lst (ps.map .str))) (upd (upd G3 pb (.lst (ps.map .str))) hd (.dK (es5 (hdName k) pa fa ra pb))) := same_new ghd
    have s12 := s1.trans s2
    refine q _ m (.ref hd) (upd (upd G3 pb (.lst (ps.map .str))) hd (.dK (es5 (hdName k) pa fa ra pb))) H' (p ⟨hdName k, pl, fi, ro, ps⟩ (hdok ps nd hm l) rfl k0 m hmn) x.but ((g1.trans g2).trans (g3.trans s12)) ⟨fun a y e => ?_, x.tabs, fun a hta => ?_⟩ (fun a y e => ?_) x.tp (.dic upd_same ?_)
    · by_cases z : a = hd
      · subst z
        rw [upd_same] at e
        cases e
        exact x.hd
      · rw [upd_ne z] at e
        by_cases z2 : a = pb
        · subst z2
          rw [upd_same] at e
          cases e
          exact x.pb
        · rw [upd_ne z2] at e
          exact x.sub a y e
    · rw [upd_ne fun z => x.tabs.lst x.hd (fun ps z => nomatch z) (by rw [← z]; exact hta), upd_ne fun z => x.tabs.lst x.pb (fun ps z => nomatch z) (by rw [← z]; exact hta)]
      exact x.toff a hta
    · by_cases z : a = hd
      · subst z
        exact .inr mine.new
      · rw [upd_ne z] at e
        by_cases z2 : a = pb
        · subst z2
          exact .inr h0pb
        · rw [upd_ne z2] at e
          exact r3.gn a y e
    · have q0 := fun (a : Addr) (xs : List Str) (e : G3 a = some (.lst (xs.map .str))) => (Rp.lst (K := K) (s12 _ _ e) (rp_strs xs) : Rp K _ (.ref a) (strL xs))
      exact .cons (.str _) (.cons (q0 _ _ hpa) (.cons (q0 _ _ hfa) (.cons (q0 _ _ hra) (.cons (.lst (by rw [upd_ne (Ne.symm n3), upd_same]) (rp_strs ps)) .nil))))
  have L5 := val_es5 (nm := hdName k) (a := pa) (b := fa) (c := ra) (pb := pb)
  refine ⟨_, rfl, _, _, rfl, rfl, _, rfl, ite2 (fun hk0 => ?_) fun hk0 => ⟨_, rfl, fin [] (n + 3) _ x5 List.nodup_nil (fun x h => (nomatch h)) (by decide) (fun _ => rfl) (by omega)⟩⟩
  have k1 : k ≠ 0 := by
    have := of_decide_eq_true hk0
    omega
  -- every
  have dg : ∀ {H' : Hp} {L : List (Key × V)} {x : Str} {v : V}, H' hd = some (.dK L) → valV L (.inr x) = some v → DGet H' hd (.str x) (some v) := fun {H' L x v} e1 e2 => by
    have := DGet.k (k := .inr x) e1
    rw [e2] at this
    exact this
  have lpl : pl.length ≤ 3 ∧ fi.length ≤ 2 ∧ ro.length ≤ 2 := by
    rw [hpl, hfi, hro, List.length_take, List.length_take, List.length_take]
    refine ⟨?_, ?_, ?_⟩
    · show min j1 3 ≤ 3; omega
    · show min j2 2 ≤ 2; omega
    · show min j3 2 ≤ 2; omega
  have nodup : (pl ++ fi ++ ro).Nodup := by
    have all : ((["x", "y", "z"] : List Str) ++ (["p", "q"] : List Str) ++ (["a", "b"] : List Str)).Nodup := by decide +kernel
    rw [hpl, hfi, hro]
    exact all.sublist (((List.take_sublist _ _).append (List.take_sublist _ _)).append (List.take_sublist _ _))
  have inl : ∀ x ∈ pl ++ fi ++ ro, x ∈ letters := fun x hx => (hdok [] List.nodup_nil (fun x h => (nomatch h)) (by decide)).letter hx
  refine ⟨_, rfl, _, _, rfl, dg x5.hd L5.1, _, rfl, _, _, rfl, dg x5.hd L5.2.1, pa, fa, _, _, rfl, rfl, x5.sub _ _ hpa, x5.sub _ _ hfa, by rw [List.length_map, List.length_map]; exact Nat.le_trans (m := 10) (by omega) (by decide), fun p6 hp6 => ?_⟩
  have x6 := x5.new (.lst (pl.map V.str ++ fi.map V.str)) hp6
  have e6 : (upd H5 p6 (.lst (pl.map V.str ++ fi.map V.str))) p6 = some (.lst (pl.map V.str ++ fi.map V.str)) := upd_same
  revert x6 e6
  generalize (upd H5 p6 (.lst (pl.map V.str ++ fi.map V.str))) = H6
  intro x6 e6
  refine ⟨_, rfl, _, _, rfl, dg x6.hd L5.2.2.1, p6, ra, _, _, rfl, rfl, e6, x6.sub _ _ hra, by rw [List.length_append, List.length_map, List.length_map, List.length_map]; exact Nat.le_trans (m := 10) (by omega) (by decide), fun ev hev => ?_⟩
  have x7 := x6.new (.lst (pl.map V.str ++ fi.map V.str ++ ro.map V.str)) hev
  have e7 : (upd H6 ev (.lst (pl.map V.str ++ fi.map V.str ++ ro.map V.str))) ev = some (.lst ((pl ++ fi ++ ro).map V.str)) := by rw [upd_same, List.map_append, List.map_append]
  have m1 : ev ≠ t := fun e => tp_some x6.tp (by rw [← e]; exact hev)
  have m2 : ev ≠ pb := fun e => by rw [e, x6.pb] at hev; cases hev
  have m3 : ev ≠ hd := fun e => by rw [e, x6.hd] at hev; cases hev
  have gev : G3 ev = none := by
    cases e : G3 ev with
    | none => rfl
    | some y => rw [x6.sub _ _ e] at hev; cases hev
  have h0ev : H ev = none := by
    cases e : H ev with
    | none => rfl
    | some y => rw [x6.but _ _ e m1 (x6.tabs.none hev)] at hev; cases hev
  revert x7 e7
  generalize (upd H6 ev (.lst (pl.map V.str ++ fi.map V.str ++ ro.map V.str))) = H7
  intro x7 e7
  -- params are drawn
  refine ⟨fun m σ H' => ∃ ps es : List Str, m = es.length ∧ σ = [some (.ref t), some (.int (k : Int)), some (.ref hd), some (.ref ev)] ∧ Hx K H G3 t hd pb (es5 (hdName k) pa fa ra pb) ps (n + 3 + 2 * ps.length) H' ∧ H' ev = some (.lst (es.map V.str)) ∧ (ps ++ es).Nodup ∧ (∀ x ∈ ps ++ es, x ∈ pl ++ fi ++ ro) ∧ ps.length + es.length ≤ 7, ⟨_, [], pl ++ fi ++ ro, rfl, rfl, x7, e7, nodup, fun x h => h, by rw [List.length_append, List.length_append]; show 0 + _ ≤ 7; omega⟩, ?_⟩
  rintro m _ H8 ⟨ps, es, rfl, rfl, x8, e8, nd, sb, ln⟩
  refine ⟨_, rfl, by show 0 ≤ sizeLine; decide, fun q8 hq8 => ⟨strL es, .list [], .lst (SqL.of (by rw [upd_ne (ne_of_none e8 hq8)]; exact e8)) ((rp_strs (H := upd H8 q8 (.lst [])) es).dp (lay_names fun x hx => inl x (sb x (List.mem_append_right _ hx))).1), .lst (SqL.of upd_same) .nil, (shaped_names fun x hx => inl x (sb x (List.mem_append_right _ hx))).2, shaped_nil.2, _, rfl, ite2 (fun hne => ?_) fun _ => ?_⟩⟩
  · have x9 := x8.new (.lst []) hq8
    have e9 : (upd H8 q8 (.lst [])) ev = some (.lst (es.map V.str)) := by rw [upd_ne (ne_of_none e8 hq8)]; exact e8
    revert x9 e9
    generalize (upd H8 q8 (.lst [])) = H9
    intro x9 e9
    refine ⟨_, rfl, draw_L (E := C8.E0) (m := 3) x9.tabs x9.tp (by omega) (by decide) (by decide) fun r H10 r0 r1 b10 tb10 t10 => ?_⟩
    have x10 := x9.drawn b10 tb10 t10 gt n1 n2
    have e10 := b10 _ _ e9 m1 (x9.tabs.lst e9 fun ps z => nomatch z)
    refine ⟨_, _, rfl, rfl, _, rfl, ite2 (fun _ => ?_) fun _ => ?_⟩
    · refine ⟨fun σ' H' => ∃ m', m' < es.length ∧ ∃ ps es : List Str, m' = es.length ∧ σ' = [some (.ref t), some (.int (k : Int)), some (.ref hd), some (.ref ev)] ∧ Hx K H G3 t hd pb (es5 (hdName k) pa fa ra pb) ps (n + 3 + 2 * ps.length) H' ∧ H' ev = some (.lst (es.map V.str)) ∧ (ps ++ es).Nodup ∧ (∀ x ∈ ps ++ es, x ∈ pl ++ fi ++ ro) ∧ ps.length + es.length ≤ 7, fun _ _ h => h, ?_⟩
      have ne : es ≠ [] := fun z => by
        rw [z] at hne
        exact nomatch hne
      have lpos : 0 < es.length := by
        cases es with
        | nil => exact absurd rfl ne
        | cons a b => exact Nat.succ_pos _
      refine ⟨_, rfl, _, _, rfl, dg x10.hd L5.2.2.2, .inl ⟨rfl, _, SqL.of x10.pb⟩, _, rfl, .inl ⟨rfl, _, SqL.of e10⟩, _, rfl, _, rfl, ev, _, rfl, .inl (SqL.of e10), draw_L (E := C8.E0) (m := ((es.map V.str).length : Nat)) x10.tabs x10.tp (by omega) (by rw [List.length_map]; omega) (by rw [List.length_map]; omega) fun r2 H11 r20 r21 b11 tb11 t11 => ?_⟩
      have x11 := x10.drawn b11 tb11 t11 gt n1 n2
      have e11 := b11 _ _ e10 m1 (x10.tabs.lst e10 fun ps z => nomatch z)
      rw [List.length_map] at r21
      have il : r2.toNat < es.length := by omega
      have pm : ((ps ++ [es[r2.toNat]]) ++ es.eraseIdx r2.toNat).Perm (ps ++ es) := by
        rw [List.append_assoc]
        exact List.Perm.append_left ps (perm_erase il)
      refine ⟨ev, _, r2, r2.toNat, .str es[r2.toNat], rfl, rfl, e11, by omega, by omega, ?_, by rw [List.getElem?_map, List.getElem?_eq_getElem il]; rfl, pb, _, _, rfl, rfl, by rw [upd_ne (Ne.symm m2)]; exact x11.pb, by rw [List.length_map]; exact small (by omega), es.length - 1, by omega, ps ++ [es[r2.toNat]], es.eraseIdx r2.toNat, ?_, rfl, ?_, ?_, ?_, ?_, ?_⟩
      · rw [List.length_map]
        exact seq_ix r20 r21
      · rw [List.length_eraseIdx, if_pos il]
      · refine ⟨fun a y e n n2 => ?_, ?_, x11.toff, fun a y e => ?_, ?_, ?_, ?_⟩
        · rw [upd_ne (ne_of_none e h0pb), upd_ne (ne_of_none e h0ev)]
          exact x11.but a y e n n2
        · exact TabsOf.but (a := pb) (H := upd H11 ev (.lst ((es.map V.str).eraseIdx r2.toNat))) (x11.tabs.but (a := ev) (fun x o e n => by rw [upd_ne n]; exact e) (.inl ⟨_, e11⟩)) (fun x o e n => by rw [upd_ne n]; exact e) (.inl ⟨_, by rw [upd_ne (Ne.symm m2)]; exact x11.pb⟩)
        · rw [upd_ne (ne_of_none e gpb), upd_ne (ne_of_none e gev)]
          exact x11.sub a y e
        · obtain ⟨x, y, z, e, w1, w2⟩ := x11.tp
          exact ⟨x, y, z, by rw [upd_ne (Ne.symm n2), upd_ne (Ne.symm m1)]; exact e, w1, by rw [List.length_append]; show z ≤ ((n + 3 + 2 * (ps.length + 1) : Nat) : Int); omega⟩
        · rw [upd_ne n3, upd_ne (Ne.symm m3)]
          exact x11.hd
        · rw [upd_same, List.map_append]
          rfl
      · rw [upd_ne m2, upd_same, erase_mapS]
      · exact pm.symm.nodup nd
      · exact fun x hx => sb x (pm.mem_iff.mp hx)
      · rw [List.length_append, List.length_eraseIdx, if_pos il]
        show ps.length + 1 + (es.length - 1) ≤ 7
        omega
    · exact ⟨_, rfl, fin ps _ _ x10 (List.nodup_append.mp nd).1 (fun x hx => sb x (List.mem_append_left _ hx)) (by omega) (fun z => absurd z k1) (by omega)⟩
  · exact ⟨_, rfl, fin ps _ _ (x8.new (.lst []) hq8) (List.nodup_append.mp nd).1 (fun x hx => sb x (List.mem_append_left _ hx)) (by omega) (fun z => absurd z k1) (by omega)⟩
end
end Dr

set_option maxRecDepth 100000
set_option maxHeartbeats 3900000
namespace Dr
open PySem PySem.Spec PyProof.Rows L2 K Lf
section
variable {P : Program} {w : World} {K : PySem.W.Frag} [Tabled K] {mg : Str → Option Value} {base : Heap}
abbrev s_law_program : Stmt := topS 37
theorem sc_law_program : FnScope ["tape", "wides", "most", "wide", "heads", "defs", "head", "fingers", "rows", "some", "k"] ["tape", "wides", "most"] (defScope s_law_program) := ⟨rfl, rfl, rfl, by decide +kernel, rfl, by decide +kernel, by decide +kernel⟩
def phProgram : PhT := fun ds n P => ∃ (ws : List Int) (most : Int), ds = [.list (ws.map .int), .int most] ∧ ws ≠ [] ∧ ws.length ≤ 100 ∧ (∀ w ∈ ws, 1 ≤ w ∧ w ≤ 31) ∧ 1 ≤ most ∧ most ≤ 20 ∧ n < 400000 ∧ ∀ p : Pg, PgFit p → p.wide ∈ ws → ∀ m, m ≤ n + 4000 → P p.d m
theorem mem_ints {d : PyData} {xs : List Int} (h : d ∈ xs.map PyData.int) : ∃ x, x ∈ xs ∧ d = .int x := by
  obtain ⟨x, hx, rfl⟩ := List.mem_map.mp h
  exact ⟨x, hx, rfl⟩
theorem strT_of (xs : List Str) : (match strL xs with | .list xs => PyData.tuple xs | _ => .none) = strT xs := rfl
theorem ok_program (B : Bs mg) (c_draw : C8.Cal P w K mg base 1 "_law_draw" (spT K phDraw) []) (c_pick : C8.Cal P w K mg base 2 "_law_pick" (spT K phPick) []) (c_head : C8.Cal P w K mg base 3 "_law_head" (spT K phHead) []) (c_steps : C8.Cal P w K mg base 7 "_law_steps" (spT K phSteps) []) {f : Addr} {fd : FuncData} (F : Fun K "_law_program" "_law_program" s_law_program f fd) : FnOk P w K mg base CX0 8 f fd ["tape", "wides", "most"] (spT K phProgram) := by
  refine okT F sc_law_program (fun ds n P ⟨ws, most, e, _⟩ => by rw [e]; rfl)
    (fun cdv A outer s H E hr => (fss_cons (fs_set (i := 3) sc_law_program.nd rfl (.inl rfl) (fe_ct c_pick hr (by decide) (by rfl) (pv 0) (fa_cons (fv (pv 1)) fa_nil)))
      (fss_cons (fs_setLc (i := 4) (own := [("k", 10)]) (by rfl) sc_law_program.nd rfl rfl (sw_true rfl rfl rfl (by decide +kernel)) (fi_range1 (by rfl) B.range (fa_cons (fe_add fe_int (fe_ct c_pick hr (by decide) (by rfl) (pv 0) (fa_cons (foe (fo_lst (fa_cons fe_int (fa_cons fe_int (fa_cons fe_int (fa_cons fe_int (fa_cons fe_int fa_nil))))))) fa_nil))) fa_nil)) (blkOk_by (own := [("k", 10)]) (N := ["tape", "wides", "most", "wide", "heads", "defs", "head", "fingers", "rows", "some", "k"]) (sc := defScope s_law_program) (by decide +kernel)) (fun _ _ _ _ _ => (fg_name (i := 10) sc_law_program.nd rfl (.inl rfl) (hf := .inr rfl))) (fun _ _ _ _ _ => fts_nil) (fun _ _ _ _ _ => (fe_ct c_head hr (by decide) (by rfl) (pv 0) (fa_cons (fv (pv 10)) fa_nil))) (by decide))
      (fss_cons (fs_setO (i := 5) sc_law_program.nd rfl (.inl rfl) (fo_lst fa_nil))
      (fss_cons (fs_for (fi_list rfl (fv (pv 4))) (fg_name (i := 6) sc_law_program.nd rfl (.inl rfl))
      (fss_cons (fs_par (i := 7) (j := 8) rfl sc_law_program.nd rfl rfl (by decide) rfl rfl (fa_cons (fe_tupleOf rfl (by rfl) B.tuple (fe_dget (hu_of hr) (fv (pv 6)) fe_str)) (fa_cons (fe_tupleOf rfl (by rfl) B.tuple (fe_dget (hu_of hr) (fv (pv 6)) fe_str)) fa_nil)) (by rfl))
      (fss_cons (fs_set (i := 9) sc_law_program.nd rfl (.inl rfl) (fe_ct c_steps hr (by decide) (by rfl) (pv 0) (fa_cons (fv (pv 6)) (fa_cons (fv (pv 4)) (fa_cons (fv (pv 3)) (fa_cons (fv (pv 2)) fa_nil))))))
      (fss_one (fs_expr (fe_append (pv 5) (fa_cons (fe_tup (fa_cons (fe_dget (hu_of hr) (fv (pv 6)) fe_str) (fa_cons (fe_tupleOf rfl (by rfl) B.tuple (fe_dget (hu_of hr) (fv (pv 6)) fe_str)) (fa_cons (fv (pv 7)) (fa_cons (fv (pv 8)) (fa_cons (fv (pv 9)) fa_nil)))))) fa_nil)))))) PassesOwn.never rfl)
      (fss_cons (fs_if (ft_eq (fe_ct c_draw hr (by decide) (by rfl) (pv 0) (fa_cons fe_int fa_nil)) fe_int)
      (fss_one (fs_expr (fe_reverse (pv 5))))
      fss_nil)
      (fss_one (fs_ret (fe_tup (fa_cons (fv (pv 3)) (fa_cons (fe_tupleOf rfl (by rfl) B.tuple (fv (pv 5))) fa_nil))))))))))) fun ds n P h => ?_
  obtain ⟨ws, most, rfl, wne, wl, wr, o0, o1, hn, p⟩ := h
  refine ⟨rfl, _, rfl, by show n < 1000000; omega, by
      cases ws with
      | nil => exact absurd rfl wne
      | cons a b => rw [List.length_map]; exact Nat.succ_pos _, by rw [List.length_map]; omega, fun d hd => ?_⟩
  obtain ⟨wd, hwd, rfl⟩ := mem_ints hd
  obtain ⟨w0, w1⟩ := wr wd hwd
  -- heads
  refine ⟨rfl, by show 5 ≤ sizeLine; decide, _, rfl, by show n + 1 < 1000000; omega, by show 0 < 5; decide, by show 5 < 1000000; decide, fun d hd => ?_⟩
  obtain ⟨r, rfl, r0, r1⟩ : ∃ r : Int, d = .int r ∧ 0 ≤ r ∧ r ≤ 2 := by
    simp only [List.mem_cons, List.not_mem_nil, or_false] at hd
    rcases hd with rfl | rfl | rfl | rfl | rfl
    · exact ⟨0, rfl, by decide, by decide⟩
    · exact ⟨0, rfl, by decide, by decide⟩
    · exact ⟨1, rfl, by decide, by decide⟩
    · exact ⟨1, rfl, by decide, by decide⟩
    · exact ⟨2, rfl, by decide, by decide⟩
  have rl : (rngD 0 (1 + r).toNat).length = (1 + r).toNat := rngD_len
  refine ⟨⟨by omega, by omega⟩, by rw [rl]; exact small (by omega), fun i acc om => ∃ (hs : List Hd) (m : Nat), om = ⟨[some .tp, some (.dat (.list (ws.map .int))), some (.dat (.int most)), some (.dat (.int wd)), none, none, none, none, none, none, none], m⟩ ∧ acc = hs.map Hd.d ∧ HdsOk hs ∧ hs.length = i ∧ i ≤ 3 ∧ m ≤ n + 2 + 20 * i, ⟨[], n + 2, rfl, rfl, ⟨fun h hh => (nomatch hh), fun i h e => by simp at e, fun h e => by simp at e, by decide⟩, rfl, by decide, by omega⟩, ?_, ?_⟩
  · rintro i acc d om hi ⟨hs, m, rfl, rfl, ho, hl, i3, hm⟩
    have il : i < (1 + r).toNat := by
      have := (List.getElem?_eq_some_iff.mp
          hi).1
      rwa [rngD_len] at this
    rw [rngD_at il] at hi
    cases hi
    refine ⟨rfl, i, by show [PyData.int (0 + (i : Nat))] = _; rw [Int.zero_add], by omega, by show m < 500000; omega, fun h hok hname hmain k hk => ⟨hs ++ [h], k, rfl, by rw [List.map_append]; rfl, ⟨fun g hg => ?_, fun j g e => ?_, fun g e => ?_, by rw [List.length_append, hl]; show i + 1 ≤ 3; omega⟩, by rw [List.length_append, hl]; rfl, by omega, by have : k ≤ m + 20 := hk; omega⟩⟩
    · rcases List.mem_append.mp hg with q | q
      · exact ho.ok g q
      · rw [List.mem_singleton.mp q]
        exact hok
    · by_cases hj : j < hs.length
      · rw [List.getElem?_append_left hj] at e
        exact ho.name j g e
      · rw [List.getElem?_append_right (by omega)] at e
        have : j = i := by
          have := (List.getElem?_eq_some_iff.mp e).1
          simp at this
          omega
        subst this
        rw [hl, Nat.sub_self] at e
        cases e
        exact hname
    · cases hs with
      | nil =>
        simp at e
        subst e
        exact hmain hl.symm
      | cons a b => exact ho.main g e
  rintro acc om ⟨hs, m, rfl, rfl, ho, hl, i3, hm⟩
  rw [rl] at hl hm
  have hsne : hs ≠ [] := fun z => by rw [z] at hl; simp at hl; omega
  have hm : m ≤ n + 62 := by omega
  have hlen := ho.few
  -- defs
  refine ⟨by show 0 ≤ sizeLine; decide, fun i om => ∃ (ds : List Df) (u1 u2 u3 u4 : Option Ho) (m : Nat), om = ⟨[some .tp, some (.dat (.list (ws.map .int))), some (.dat (.int most)), some (.dat (.int wd)), some (.dat (hdsD hs)), some (.own (.list (ds.map Df.d))), u1, u2, u3, u4, none], m⟩ ∧ ds.length = i ∧ (∀ (j : Nat) (h : Hd) (d : Df), hs[j]? = some h → ds[j]? = some d → DfOf h hs wd d) ∧ m ≤ n + 62 + 1000 * i, ⟨[], none, none, none, none, m, rfl, rfl, fun j h d _ e => by simp at e, by omega⟩, ?_, ?_⟩
  · rintro i d om hi ⟨ds, u1, u2, u3, u4, m, rfl, dl, df, hm⟩
    rw [List.getElem?_map] at hi
    obtain ⟨h, hh, rfl⟩ : ∃ h, hs[i]? = some h ∧ d = h.d := by
      cases e : hs[i]? with
      | none => rw [e] at hi; cases hi
      | some q => rw [e] at hi; cases hi; exact ⟨q, rfl, rfl⟩
    have hmem := List.mem_of_getElem? hh
    have il := (List.getElem?_eq_some_iff.mp hh).1
    have hok := ho.ok h hmem
    refine ⟨_, h.fingers_at, _, h.rows_at, ?_⟩
    refine ⟨rfl, h, hs, wd, most, rfl, hok, ho.ok, hsne, by omega, by show m < 500000; omega, w0, by omega, o0, o1, fun st so k hk => ?_⟩
    refine ⟨⟨_, rfl⟩, _, h.name_at, _, h.params_at, by show 5 ≤ sizeLine; decide, by rw [List.length_map]; exact small (by omega), ds ++ [⟨h.name, h.params, h.fingers, h.rows, st⟩], some (.dat h.d), some (.dat (strT h.fingers)), some (.dat (strT h.rows)), some (.dat (stepsD st)), k, by rw [List.map_append]; rfl, by rw [List.length_append, dl]; rfl, fun j g e h1 h2 => ?_, by have : k ≤ m + 1000 := hk; omega⟩
    by_cases hj : j < ds.length
    · rw [List.getElem?_append_left hj] at h2
      exact df j g e h1 h2
    · rw [List.getElem?_append_right (by omega)] at h2
      have : j = i := by
        have := (List.getElem?_eq_some_iff.mp h2).1
        simp at this
        omega
      subst this
      rw [dl, Nat.sub_self] at h2
      cases h2
      rw [hh] at h1
      cases h1
      exact ⟨rfl, rfl, rfl, rfl, so⟩
  rw [List.length_map]
  rintro om ⟨ds, u1, u2, u3, u4, m, rfl, dl, df, hm⟩
  refine ⟨rfl, 2, rfl, by show m < 1000000; omega, by decide, by decide, fun q q0 q1 => ite2 (fun _ => ?_) fun _ => ?_⟩
  · refine ⟨by show 2 ≤ sizeLine; decide, ?_⟩
    have := p ⟨wd, ds.reverse⟩ ⟨w0, w1, hs, ds, ho, hsne, dl, df, .inr rfl⟩ hwd (m + 1) (by omega)
    unfold Pg.d at this
    rw [List.map_reverse] at this
    exact this
  · exact ⟨by show 2 ≤ sizeLine; decide, p ⟨wd, ds⟩ ⟨w0, w1, hs, ds, ho, hsne, dl, df, .inl rfl⟩ hwd (m + 1) (by omega)⟩
end
end Dr

set_option maxRecDepth 100000
set_option maxHeartbeats 3900000
namespace Dr
open PySem PySem.Spec PyProof.Rows L2 K Lf
section
variable {P : Program} {w : World} {K : PySem.W.Frag} [Tabled K] {mg : Str → Option Value} {base : Heap}
abbrev s_def_at : Stmt := topS 8
theorem sc_def_at : FnScope ["program", "name", "names", "definition"] ["program", "name"] (defScope s_def_at) := ⟨rfl, rfl, rfl, by decide +kernel, rfl, by decide +kernel, by decide +kernel⟩
abbrev s_number_of : Stmt := topS 10
theorem sc_number_of : FnScope ["steps", "label", "step"] ["steps", "label"] (defScope s_number_of) := ⟨rfl, rfl, rfl, by decide +kernel, rfl, by decide +kernel, by decide +kernel⟩
abbrev s_act_at : Stmt := topS 7
theorem sc_act_at : FnScope ["program", "place", "steps"] ["program", "place"] (defScope s_act_at) := ⟨rfl, rfl, rfl, by decide +kernel, rfl, by decide +kernel, by decide +kernel⟩
def phDefAt : Ph := fun ds P => ∃ (p : Pg) (d : Df), ds = [p.d, .str d.name] ∧ Listed p ∧ d ∈ p.defs ∧ P d.d
theorem ok_def_at (B : Bs mg) {f : Addr} {fd : FuncData} (F : Fun K "def_at" "def_at" s_def_at f fd) : FnOk P w K mg base CX0 1 f fd ["program", "name"] (spP K phDefAt) := by
  refine okP F sc_def_at (fun ds P ⟨p, d, e, _⟩ => by rw [e]; rfl)
    (fun cdv A outer s H E hr => (fss_cons (fs_setLc (i := 2) (own := [("definition", 3)]) (by rfl) sc_def_at.nd rfl rfl (sw_true rfl rfl rfl (by decide +kernel)) (fi_tup rfl (fe_ix rfl (fv (pv 0)) fe_int)) (blkOk_by (own := [("definition", 3)]) (N := ["program", "name", "names", "definition"]) (sc := defScope s_def_at) (by decide +kernel)) (fun _ _ _ _ _ => (fg_name (i := 3) sc_def_at.nd rfl (.inl rfl) (hf := .inr rfl))) (fun _ _ _ _ _ => fts_nil) (fun _ _ _ _ _ => (fe_ix rfl (fv (pv 3)) fe_int)) (by decide))
      (fss_one (fs_ret (fe_ix rfl (fe_ix rfl (fv (pv 0)) fe_int) (fe_index rfl (fv (pv 2)) (fa_cons (fv (pv 1)) fa_nil))))))) fun ds P h => ?_
  obtain ⟨p, d, rfl, ok, hd, q⟩ := h
  obtain ⟨k, hk⟩ := List.getElem?_of_mem hd
  have nk : (p.defs.map (·.name))[k]? = some d.name := by rw [List.getElem?_map, hk]; rfl
  refine ⟨_, rfl, by rw [List.length_map]; exact small (Nat.le_trans ok.few (by decide)), fun i acc om => acc = ((p.defs.take i).map (·.name)).map .str ∧ om = ⟨[some (.dat p.d), some (.dat (.str d.name)), none, none], 0⟩, ⟨rfl, rfl⟩, ?_, ?_⟩
  · rintro i acc e om hi ⟨rfl, rfl⟩
    obtain ⟨d', hd', rfl⟩ := mapAt hi
    refine ⟨_, rfl, ?_, rfl⟩
    rw [take_next hd', List.map_append, List.map_append]
    rfl
  · rintro acc om ⟨rfl, rfl⟩
    rw [List.length_map, List.take_length]
    obtain ⟨f1, f2, f3, f4, f5⟩ := at_str ok.names nk
    exact ⟨_, rfl, ⟨_, rfl⟩, f1, f2, k, _, f3, f4, f5, _, atI_nat (by rw [List.getElem?_map, hk]; rfl), q⟩
def phNum : Ph := fun ds P => ∃ (st : List Stp) (k : Nat) (s : Stp), ds = [.tuple (st.map stpD), .int s.1] ∧ (st.map (·.1)).Nodup ∧ st.length ≤ 1000 ∧ st[k]? = some s ∧ P (.int (k : Nat))
theorem ok_number_of (B : Bs mg) {f : Addr} {fd : FuncData} (F : Fun K "_number_of" "_number_of" s_number_of f fd) : FnOk P w K mg base CX0 1 f fd ["steps", "label"] (spP K phNum) := by
  refine okP F sc_number_of (fun ds P ⟨p, k, d, e, _⟩ => by rw [e]; rfl)
    (fun cdv A outer s H E hr => (fss_one (fs_ret (fe_index rfl (foe (fo_lc (own := [("step", 2)]) (by rfl) sc_number_of.nd (fi_tup rfl (fv (pv 0))) (blkOk_by (own := [("step", 2)]) (N := ["steps", "label", "step"]) (sc := defScope s_number_of) (by decide +kernel)) (fun _ _ _ _ _ => (fg_name (i := 2) sc_number_of.nd rfl (.inl rfl) (hf := .inr rfl))) (fun _ _ _ _ _ => fts_nil) (fun _ _ _ _ _ => (fe_ix rfl (fv (pv 2)) fe_int)) (by decide))) (fa_cons (fv (pv 1)) fa_nil))))) fun ds P h => ?_
  obtain ⟨st, k, s, rfl, nd, few, hk, q⟩ := h
  have nk : (st.map (·.1))[k]? = some s.1 := by rw [List.getElem?_map, hk]; rfl
  refine ⟨by rw [List.length_map]; exact Nat.lt_of_le_of_lt few (by decide), fun i acc om => acc = ((st.take i).map (·.1)).map .int ∧ om = ⟨[some (.dat (.tuple (st.map stpD))), some (.dat (.int s.1)), none], 0⟩, ⟨rfl, rfl⟩, ?_, ?_⟩
  · rintro i acc e om hi ⟨rfl, rfl⟩
    obtain ⟨d', hd', rfl⟩ := mapAt hi
    refine ⟨_, rfl, ?_, rfl⟩
    rw [take_next hd', List.map_append, List.map_append]
    rfl
  · rintro acc om ⟨rfl, rfl⟩
    rw [List.length_map, List.take_length]
    obtain ⟨f1, f2, f3, f4, f5⟩ := at_int nd nk
    exact ⟨⟨_, rfl⟩, f1, f2, k, _, f3, f4, f5, q⟩
def phActAt : Ph := fun ds P => ∃ (p : Pg) (d : Df) (s : Stp), ds = [p.d, plD (d.name, s.1)] ∧ Listed p ∧ d ∈ p.defs ∧ s ∈ d.steps ∧ P s.2.d
theorem ok_act_at (B : Bs mg) (c_def_at : C8.Cal P w K mg base 1 "def_at" (spP K phDefAt) []) (c_number_of : C8.Cal P w K mg base 1 "_number_of" (spP K phNum) []) {f : Addr} {fd : FuncData} (F : Fun K "act_at" "act_at" s_act_at f fd) : FnOk P w K mg base CX0 2 f fd ["program", "place"] (spP K phActAt) := by
  refine okP F sc_act_at (fun ds P ⟨p, d, s, e, _⟩ => by rw [e]; rfl)
    (fun cdv A outer s H E hr => (fss_cons (fs_set (i := 2) sc_act_at.nd rfl (.inl rfl) (fe_ix rfl (fe_c c_def_at hr (by decide) (by rfl) (fa_cons (fv (pv 0)) (fa_cons (fe_ix rfl (fv (pv 1)) fe_int) fa_nil))) fe_int))
      (fss_one (fs_ret (fe_ix rfl (fe_ix rfl (fv (pv 2)) (fe_c c_number_of hr (by decide) (by rfl) (fa_cons (fv (pv 2)) (fa_cons (fe_ix rfl (fv (pv 1)) fe_int) fa_nil)))) fe_int))))) fun ds P h => ?_
  obtain ⟨p, d, s, rfl, ok, hd, hs, q⟩ := h
  obtain ⟨k, hk⟩ := List.getElem?_of_mem hs
  exact ⟨_, rfl, p, d, rfl, ok, hd, _, rfl, _, rfl, d.steps, k, s, rfl, ok.labs d hd, ok.short d hd, hk, stpD s, atI_nat (by rw [List.getElem?_map, hk]; rfl), _, rfl, q⟩
def phPlaces : Ph := fun ds P => ∃ p : Pg, ds = [p.d] ∧ Listed p ∧ ∀ qs, SrtO.Srtd Pr.lt qs → qs.Perm p.places → P (.list (qs.map plD))
def Pg.plAt (p : Pg) (i : Nat) : List Pr.Pl := ((p.defs.take i).flatMap Df.acts).map (·.1)
theorem plAt_len {p : Pg} (ok : Listed p) (i : Nat) : (p.plAt i).length ≤ 1000 * 100 := by
  have key : ∀ ds : List Df, (∀ d ∈ ds, d.steps.length ≤ 1000) → ((ds.flatMap Df.acts).map (·.1)).length ≤ 1000 * ds.length := by
    intro ds
    induction ds with
    | nil => intro _; exact Nat.le_refl _
    | cons d r ih =>
      intro h
      have h1 := h d List.mem_cons_self
      have h2 := ih fun x m => h x (List.mem_cons_of_mem _ m)
      rw [List.length_map] at h2
      rw [List.flatMap_cons, List.length_map, List.length_append, List.length_cons]
      have : d.acts.length = d.steps.length := List.length_map _
      omega
  have h1 := key (p.defs.take i) fun d m => ok.short d (List.mem_of_mem_take m)
  have h2 : (p.defs.take i).length ≤ 100 := Nat.le_trans (List.length_take_le' _ _) ok.few
  unfold Pg.plAt
  omega
theorem plAt_next {p : Pg} {i : Nat} {d : Df} (h : p.defs[i]? = some d) : p.plAt (i + 1) = p.plAt i ++ d.steps.map fun s => (d.name, s.1) := by
  unfold Pg.plAt
  rw [take_next h, List.flatMap_append, List.map_append]
  congr 1
  rw [List.flatMap_cons, List.flatMap_nil, List.append_nil]
  unfold Df.acts
  rw [List.map_map]
  rfl
end
end Dr

set_option maxRecDepth 100000
set_option maxHeartbeats 3900000
namespace Lf
open PySem PySem.Spec PyProof.Rows L2 K
/-! # sorted(xs, key=lambda x: x[0]) -/
theorem seq_ix0 {n : Nat} (h1 : 0 < n) : seqIndex? 0 n = some 0 := by
  unfold seqIndex?
  show (if (decide ((0 : Int) ≤ 0) && decide ((0 : Int) < (n : Int))) = true then some (0 : Int).toNat else none) = _
  rw [if_pos (by rw [decide_eq_true (Int.le_refl _), decide_eq_true (by omega)]; rfl)]
  rfl
/-- the lambda's names -/
structure LamX0 (x : Str) (params : Arguments) (scope : Scope) : Prop where
  names : scope.names = [(x, .local)]
  kind : scope.kind = .function
  co : scope.isCoroutine =
      false
  gen : scope.isGenerator =
      false
  bind : ∀ (q : Str) (body : Expr) (pm cdv ctv v : Value), bindArgs (PySem.W.kla_fn "<lambda>" q params body scope [] pm cdv ctv) ⟨[v], []⟩ = pure [(x, v)]
  dbg : (x == ("__debug__" : Str)) = false
section
variable {P : Program} {w : World} {A : Around} {s : Shared} {x : Str} {params : Arguments} {scope : Scope} {f c' a : Addr} {q : Str} {pm ctv w0 : Value} {kk : Nat} {p1 p2 p3 : Pos} {items : Array Value} {Q E : Value → Shared → Prop}
theorem lam_ix0 (L : LamX0 x params scope) (hroom : A.depth < recursionLimit) (hf : s.heap.get? f = some (PySem.W.kla_obj "<lambda>" q params (.Subscript (.Name x p1) (.Constant (.int 0) kk p2) p3) scope [] pm c' ctv))
    (hcd : s.heap.CodeRec (.ref c') q) (lim : s.heap.NoLimit) (ht : IsTup s.heap a items) (h0 : items[0]? = some w0) (hq : ∀ h' tk, (∀ b o, s.heap.get? b = some o → h'.get? b = some o) → Q w0 { s with heap := h', toks := tk }) :
    wpAny (model P w) A (call (.ref f) [.ref a]) Q E s := by
  have rc : codeAny (model P w) A (.call (.ref f) ⟨[.ref a], []⟩) (fun r s' => match r with | .ok (.ret v) => Q v s' | .ok _ => False | .error e => E e s') s := by
    refine PySem.W.kla_callFunE hroom hf rfl L.co L.gen rfl hcd ?_
    rw [L.bind]
    refine wpAny_pure (wpAny_newFunctionEnv (fun y hy => ?_) (fun y hy => ?_) (fun h₁ hns hsb => ⟨lim.fresh _ hsb, ?_⟩) L.kind)
    · have hy : y ∈ scope.names := hy
      rw [L.names] at hy
      rw [List.mem_singleton.mp hy]
      exact fun z => nomatch z
    · rw [List.mem_singleton.mp hy]
      show scope.names.lookup x = _
      rw [L.names, List.lookup_cons, beq_self_eq_true]
    · have kp : ∀ b o, s.heap.get? b = some o → h₁.get? b = some o := fun b o e => hsb.extBut b o (Nat.ne_of_lt (Heap.lt_size e)) (Heap.get?_push_of_some _ e)
      refine PySem.W.kla_codeExpr (Subscript_ (wpAny_Name (wpAny_loadName_local (m := fun y => ([(x, Value.ref a)] : List (Str × Value)).reverse.lookup y) (v := .ref a) L.kind ?_ hns ?_ ?_) L.dbg))
      · show scope.names.lookup x = some .local
        rw [L.names, List.lookup_cons, beq_self_eq_true]
      · show ([(x, Value.ref a)] : List (Str × Value)).lookup x = _
        rw [List.lookup_cons, beq_self_eq_true]
      · refine wpAny_Constant_int ?_
        rcases ht with ⟨o, ho, hc, n, hd⟩
        have ht' : IsTup h₁ a items := ⟨o, kp _ _ ho, hc, n, hd⟩
        have lt : 0 < items.size := by
          rcases Nat.eq_zero_or_pos items.size with z | z
          · rw [Array.getElem?_eq_none (by omega)] at h0
            cases h0
          · exact z
        exact subscriptTail_builtinR (x := w0) ht'.typeIs slot_tuple_getitem.lookup (getItem_tuple (j := 0) (Q := fun r s' => r = w0 ∧ _) ht' (by decide) (by decide) (seq_ix0 lt) h0 ⟨rfl, hq _ _ kp⟩) rfl
  exact wpAny_call rc
end
end Lf
namespace Lf
open PySem PySem.Spec PyProof.Rows L2 K
/-- data that is found without a list or dict: a pair of a text and a number -/
theorem pl_reads {X : Cx} {pins : List (Addr × Obj)} {σ : L2.St} {H G : Hp} {s : Shared} (I : Inv X pins σ H s) (g : Same G H) {v : V} {p : Pr.Pl} {u : Value} (h : Rp X.K G v (plD p)) (r : RelV v u) {h' : Heap} (k : ∀ b o, s.heap.get? b = some o → h'.get? b = some o) : Reads h' u (plD p) [] := by
  obtain ⟨a, rfl, k1⟩ := plD_at h
  obtain ⟨its2, r2, ⟨o, ho, hc, n, hd⟩, _⟩ := I.tuple (sqT_same g k1)
  obtain ⟨u1, u2, rfl, ⟨t1, rfl⟩, ⟨t2, rfl⟩⟩ := vals2 r2
  obtain rfl : u = Value.ref a := r
  exact Reads.tuple (k _ _ ho) hc hd (.cons (.str _ _) (.cons (.int _ _) .nil))
open PySem.W in
theorem toks_pl (p q : Pr.Pl) : PyProof.Rows.lexLt itemOrd (keyToks (plD p)) (keyToks (plD q)) = Pr.lt p q := by
  have e : ∀ p : Pr.Pl, keyToks (plD p) = [.inl 1, .inr p.1.cps.toList, .inl 1, .inl p.2, .inl 0] := fun p => by
    show keyToks (.tuple [.str p.1, .int p.2]) = _
    rw [keyToks, toks_all_cons, toks_all_cons, keyToks, keyToks, keyToksAll]
    rfl
  rw [e, e]
  have b1 : ∀ i : Int, itemOrd.blt (.inl i) (.inl i) = false := fun i => by
    show decide (i < i) = false
    simp
  have b2 : ∀ a b : List Nat, itemOrd.blt (.inr a) (.inr b) = decide (a < b) := fun a b => rfl
  have b3 : ∀ a b : Int, itemOrd.blt (.inl a) (.inl b) = decide (a < b) := fun a b => rfl
  have b4 : PyProof.Rows.lexLt itemOrd ([] : List (Int ⊕ List Nat)) [] = false := rfl
  have st : ∀ (x y : Int ⊕ List Nat) (r t : List (Int ⊕ List Nat)), PyProof.Rows.lexLt itemOrd (x :: r) (y :: t) = (itemOrd.blt x y || (!itemOrd.blt y x && PyProof.Rows.lexLt itemOrd r t)) := fun x y r t => PyProof.Rows.lex_cons (O := itemOrd) x y r t
  rw [st, st, st, st, st, b1, b1, b2, b2, b3, b3, b4]
  simp only [Bool.false_or, Bool.not_false, Bool.true_and, Bool.and_false, Bool.or_false]
  unfold Pr.lt
  by_cases h : p.1 = q.1
  · rw [if_pos h, h, decide_eq_false (List.lt_irrefl q.1.cps.toList)]
    simp only [Bool.false_or, Bool.not_false, Bool.true_and]
  · rw [if_neg h]
    by_cases h2 : p.1.cps.toList < q.1.cps.toList
    · rw [decide_eq_true h2]
      rfl
    · have h3 : q.1.cps.toList < p.1.cps.toList := by
        rcases Classical.em (q.1.cps.toList < p.1.cps.toList) with z | z
        · exact z
        · exact absurd (Pr.cps_eq (List.le_antisymm (List.not_lt.mp z) (List.not_lt.mp h2))) h
      rw [decide_eq_false h2, decide_eq_true h3]
      rfl
end Lf
namespace Lf
open PySem PySem.Spec PyProof.Rows L2 K
section
variable {X : Cx} {pins : List (Addr × Obj)} {σ : L2.St} {H : Hp} {s : Shared} {c T : Addr} {q : Str} {params : Arguments} {body : Expr} {scope : Scope} {pos : Pos}
/-- what the making of a lambda leaves of the heap that is told -/
inductive Made (T : Addr) (q : Str) (H : Hp) (c' : Addr) : Hp → Prop
  | hit : H c' = some (LamX.CodeO c' q) → Made T q H c' H
  | new {ps more : Array Value} : H T = some (.tbl ps) → H c' = none → Made T q H c' (upd (upd H T (.tbl (ps ++ more))) c' (LamX.CodeO c' q))
theorem Made.ext [Tabled X.K] {c' : Addr} {H1 : Hp} (m : Made T q H c' H1) (hT : tabA X.K T) : ExtT X.K H H1 := fun a x e n => by
  cases m with
  | hit _ => exact e
  | new h1 h2 => rw [upd_ne (ne_of_none e h2), upd_ne fun z => n (by rw [z]; exact hT)]; exact e
theorem Made.code {c' : Addr} {H1 : Hp} (m : Made T q H c' H1) : H1 c' = some (LamX.CodeO c' q) := by
  cases m with
  | hit h => exact h
  | new _ _ => exact upd_same
/-- a lambda without captured names is made -/
theorem lam_made (I : Inv X pins σ H s) (B : LamX.TabB X.base X.mg c T) (hcode : X.env.code = .ref c) (eq : q = X.env.qual ++ "<lambda>") (hT : LamX.TabS H T q) (hdef : defaultsOf params X.env = ([], [])) (hcl : closureFor scope X.env = pure [])
    {E : Value → Shared → Prop} {Q : Value → Shared → Prop}
    (k : ∀ (f c' : Addr) (pm ctv : Value) (H1 : Hp) (s' : Shared), Inv X pins σ H1 s' → Made T q H c' H1 → LamX.TabS H1 T q → s'.heap.get? f = some (PySem.W.kla_obj "<lambda>" q params body scope [] pm c' ctv) → Q (.ref f) s') :
    wpAny (model X.prog X.w) X.A (eval (.Lambda params body scope pos) X.env) Q E s :=
        by
  subst eq
  obtain ⟨ps, hP, htr, hall⟩ := hT
  have bT : s.heap.BuiltinsAt X.mg T := B.bm.keeps I.bk
  have at0 : s.heap.get? T = some { cls := .none, data := .fields ps } := I.hok T _ hP
  refine PySem.W.kla_eval hdef
      ?_
  rcases e : codeAmong pos ps.toList with _ | cv
  · refine PySem.W.kla_makeFunction (mg := X.mg) (c := c) (P := T) (ps := ps) hcl I.ok.glob (I.mod.glob.keeps I.bk) hcode (B.code.keeps I.bk) at0 htr e B.gP bT fun c' ctv h' tk ext ge lt cr tb => ?_
    obtain ⟨c2, oc, us, t, e2, g1, g2, g3⟩ := cr
    cases e2
    have fr : H c' = none := I.hok.fresh ge
    have J := LamX.inv_table (t' := tk) (more := #[rawInt pos.line, rawInt pos.col, .ref c']) (h' := h'.push (PySem.W.kla_obj "<lambda>" (X.env.qual ++ "<lambda>") params body scope [] ((X.mg "__name__").getD .none) c' ctv)) I hP
      (fun b o n e => Heap.get?_push_of_some _ (ext b o n e)) (Heap.get?_push_of_some _ tb) ge ⟨oc, us, t, Heap.get?_push_of_some _ g1, g2, g3⟩
    refine k h'.objs.size c' _ ctv _ _ J (.new hP fr) ⟨_, by rw [upd_ne (ne_of_none hP fr), upd_same], ?_, fun p' cv hcv => ?_⟩ (Heap.get?_push_size _ rfl)
    · rw [Array.toList_append]
      exact PySem.TriplesOk_snoc _ _ _ _ htr
    · rw [Array.toList_append] at hcv
      rcases LamX.among_app _ htr hcv with z | z
      · obtain ⟨c0, e1, e3⟩ := hall p' cv z
        have nt : c0 ≠ T := fun y => by
          rw [y, hP] at e3
          unfold LamX.CodeO at e3
          cases e3
        exact ⟨c0, e1, by rw [upd_ne (ne_of_none e3 fr), upd_ne nt]; exact e3⟩
      · exact ⟨c', z, upd_same⟩
  · obtain ⟨c', e1, hco⟩ := hall pos cv e
    subst e1
    refine PySem.W.kla_makeFunctionHit (mg := X.mg) (c := c) (P := T) (ps := ps) hcl I.ok.glob (I.mod.glob.keeps I.bk) hcode (B.code.keeps I.bk) at0 htr e bT fun ctv h' tk ext ge => ?_
    exact k h'.objs.size c' _ ctv H _ (I.kept fun b o e => Heap.get?_push_of_some _ (ext b o e)) (.hit hco) ⟨ps, hP, htr, hall⟩ (Heap.get?_push_size _ rfl)
end
end Lf
namespace Lf
open PySem PySem.Spec PyProof.Rows L2 K
/-- a tuple whose first part is a pair of a text and a number -/
abbrev Kv := Pr.Pl × List PyData
def kvD (z : Kv) : PyData := .tuple (plD z.1 :: z.2)
def fSortK (τs : FTa) : FT := fun o P => τs o fun ds o1 => match ds with
  | [.list es] => ∃ zs : List Kv, es = zs.map kvD ∧ ∀ zs' : List Kv, SrtO.Srtd (fun a b : Kv => Pr.lt a.1 b.1) zs' → zs'.Perm zs → P (.list (zs'.map kvD)) o1
  | _ => False
section
variable {X : Cx}
def RKv (K : PySem.W.Frag) (G : Hp) (v : Value) (z : Kv) : Prop := Rp K G (backV v) (kvD z) ∧ ∃ a, v = .ref a
theorem each_kv {K : PySem.W.Frag} {G : Hp} : ∀ {xs : List V} {zs : List Kv} {its : List Value}, RpAll K G xs (zs.map kvD) → Vals xs its → PySem.W.EachIs (RKv K G) its zs
  | [], [], _, .nil, r => by cases r; exact .nil
  | x :: xs, z :: zs, _, .cons h t, r => by
    cases r with
    | cons r1 r2 =>
      obtain ⟨a, ys, rfl, _, _⟩ := (show Rp K G x (.tuple _) from h).tupI
      have r1 := r1
      obtain rfl := (show _ = Value.ref a from r1)
      exact .cons ⟨h, a, rfl⟩ (each_kv t r2)
theorem kv_each {K : PySem.W.Frag} {G : Hp} : ∀ {zs : List Kv} {its : List Value}, PySem.W.EachIs (RKv K G) its zs → RpAll K G (its.map backV) (zs.map kvD) ∧ ∀ u ∈ its, ∃ a, u = Value.ref a
  | _, _, .nil => ⟨.nil, fun u m => nomatch m⟩
  | _, _, .cons h t => by
    obtain ⟨h1, h2⟩ := kv_each t
    refine ⟨.cons h.1 h1, fun u m => ?_⟩
    rcases List.mem_cons.mp m with rfl | m
    · exact h.2
    · exact h2 u m
theorem alike_pl (p q : Pr.Pl) : PySem.W.alike (plD p) (plD q) = true := by
  unfold plD
  rw [PySem.W.alike, PySem.W.alikeAll, PySem.W.alikeAll, PySem.W.alike, PySem.W.alike, PySem.W.alikeAll]
  rfl
theorem kv_sorted (zs : List Kv) : SrtO.Srtd (fun a b : Kv => Pr.lt a.1 b.1) (zs.mergeSort (PySem.W.dataLe false fun z : Kv => plD z.1)) := by
  have e : ∀ a b : Kv, PySem.W.dataLe false (fun z : Kv => plD z.1) a b = !Pr.lt b.1 a.1 := fun a b => by
    show (!PyProof.Rows.lexLt PyProof.Rows.itemOrd (PySem.W.keyToks (plD b.1)) (PySem.W.keyToks (plD a.1))) = _
    rw [toks_pl]
  have O := Pr.swo fun z : Kv => z.1
  have p := List.pairwise_mergeSort (le := PySem.W.dataLe false fun z : Kv => plD z.1) (fun x y z h1 h2 => by
      rw [e, Bool.not_eq_true'] at h1 h2 ⊢
      exact O.tr _ _ _ h1 h2) (fun x y => by
      rw [e, e]
      cases h : Pr.lt y.1 x.1 with
      | false => rfl
      | true => rw [show Pr.lt x.1 y.1 = false from O.asym _ _ h]; rfl) zs
  exact p.imp fun {a b} h => by
    rw [e, Bool.not_eq_true'] at h
    exact h
theorem fo_sortK {K : PySem.W.Frag} [Tabled K] {c T : Addr} {x : Str} {e : Expr} {params : Arguments} {scope : Scope} {kk : Nat} {p p1 p2 p3 lpos kpos pos : Pos} {τs : FTa} (hK : X.K = K) (hg : Gl X "sorted") (hm : X.mg "sorted" = none) (ha : PA X [e] (upA K τs)) (hu : X.A.units + 5 < cLine) (hdep : X.A.depth < recursionLimit)
    (hcode : X.env.code = .ref c) (B : LamX.TabB X.base X.mg c T) (hT : (T, X.env.qual ++ "<lambda>") ∈ Tabled.TB K) (hone : ∀ p ∈ Tabled.TB K, p.1 = T → p.2 = X.env.qual ++ "<lambda>") (L : LamX0 x params scope) (hdef : defaultsOf params X.env = ([], []))
    (he : backTo pos (starEach [e] X.env) = (false, eval e X.env) :: backTo pos (starEach [] X.env) := by rfl) (hpl : (backTo pos (starEach [e] X.env)).any (·.1) = false := by rfl) :
    PE X (.Call (.Name "sorted" p) [e] [⟨some "key", .Lambda params (.Subscript (.Name x p1) (.Constant (.int 0) kk p2) p3) scope lpos, kpos⟩] pos) (upO K (fSortK τs)) := by
  subst hK
  refine ⟨fun pins s σ H Q I ⟨c0, G, o, P, r, h, k⟩ => ?_⟩
  refine wpAny_Call_Name_kw (ld_blt I hg hm PyProof.Rows.boot_sorted ?_ (by decide) (by decide))
  refine PyProof.Rows.callWith_kw (thn (ha.run pos pins s σ H (fun vs H1 => ∃ ds o1 G1, fSortK (fun o P => P ds o) o1 P ∧ Same G G1 ∧ Rs X.K c0 G1 o1 σ H1 ∧ RpAll X.K G1 vs ds) I ⟨c0, G, o, _, r, h, fun ds o1 G1 vs H1 p g r1 q => ⟨ds, o1, G1, p, g, r1, q⟩⟩) fun us s1 ⟨vs, H1, I1, ru, ds, o1, G1, p, g, r1, q1⟩ => ?_) he hpl rfl rfl
  have hcl : closureFor scope X.env = pure [] := by
    rw [closure_ok (fun y hy e => by
      rw [L.names] at hy
      rw [List.mem_singleton.mp hy] at e
      cases e)]
    rw [L.names]
    rfl
  refine wpAny_evalAll_cons (wpAny_bind (lam_made I1 B hcode rfl (r1.tabs _ hT) hdef hcl fun f c' pm ctv H2 s2 I2 md T2 hf => wpAny_bind (wpAny_standAt (wpAny_pure (wpAny_evalAll_nil ?_)))))
  have hTA : tabA X.K T := List.mem_map.mpr ⟨_, hT, rfl⟩
  have ext := md.ext hTA
  have tabs2 : TabsOf X.K H2 := fun p hp => by
    by_cases hp1 : p.1 = T
    · rw [hp1, hone p hp hp1]
      exact T2
    · obtain ⟨ps, e, h1, h2⟩ := r1.tabs p hp
      cases md with
      | hit _ => exact ⟨ps, e, h1, h2⟩
      | new h3 h4 =>
        refine ⟨ps, by rw [upd_ne (ne_of_none e h4), upd_ne hp1]; exact e, h1, fun pos cv hcv => ?_⟩
        obtain ⟨c1, e1, e2⟩ := h2 pos cv hcv
        refine ⟨c1, e1, ?_⟩
        rw [upd_ne (ne_of_none e2 h4), upd_ne fun z => ?_]
        · exact e2
        · rw [z, h3] at e2
          unfold LamX.CodeO at e2
          cases e2
  have sub2 : Same G1 H2 := fun a x e => ext a x (r1.sub a x e) fun z => by
    rw [r1.toff a z] at e
    cases e
  have r2 := r1.growT (Same.refl G1) ext tabs2 sub2 New.refl
  unfold fSortK at p
  dsimp only at p
  split at p
  · rename_i es
    obtain ⟨v, rfl, hv⟩ := q1.one
    obtain ⟨zs, rfl, pp⟩ := p
    obtain ⟨a, xs, rfl, h1, h2⟩ := hv.lstI
    obtain ⟨u, rfl, ru1⟩ := vals1 ru
    obtain rfl : u = Value.ref a := ru1
    obtain ⟨its, rv, hl, hz⟩ := I2.list (SqL.of (sub2 _ _ h1))
    have ek := each_kv h2 rv
    obtain ⟨_, refs⟩ := kv_each ek
    have len : zs.length ≤ sizeLine := by
      have := h2.len
      rw [List.length_map] at this
      omega
    obtain ⟨⟨oc, uo, t, g1, g2, g3⟩, _, _⟩ := I2.hok c' _ md.code
    refine PySem.W.sorted_key_data (R := RKv X.K G1) (β := Kv) (b := false) (fun z : Kv => plD z.1) hl.isList ek (fun d hd d' hd' => ?_) (.inl fun d hd => ?_) len (fun z _ => ?_) (PyProof.Rows.ksk_s1 _ _) (fun _ => PyProof.Rows.ksk_l1 _ _) (fun _ => PyProof.Rows.ksk_t1 _ _) (fun w0 z hz hzm h' tk kp => ?_) fun out n h' tk kp fr hD lo eo => ?_
    · obtain ⟨y, _, rfl⟩ := List.mem_map.mp hd
      obtain ⟨y', _, rfl⟩ := List.mem_map.mp hd'
      exact alike_pl _ _
    · obtain ⟨y, _, rfl⟩ := List.mem_map.mp hd
      exact ⟨_, _, rfl⟩
    · show X.A.units + 2 + PyData.depth (plD z.1) < cLine
      have : PyData.depth (plD z.1) = 1 := rfl
      omega
    · obtain ⟨hz1, b, rfl⟩ := hz
      obtain ⟨b', ys, eb, hs, ry⟩ := (show Rp X.K G1 (.ref b) (.tuple _) from hz1).tupI
      cases eb
      obtain ⟨its2, rv2, ⟨ob, ho, hc, m, hd⟩, _⟩ := I2.tuple (sqT_same sub2 hs)
      cases ry with
      | cons r3 r4 =>
        cases rv2 with
        | cons r5 r6 =>
          refine lam_ix0 (s := { s2 with heap := h', toks := tk }) L ?_ (kp _ _ hf) ⟨c', oc, uo, t, rfl, kp _ _ g1, g2, g3⟩ (I2.nolimit.keeps kp) ⟨ob, kp _ _ ho, hc, m, hd⟩ rfl fun h'' tk'' kp2 => ⟨h'', tk'', rfl, kp2, ?_⟩
          · exact hdep
          · exact pl_reads I2 sub2 r3 r5 fun b o e => kp2 b o (kp b o e)
    · obtain ⟨e1, e2⟩ := kv_each eo
      have hz2 : (out.map backV).length ≤ sizeLine := by rw [List.length_map, lo]; exact len
      have fr2 : H2 (s2.heap.objs.size + 1) = none := I2.hok.fresh (Nat.le_succ _)
      refine ⟨.ref (s2.heap.objs.size + 1), upd H2 _ (.lst (out.map backV)), I2.laid (t' := tk) kp (Nat.le_succ _) ⟨hz2, out, n, vals_back e2, hD⟩, rfl, ?_⟩
      obtain ⟨r3, m1, m2, m3⟩ := r2.mine fr2 (.lst (out.map backV))
      exact k _ o1 G1 _ _ (pp _ (kv_sorted zs) (List.mergeSort_perm _ _)) g r3 ⟨m1, m2, _, upd_same, e1⟩ m3
  · exact p.elim
end
end Lf
namespace Lf
open PySem PySem.Spec PyProof.Rows L2 K
section
variable {P : Program} {w : World} {K : PySem.W.Frag} [Tabled K] {mg : Str → Option Value} {base : Heap} {x qual : Str} {st : Stmt} {f c : Addr} {fd : FuncData} {N ps : List Str} {k : Nat} {sp : Sp} {φ : Ph} {ψ : PhT}
/-- a def by its body, its code object being known -/
theorem fun_okC (F : Fun K x qual st f fd) (hc : fd.code = .ref c) (S : FnScope N ps (defScope st)) (len : ∀ vs H Q E, sp vs H Q E → vs.length = ps.length)
    (hbody : ∀ (A : Around) (outer : List Env) (s : Shared) (H : Hp) (vs : List V) (Q : VK) (E : XK), Room k (A.deeper (envOfC qual (defScope st) s.heap.objs.size f (.ref c))) → sp vs H Q E →
      ∃ t, PSs (cxOf CX0 P w K mg base N qual (defScope st) f (.ref c) A outer s H E).nox (defBody st) t ∧ t { nx := fun _ H' => Q .non H', rt := Q } (L2.start N vs) H) : FnOk P w K mg base CX0 (k + 1) f fd ps sp := by
  rcases F.ex with ⟨oc, od, kV, doc, pm, an, cdv, ct, osl, rfl, lk, hcd⟩
  obtain rfl : cdv = .ref c := hc
  refine fn_of lk hcd S len fun A outer s H vs Q E hr hsp =>
      ?_
  obtain ⟨t, h, q⟩ := hbody A outer s H vs Q E hr hsp
  exact ⟨t, h.nox, q⟩
theorem okPC (F : Fun K x qual st f fd) (hc : fd.code = .ref c) (S : FnScope N ps (defScope st)) (len : ∀ ds P, φ ds P → ds.length = ps.length) {τ : FTs}
    (body : ∀ (A : Around) (outer : List Env) (s : Shared) (H : Hp) (E : XK), Room k (A.deeper (envOfC qual (defScope st) s.heap.objs.size f (.ref c))) → PSs (cxOf CX0 P w K mg base N qual (defScope st) f (.ref c) A outer s H E).nox (defBody st) (upS K τ))
    (h : ∀ ds P, φ ds P → τ (endsP P) ⟨startO N (ds.map .dat), 0⟩) : FnOk P w K mg base CX0 (k + 1) f fd ps (spP K φ) :=
  fun_okC F hc S (fun vs H Q E ⟨G, ds, P, _, r, p, _⟩ => by rw [r.len]; exact len ds P p) fun A outer s H vs Q E hr ⟨G, ds, P, sm, r, p, q⟩ =>
    ⟨_, body A outer s H E hr, _, G, _, endsP P, rs_start sm r (by rw [len ds P p]; exact scope_len S), h ds P p, cont_P q⟩
theorem hu5_of {j : Nat} {A : Around} (hr : Room j A) : A.units + 5 < cLine := by
  have := hr.units
  omega
end
/-- of the tables: where this law's one is -/
structure OneTab (K : PySem.W.Frag) [Tabled K] (c T : Addr) (q : Str) : Prop where
  is : Tabled.TB K = [(T, q)]
theorem OneTab.mem {K : PySem.W.Frag} [Tabled K] {c T : Addr} {q : Str} (o : OneTab K c T q) : (T, q) ∈ Tabled.TB K := by rw [o.is]; exact List.mem_singleton.mpr rfl
theorem OneTab.one {K : PySem.W.Frag} [Tabled K] {c T : Addr} {q : Str} (o : OneTab K c T q) : ∀ p ∈ Tabled.TB K, p.1 = T → p.2 = q := fun p hp _ => by
  rw [o.is] at hp
  rw [List.mem_singleton.mp hp]
end Lf

set_option maxRecDepth 100000
set_option maxHeartbeats 3900000
namespace Lf
open PySem PySem.Spec PyProof.Rows L2 K
section
variable {X : Cx} {K : PySem.W.Frag} [Tabled K] {e : Expr} {p pos : Pos} {i : Nat}
/-! # repr(x), len(x) of what is a name's own or the script -/
def fReprO (i : Nat) : FT := fun o P => match o.vs[i]? with
  | some (some (.own d)) => seqLike d = true ∧ d.hasDict = false ∧ d.showable = true ∧ d.depth ≤ 30 ∧ d.shown.length ≤ sizeLine ∧ P (.str d.shown) o
  | _ => False
theorem fe_reprO (hK : X.K = K) (hq : X.A.guards = some []) (hu : X.A.units + 64 < cLine) (hg : Gl X "repr") (hm : X.mg "repr" = none) (hv : PE X e (tVar i)) (he : starEach [e] X.env = (false, eval e X.env) :: starEach [] X.env := by rfl) : PE X (.Call (.Name "repr" p) [e] [] pos) (up K (fReprO i)) := by
  subst hK
  exact PE.imp (pe_callB (call_repD hq hu) hg hm (by decide +kernel) (pa_cons hv pa_nil he) (by decide) (by decide) he rfl) fun σ H Q ⟨c, G, om, P, r, h, k⟩ => by
    unfold fReprO at h
    split at h
    · rename_i d hi
      obtain ⟨sl, h1, h2, h3, h4, pp⟩ := h
      obtain ⟨v, e1, a, rfl, m⟩ := r.var i _ hi
      exact ⟨_, e1, a, d, rfl, (m.at'.rp r.sub).dp h1, h1, h2, h3, h4, k _ om G _ H pp (Same.refl G) r (.str _)⟩
    · exact h.elim
def fLenC (i : Nat) : FT := fun o P => match o.vs[i]? with
  | some (some (.oth (some ns))) => P (.int (ns.length : Nat)) o
  | _ => False
theorem fe_lenC (hK : X.K = K) (hv : PE X e (tVar i)) (hg : Gl X "len") (hm : X.mg "len" = none) (he : starEach [e] X.env = (false, eval e X.env) :: starEach [] X.env := by rfl) : PE X (.Call (.Name "len" p) [e] [] pos) (up K (fLenC i)) := by
  subst hK
  exact PE.imp (pe_callB call_len_seq hg hm PySem.boot_len (pa_cons hv pa_nil he) (by decide) (by decide) he rfl) fun σ H Q ⟨c, G, om, P, r, h, k⟩ => by
    unfold fLenC at h
    split at h
    · rename_i ns hi
      obtain ⟨v, e1, a, rfl, sq⟩ := r.var i _ hi
      refine ⟨_, e1, a, _, rfl, .inl (sqL_same r.sub sq), ?_⟩
      rw [List.length_map]
      exact k _ om G _ H h (Same.refl G) r (.int _)
    · exact h.elim
end
/-! # a frame that has no tape yet -/
section
variable {X : Cx} {K : PySem.W.Frag} [Tabled K] {st : Stmt} {tg iter : Expr} {body rest : List Stmt} {τ t u : FTs} {ι : FI} {γ : FGt} {S : List Nat} {pos : Pos}
theorem fs_n (h : PS X st (upS K t)) : PS X st (upSN K t) := PS.imp h fun D σ H ⟨c, G, o, E, _, r, q, k⟩ => ⟨c, G, o, E, r, q, k⟩
theorem fss_n (h : PSs X body (upS K t)) : PSs X body (upSN K t) := PSs.imp h fun D σ H ⟨c, G, o, E, _, r, q, k⟩ => ⟨c, G, o, E, r, q, k⟩
theorem fss_consN (h1 : PS X st (upSN K t)) (h2 : PSs X rest (upSN K u)) : PSs X (st :: rest) (upSN K (fSeq t u)) := PSs.imp (pss_cons h1 h2) fun D σ H ⟨c, G, o, E, hT, r, h, k⟩ =>
  ⟨c, G, o, { E with nx := u E }, hT, r, h, ⟨fun o' G' σ' H' p g r' => ⟨c, G', o', E, hT, r', p, k.grow g⟩, k.rt, k.ro, k.bk, k.ct, k.rf⟩⟩
theorem fss_oneN (h1 : PS X st (upSN K t)) : PSs X [st] (upSN K t) := pss_one h1
theorem fs_forN (hi : PI X tg iter (upI K ι)) (hg : PG X tg (upG K S γ)) (hb : PSs X body (upSN K t)) (hp : PassesOwn (model X.prog X.w) X.A X.env X.xe) (hc : X.calm = true)
    (hs : ∀ x, foldedSetIterable iter X.env x = pure x := by intro _; rfl) : PS X (.For tg iter body [] pos) (upSN K (fFor ι γ t)) := PS.imp (ps_for hp hc hi hg hb hs) fun D σ H ⟨c, G, o, E, hT, r, h, k⟩ =>
  ⟨c, G, o, _, r, h, fun ds o1 G1 J H1 ⟨I, i0, is, id⟩ g r1 fw => for_it fw (fun i σ H => ∃ G2 o2, Same G1 G2 ∧ Rs K c G2 o2 σ H ∧ I i o2) ⟨G1, o1, Same.refl G1, r1, i0⟩ (fun i σ H _ ⟨G2, o2, g2, r2, _⟩ => g2.trans r2.sub)
    (fun i x σ2 H2 H3 hi ⟨G2, o2, g2, r2, hI⟩ y => by
      obtain ⟨d, G3, e, g3, r3, q3⟩ := y.keep g2 r2
      refine ⟨c, G3, o2, _, d, r3, q3, is i d o2 e hI, fun o4 G4 σ4 H4 p4 g4 r4 _ _ => ?_⟩
      have gg := ((g.trans g2).trans g3).trans g4
      exact ⟨c, G4, o4, _, hT, r4, p4, ⟨fun o' G' σ' H' p s r' => ⟨G', o', ((g2.trans g3).trans g4).trans s, r', p⟩, (k.grow gg).rt, (k.grow gg).ro, (k.grow gg).nx, fun o' G' σ' H' p s r' => ⟨G', o', ((g2.trans g3).trans g4).trans s, r', p⟩, (k.grow gg).rf⟩⟩)
    fun σ2 H2 ⟨G2, o2, g2, r2, hI⟩ => k.nx o2 G2 σ2 H2 (id o2 hI) (g.trans g2) r2⟩
end
/-! # the law -/
section
variable {P : Program} {w : World} {K : PySem.W.Frag} [Tabled K] {mg : Str → Option Value} {base : Heap} {st : Stmt} {f : Addr} {fd : FuncData} {N : List Str} {k : Nat}
open Classical in
/-- the heap but for the tables -/
noncomputable def offTab (K : PySem.W.Frag) [Tabled K] (H : Hp) : Hp := fun b => if tabA K b then none else H b
theorem offTab_of {H : Hp} {a : Addr} {x : HO} (e : H a = some x) (n : ¬ tabA K a) : offTab K H a = some x := by
  unfold offTab
  rw [if_neg n]
  exact e
theorem offTab_tab {H : Hp} {a : Addr} (n : tabA K a) : offTab K H a = none := by
  unfold offTab
  rw [if_pos n]
theorem offTab_sub {H : Hp} : Same (offTab K H) H := fun a x e => by
  by_cases n : tabA K a
  · rw [offTab_tab n] at e
    cases e
  · unfold offTab at e
    rwa [if_neg n] at e
def spLaw (K : PySem.W.Frag) [Tabled K] : Sp := fun vs H Q _ => ∃ (a : Addr) (ns : List Int), vs = [.ref a] ∧ SqL K H a (ns.map V.int) ∧ ns.length ≤ 63 ∧ TabsOf K H ∧ ∀ H' : Hp, Q (.bl true) H'
def endsLaw : Fe := { nx := fun _ => False, rt := fun d _ => d = .bool true }
theorem okLaw {nm qual : Str} (F : Fun K nm qual st f fd) (S : FnScope N ["script"] (defScope st)) {τ : FTs}
    (body : ∀ (cdv : Value) (A : Around) (outer : List Env) (s : Shared) (H : Hp) (E : XK), A.guards = some [] → Room k (A.deeper (envOfC qual (defScope st) s.heap.objs.size f cdv)) →
      PSs (cxOf CX0 P w K mg base N qual (defScope st) f cdv A outer s H E).nox (defBody st) (upSN K τ))
    (h : ∀ ns : List Int, ns.length ≤ 63 → τ endsLaw ⟨startO N [.scr ns], 0⟩) : FnG P w K mg base CX0 (k + 1) f fd ["script"] (spLaw K) :=
  F.okG S (fun vs H Q E ⟨a, ns, e, _⟩ => by rw [e]; rfl) fun cdv A outer s H vs Q E hq hr ⟨a, ns, e, sq, hl, tb, q⟩ => by
    subst e
    refine ⟨_, body cdv A outer s H E hq hr, ⟨none, offTab K H, offTab K H⟩, offTab K H, _, endsLaw, rfl, ⟨offTab_sub, Same.refl _, fun _ _ e => .inl e, fun a x e _ _ => offTab_sub a x e, fun _ e => (nomatch e), ?_, fun i w e => ?_, fun i j d e b _ h1 => ?_, tb, fun b hb => offTab_tab hb⟩, h ns hl, ⟨fun _ _ _ _ p => p.elim, fun d o' G' σ' v H' p s r rv => ?_, fun _ _ _ _ _ _ p => p.elim, fun _ _ _ _ p => p.elim, fun _ _ _ _ p => p.elim, fun _ _ _ _ _ _ p => p.elim⟩⟩
    · have l := scope_len S
      rw [start_len (by simpa using l), startO_len (by simpa using l)]
    · have e := startO_at e
      cases i with
      | succ i => rw [List.getElem?_cons_succ] at e; cases e
      | zero =>
        cases e
        refine ⟨_, start_at rfl, a, rfl, ?_⟩
        rcases sq with (h1 | ⟨ob, h1⟩) | h1
        · exact .inl (.inl (offTab_of h1 (tb.lst h1 fun ps z => nomatch z)))
        · exact .inl (.inr ⟨ob, offTab_of h1 (tb.lst h1 fun ps z => nomatch z)⟩)
        · exact .inr h1
    · have h1 := startO_at h1
      cases i with
      | succ i => rw [List.getElem?_cons_succ] at h1; cases h1
      | zero => cases h1
    · have p : d = .bool true := p
      subst p
      show Q v H'
      rw [rv.blI]
      exact q H'
end
end Lf

set_option maxRecDepth 100000
set_option maxHeartbeats 3900000
namespace Dr
open PySem PySem.Spec PyProof.Rows L2 K Lf
/-! # what is drawn is shown in a line -/
structure Fine (k w : Nat) (d : PyData) : Prop where
  lay : PyData.canLay0 d = true
  dep : PyData.depth d ≤ k
  wt : PyData.weight d ≤ w
  sh : PyData.intsShort 13 d = true
  sw : PyData.showable d = true
structure FineAll (k w : Nat) (ds : List PyData) : Prop where
  lay : PyData.canLayAll0 ds = true
  dep : PyData.depthAll ds ≤ k
  wt : PyData.weightAll ds ≤ w
  sh : PyData.intsShortAll 13 ds = true
  sw : PyData.showableAll ds = true
theorem Fine.mono {k w k' w' : Nat} {d : PyData} (f : Fine k w d) (hk : k ≤ k') (hw : w ≤ w') : Fine k' w' d := ⟨f.lay, Nat.le_trans f.dep hk, Nat.le_trans f.wt hw, f.sh, f.sw⟩
theorem FineAll.nil {k : Nat} : FineAll k 0 [] := ⟨rfl, Nat.zero_le _, Nat.zero_le _, rfl, rfl⟩
theorem FineAll.cons {k w v : Nat} {d : PyData} {ds : List PyData} (f : Fine k w d) (g : FineAll k v ds) : FineAll k (w + 1 + v) (d :: ds) := by
  refine ⟨?_, ?_, ?_, ?_, ?_⟩
  · show (PyData.canLay0 d && PyData.canLayAll0 ds) = true
    rw [f.lay, g.lay]
    rfl
  · show max (PyData.depth d) (PyData.depthAll ds) ≤ k
    have := f.dep
    have := g.dep
    omega
  · show PyData.weight d + 1 + PyData.weightAll ds ≤ _
    have := f.wt
    have := g.wt
    omega
  · show (PyData.intsShort 13 d && PyData.intsShortAll 13 ds) = true
    rw [f.sh, g.sh]
    rfl
  · show (PyData.showable d && PyData.showableAll ds) = true
    rw [f.sw, g.sw]
    rfl
theorem FineAll.each {k w : Nat} : ∀ {ds : List PyData}, (∀ d ∈ ds, Fine k w d) → FineAll k ((w + 1) * ds.length) ds
  | [], _ => FineAll.nil
  | d :: ds, h => by
    have g := FineAll.each (ds := ds) fun x m => h x (List.mem_cons_of_mem _ m)
    have f := FineAll.cons (h d List.mem_cons_self) g
    have e : w + 1 + (w + 1) * ds.length = (w + 1) * (d :: ds).length := by
      rw [List.length_cons, Nat.mul_add, Nat.mul_one, Nat.add_comm]
    rwa [e] at f
theorem FineAll.tup {k w : Nat} {ds : List PyData} (f : FineAll k w ds) : Fine (k + 1) w (.tuple ds) := ⟨f.lay, Nat.add_le_add_right f.dep 1, f.wt, f.sh, f.sw⟩
theorem FineAll.lst {k w : Nat} {ds : List PyData} (f : FineAll k w ds) : Fine (k + 1) w (.list ds) := ⟨f.lay, Nat.add_le_add_right f.dep 1, f.wt, f.sh, f.sw⟩
theorem FineAll.mono {k w k' w' : Nat} {ds : List PyData} (f : FineAll k w ds) (hk : k ≤ k') (hw : w ≤ w') : FineAll k' w' ds := ⟨f.lay, Nat.le_trans f.dep hk, Nat.le_trans f.wt hw, f.sh, f.sw⟩
theorem Fine.shows {k w : Nat} {d : PyData} (f : Fine k w d) (hk : k ≤ 30) (hw : w ≤ 2 ^ 20) : d.hasDict = false ∧ d.showable = true ∧ d.depth ≤ 30 ∧ d.shown.length ≤ sizeLine := by
  have ly := lay0 (shaped_of f.lay (Nat.le_trans f.dep (Nat.le_trans hk (by decide)))) (Nat.le_trans f.wt hw)
  exact ⟨PyData.hasDict_of_layable ly, f.sw, Nat.le_trans f.dep hk, PyData.shown_fits_of_layable0 (B := 13) (by decide) (by decide) ly f.sh⟩
theorem Fine.int {i : Int} (h : SmI i) : Fine 0 40 (.int i) := ⟨rfl, Nat.le_refl _, h.weight, h.short, h.sho⟩
def nmList : List Str := letters ++ (["set", "add", "plus", "minus", "times", "over", "rest", "mid", "row", "get", "put", "length", "ask", "tell", "check", "if", "go", "call", "back", "<", "<=", "main", "f", "g", "great", "nought", "size", "place", "on", "fault"] : List Str)
theorem nm {x : Str} (h : x ∈ nmList) : Fine 0 10 (.str x) := by
  have a : ∀ x ∈ nmList, PyData.canLay0 (.str x) = true ∧ x.cps.size ≤ 10 := by decide +kernel
  exact ⟨(a x h).1, Nat.le_refl _, (a x h).2, rfl, rfl⟩
theorem nmL {x : Str} (h : x ∈ letters) : x ∈ nmList := List.mem_append_left _ h
theorem Wd.sm {w i : Int} (hw : w ≤ 1000) (h : Wd w i) : SmI i := SmI.of (w := w) (by omega) h.1 h.2
/-- a part of an act -/
abbrev Part (d : PyData) : Prop := Fine 1 100 d
theorem part_nm {x : Str} (h : x ∈ nmList) : Part (.str x) := (nm h).mono (by decide) (by decide)
theorem part_int {i : Int} (h : SmI i) : Part (.int i) := (Fine.int h).mono (by decide) (by decide)
theorem names_fine {xs : List Str} (h : ∀ x ∈ xs, x ∈ nmList) : FineAll 0 (11 * xs.length) (xs.map .str) := by
  have := FineAll.each (k := 0) (w := 10) (ds := xs.map .str) fun d m => by
    obtain ⟨x, hx, rfl⟩ := List.mem_map.mp m
    exact nm (h x hx)
  rwa [List.length_map] at this
theorem given_in {h o : Hd} (ok : HdOk h) : ∀ {gs ps : List Str}, Given h o gs ps → (∀ x ∈ gs, x ∈ nmList) ∧ gs.length = ps.length
  | _, _, .nil => ⟨fun x m => (nomatch m), rfl⟩
  | _, _, .plain _ b r => ⟨fun x m => (List.mem_cons.mp m).elim (fun e => by rw [e]; exact nmL (ok.numIn b)) ((given_in ok r).1 x), congrArg (· + 1) (given_in ok r).2⟩
  | _, _, .finger _ b r => ⟨fun x m => (List.mem_cons.mp m).elim (fun e => by rw [e]; exact nmL (ok.kinds.2.1 b)) ((given_in ok r).1 x), congrArg (· + 1) (given_in ok r).2⟩
  | _, _, .row _ b r => ⟨fun x m => (List.mem_cons.mp m).elim (fun e => by rw [e]; exact nmL (ok.kinds.2.2 b)) ((given_in ok r).1 x), congrArg (· + 1) (given_in ok r).2⟩
theorem act_fine {h : Hd} {hs : List Hd} {w : Int} {L : Int → Prop} {a : Act} (ok : HdOk h) (hn : ∀ o ∈ hs, o.name ∈ nmList ∧ o.params.length ≤ 7) (hw : w ≤ 1000) (lab : ∀ l, L l → SmI l) (f : AFit h hs w L a) : Fine 2 600 a.d := by
  have n : ∀ {x}, x ∈ h.nums → Part (.str x) := fun m => part_nm (nmL (ok.numIn m))
  have p : ∀ {x}, x ∈ h.plain → Part (.str x) := fun m => part_nm (nmL (ok.kinds.1 m))
  have q : ∀ {x}, x ∈ h.fingers → Part (.str x) := fun m => part_nm (nmL (ok.kinds.2.1 m))
  have r : ∀ {x}, x ∈ h.rows → Part (.str x) := fun m => part_nm (nmL (ok.kinds.2.2 m))
  have i : ∀ {k}, Wd w k → Part (.int k) := fun m => part_int (m.sm hw)
  have s : ∀ {s}, SideOk h w s → Part s.d := fun m => by
    cases m with
    | nm m => exact n m
    | wd m => exact i m
  have g : ∀ {x}, x ∈ signs → Part (.str x) := fun {x} m => part_nm (by
    have : ∀ x ∈ signs, x ∈ nmList := by decide +kernel
    exact this x m)
  have fin : ∀ (word : Str) (ps : List PyData), word ∈ nmList → ps.length ≤ 4 → (∀ d ∈ ps, Part d) → Fine 2 600 (.tuple (.str word :: ps)) := fun word ps h1 h2 h3 => by
    have := ((part_nm h1 : Part (.str word)) |> fun a => FineAll.cons a (FineAll.each h3)).tup
    exact this.mono (Nat.le_refl _) (by omega)
  have W : ∀ {x : Str}, x ∈ nmList → x ∈ nmList := id
  cases f with
  | set a b => exact fin _ _ (by show ("set" : Str) ∈ nmList; decide +kernel) (by show 2 ≤ 4; decide) (List.forall_mem_cons.mpr ⟨n a, List.forall_mem_cons.mpr ⟨i b, fun _ m => (nomatch m)⟩⟩)
  | addP a b c => exact fin _ _ (by show ("add" : Str) ∈ nmList; decide +kernel) (by show 3 ≤ 4; decide) (List.forall_mem_cons.mpr ⟨p a, List.forall_mem_cons.mpr ⟨n b, List.forall_mem_cons.mpr ⟨i c, fun _ m => (nomatch m)⟩⟩⟩)
  | addF a b c => exact fin _ _ (by show ("add" : Str) ∈ nmList; decide +kernel) (by show 3 ≤ 4; decide) (List.forall_mem_cons.mpr ⟨q a, List.forall_mem_cons.mpr ⟨q b, List.forall_mem_cons.mpr ⟨i c, fun _ m => (nomatch m)⟩⟩⟩)
  | sum w a b c => exact fin _ _ (by
      have : ∀ x ∈ sumWords, x ∈ nmList := by decide +kernel
      exact this _ w) (by show 3 ≤ 4; decide) (List.forall_mem_cons.mpr ⟨p a, List.forall_mem_cons.mpr ⟨p b, List.forall_mem_cons.mpr ⟨p c, fun _ m => (nomatch m)⟩⟩⟩)
  | midP a b c => exact fin _ _ (by show ("mid" : Str) ∈ nmList; decide +kernel) (by show 3 ≤ 4; decide) (List.forall_mem_cons.mpr ⟨p a, List.forall_mem_cons.mpr ⟨p b, List.forall_mem_cons.mpr ⟨p c, fun _ m => (nomatch m)⟩⟩⟩)
  | midF a b c => exact fin _ _ (by show ("mid" : Str) ∈ nmList; decide +kernel) (by show 3 ≤ 4; decide) (List.forall_mem_cons.mpr ⟨q a, List.forall_mem_cons.mpr ⟨q b, List.forall_mem_cons.mpr ⟨q c, fun _ m => (nomatch m)⟩⟩⟩)
  | row a b => exact fin _ _ (by show ("row" : Str) ∈ nmList; decide +kernel) (by show 2 ≤ 4; decide) (List.forall_mem_cons.mpr ⟨r a, List.forall_mem_cons.mpr ⟨n b, fun _ m => (nomatch m)⟩⟩)
  | get a b c => exact fin _ _ (by show ("get" : Str) ∈ nmList; decide +kernel) (by show 3 ≤ 4; decide) (List.forall_mem_cons.mpr ⟨p a, List.forall_mem_cons.mpr ⟨r b, List.forall_mem_cons.mpr ⟨n c, fun _ m => (nomatch m)⟩⟩⟩)
  | put a b c => exact fin _ _ (by show ("put" : Str) ∈ nmList; decide +kernel) (by show 3 ≤ 4; decide) (List.forall_mem_cons.mpr ⟨r a, List.forall_mem_cons.mpr ⟨n b, List.forall_mem_cons.mpr ⟨n c, fun _ m => (nomatch m)⟩⟩⟩)
  | length a b => exact fin _ _ (by show ("length" : Str) ∈ nmList; decide +kernel) (by show 2 ≤ 4; decide) (List.forall_mem_cons.mpr ⟨n a, List.forall_mem_cons.mpr ⟨r b, fun _ m => (nomatch m)⟩⟩)
  | ask a b c => exact fin _ _ (by show ("ask" : Str) ∈ nmList; decide +kernel) (by show 3 ≤ 4; decide) (List.forall_mem_cons.mpr ⟨p a, List.forall_mem_cons.mpr ⟨i b, List.forall_mem_cons.mpr ⟨i c, fun _ m => (nomatch m)⟩⟩⟩)
  | tell a => exact fin _ _ (by show ("tell" : Str) ∈ nmList; decide +kernel) (by show 1 ≤ 4; decide) (List.forall_mem_cons.mpr ⟨n a, fun _ m => (nomatch m)⟩)
  | check a b c => exact fin _ _ (by show ("check" : Str) ∈ nmList; decide +kernel) (by show 3 ≤ 4; decide) (List.forall_mem_cons.mpr ⟨s a, List.forall_mem_cons.mpr ⟨g b, List.forall_mem_cons.mpr ⟨s c, fun _ m => (nomatch m)⟩⟩⟩)
  | ite a b c l => exact fin _ _ (by show ("if" : Str) ∈ nmList; decide +kernel) (by show 4 ≤ 4; decide) (List.forall_mem_cons.mpr ⟨s a, List.forall_mem_cons.mpr ⟨g b, List.forall_mem_cons.mpr ⟨s c, List.forall_mem_cons.mpr ⟨part_int (lab _ l), fun _ m => (nomatch m)⟩⟩⟩⟩)
  | go l => exact fin _ _ (by show ("go" : Str) ∈ nmList; decide +kernel) (by show 1 ≤ 4; decide) (List.forall_mem_cons.mpr ⟨part_int (lab _ l), fun _ m => (nomatch m)⟩)
  | call a b c =>
    obtain ⟨g1, g2⟩ := given_in ok c
    have h7 := (hn _ b).2
    exact fin _ _ (by show ("call" : Str) ∈ nmList; decide +kernel) (by show 3 ≤ 4; decide) (List.forall_mem_cons.mpr ⟨p a, List.forall_mem_cons.mpr ⟨part_nm (hn _ b).1, List.forall_mem_cons.mpr ⟨(names_fine g1).tup.mono (Nat.le_refl _) (by omega), fun _ m => (nomatch m)⟩⟩⟩)
  | back a => exact fin _ _ (by show ("back" : Str) ∈ nmList; decide +kernel) (by show 1 ≤ 4; decide) (List.forall_mem_cons.mpr ⟨n a, fun _ m => (nomatch m)⟩)
theorem hd_in {hs : List Hd} (ok : HdsOk hs) : ∀ o ∈ hs, o.name ∈ nmList ∧ o.params.length ≤ 7 := fun o ho => by
  obtain ⟨i, hi⟩ := List.getElem?_of_mem ho
  refine ⟨?_, (ok.ok o ho).few⟩
  rw [ok.name i o hi]
  unfold hdName
  have h3 := (List.getElem?_eq_some_iff.mp hi).1
  have := ok.few
  have : i = 0 ∨ i = 1 ∨ i = 2 := by omega
  rcases this with rfl | rfl | rfl <;> decide +kernel
theorem df_fine {h : Hd} {hs : List Hd} {w : Int} {d : Df} (hso : HdsOk hs) (hm : h ∈ hs) (hw : w ≤ 1000) (f : DfOf h hs w d) : Fine 5 22000 d.d := by
  have ok := hso.ok h hm
  obtain ⟨n1, n2⟩ := hd_in hso h hm
  have st : FineAll 3 ((700 + 1) * 30) (d.steps.map stpD) := by
    refine (FineAll.each (k := 3) (w := 700) fun x m => ?_).mono (Nat.le_refl _) (by rw [List.length_map]; exact Nat.mul_le_mul_left _ f.steps.few)
    obtain ⟨s, hs', rfl⟩ := List.mem_map.mp m
    have l := f.steps.lab s hs'
    have a := act_fine ok (hd_in hso) hw (fun l hl => by
      obtain ⟨t, ht, rfl⟩ := List.mem_map.mp hl
      have := f.steps.lab t ht
      exact SmI.of (w := 9999) (by decide) (by omega) (by omega)) (f.steps.acts s hs')
    have i : Fine 2 40 (.int s.1) := (Fine.int (SmI.of (w := 9999) (by decide) (by omega) (by omega))).mono (by decide) (Nat.le_refl _)
    exact (FineAll.cons i (FineAll.cons a .nil)).tup.mono (Nat.le_refl _) (by decide)
  have ns : ∀ {xs : List Str} {m : Nat}, (∀ x ∈ xs, x ∈ letters) → xs.length ≤ m → Fine 4 (11 * m) (strT xs) := fun h l => (names_fine fun x hx => nmL (h x hx)).tup.mono (by decide) (Nat.mul_le_mul_left _ l)
  have lens := ok.lens
  have ps : Fine 4 77 (strT d.params) := by
    rw [f.params]
    exact ns (m := 7) (fun x hx => ok.letter (ok.params.2 x hx)) n2
  have fs : Fine 4 77 (strT d.fingers) := by
    rw [f.fingers]
    exact (ns (m := 7) (fun x hx => ok.kinds.2.1 hx) (by omega))
  have rs : Fine 4 77 (strT d.rows) := by
    rw [f.rows]
    exact (ns (m := 7) (fun x hx => ok.kinds.2.2 hx) (by omega))
  have nmn : Fine 4 10 (.str d.name) := by
    rw [f.name]
    exact (nm n1).mono (by decide) (Nat.le_refl _)
  exact (FineAll.cons nmn (FineAll.cons ps (FineAll.cons fs (FineAll.cons rs (FineAll.cons (st.tup) .nil))))).tup.mono (Nat.le_refl _) (by decide)
theorem PgFit.of {p : Pg} (f : PgFit p) {d : Df} (hd : d ∈ p.defs) : ∃ h hs, HdsOk hs ∧ h ∈ hs ∧ DfOf h hs p.wide d := by
  obtain ⟨hs, ds, a, b, c, e, g⟩ := f.ex
  have hd' : d ∈ ds := by
    rcases g with g | g
    · rwa [g] at hd
    · rw [g] at hd
      exact List.mem_reverse.mp hd
  obtain ⟨i, hi⟩ := List.getElem?_of_mem hd'
  have lt := (List.getElem?_eq_some_iff.mp hi).1
  have hh : hs[i]? = some (hs[i]'(by omega)) := List.getElem?_eq_getElem _
  exact ⟨_, hs, a, List.mem_of_getElem? hh, e i _ d hh hi⟩
theorem PgFit.few {p : Pg} (f : PgFit p) : p.defs.length ≤ 3 := by
  obtain ⟨hs, ds, a, b, c, e, g⟩ := f.ex
  have := a.few
  rcases g with g | g
  · rw [g]; omega
  · rw [g, List.length_reverse]; omega
theorem PgFit.fine {p : Pg} (f : PgFit p) : Fine 7 70000 p.d := by
  have w1 := f.w1
  have w0 := f.w0
  have ds : FineAll 5 (22001 * 3) (p.defs.map Df.d) := (FineAll.each (k := 5) (w := 22000) fun x m => by
    obtain ⟨d, hd, rfl⟩ := List.mem_map.mp m
    obtain ⟨h, hs, a, b, c⟩ := f.of hd
    exact df_fine a b (by omega) c).mono (Nat.le_refl _) (by rw [List.length_map]; exact Nat.mul_le_mul_left _ f.few)
  have i : Fine 6 40 (.int p.wide) := (Fine.int (SmI.of (w := 31) (by decide) (by omega) (by omega))).mono (by decide) (Nat.le_refl _)
  exact (FineAll.cons i (FineAll.cons ds.tup .nil)).tup.mono (Nat.le_refl _) (by decide)
theorem PgFit.listed {p : Pg} (f : PgFit p) : Listed p := by
  refine ⟨Nat.le_trans f.few (by decide), ?_, fun d hd => ?_, fun d hd => ?_⟩
  · obtain ⟨hs, ds, a, b, c, e, g⟩ := f.ex
    have nd : (ds.map (·.name)).Nodup := by
      have : ds.map (·.name) = hs.map (·.name) := by
        apply List.ext_getElem?
        intro i
        rw [List.getElem?_map]
        rw [List.getElem?_map]
        cases hi : ds[i]? with
        | none =>
          have : hs[i]? = none := by rw [List.getElem?_eq_none_iff] at hi ⊢; omega
          rw [this]
          rfl
        | some d =>
          have lt := (List.getElem?_eq_some_iff.mp hi).1
          have hh : hs[i]? = some (hs[i]'(by omega)) := List.getElem?_eq_getElem _
          rw [hh]
          show some d.name = some _
          rw [(e i _ d hh hi).name]
      rw [this]
      refine List.pairwise_iff_getElem.mpr fun i j hi hj ij => ?_
      rw [List.length_map] at hi hj
      rw [List.getElem_map, List.getElem_map, a.name i _ (List.getElem?_eq_getElem _), a.name j _ (List.getElem?_eq_getElem _)]
      have := a.few
      have : (i = 0 ∧ j = 1) ∨ (i = 0 ∧ j = 2) ∨ (i = 1 ∧ j = 2) := by omega
      rcases this with ⟨rfl, rfl⟩ | ⟨rfl, rfl⟩ | ⟨rfl, rfl⟩ <;> decide +kernel
    rcases g with g | g
    · rwa [g]
    · rw [g, List.map_reverse]
      exact List.pairwise_reverse.mpr (nd.imp fun h => Ne.symm h)
  · obtain ⟨h, hs, a, b, c⟩ := f.of hd
    exact c.steps.rise.imp fun {x y} z => by omega
  · obtain ⟨h, hs, a, b, c⟩ := f.of hd
    exact Nat.le_trans c.steps.few (by decide)
end Dr

set_option maxRecDepth 100000
set_option maxHeartbeats 3900000
/-! Sets of texts: set(xs) of a list of texts, sorted(..) of such a set. -/
namespace Ts
open PySem PySem.Spec PyProof.Rows L2
abbrev tk (P : Program) (w : World) := PySem.strKind P w
/-- an entry of the text x -/
def En (P : Program) (w : World) (e : Int × Value) (x : Str) : Prop := (∃ u, e.2 = Value.str x u) ∧ e.1 = (tk P w).hash x
/-- the set of texts at a: those of L, each once; its table rises and can be walked -/
def At (P : Program) (w : World) (h : Heap) (a : Addr) (L : List Str) : Prop := ∃ o es ep t, h.get? a = some o ∧ o.ExactSet ∧ o.data = .set es ep t ∧ Paired (En P w) es.toList L ∧ L.Nodup ∧
  es.size < scanBound ∧ t.fits es.size = true ∧ Ris t.place.toList ∧ (w.params.followText "set-order" = true ∨ t.led = true)
theorem At.moved {P : Program} {w : World} {h h' : Heap} {a : Addr} {L : List Str} (R : At P w h a L) (k : ∀ o, h.get? a = some o → h'.get? a = some o) : At P w h' a L := let ⟨o, es, ep, t, ho, r⟩ := R; ⟨o, es, ep, t, k o ho, r⟩
theorem pair_perm {α β : Type} {R : α → β → Prop} {xs' xs : List α} (p : xs'.Perm xs) : ∀ {ys : List β}, Paired R xs ys → ∃ ys', ys'.Perm ys ∧ Paired R xs' ys' := by
  induction p with
  | nil => exact fun h => ⟨_, .refl _, h⟩
  | cons a _ ih =>
    intro ys h
    cases h with
    | cons r t =>
      obtain ⟨zs, p, q⟩ := ih t
      exact ⟨_ :: zs, p.cons _, .cons r q⟩
  | swap a b l =>
    intro ys h
    cases h with
    | cons r t =>
      cases t with
      | cons r' t' => exact ⟨_, .swap _ _ _, .cons r' (.cons r t')⟩
  | trans _ _ i1 i2 =>
    intro ys h
    obtain ⟨zs, p, q⟩ := i2 h
    obtain ⟨us, p', q'⟩ := i1 q
    exact ⟨us, p'.trans p, q'⟩
theorem elems {P : Program} {w : World} : ∀ {l : List (Int × Value)} {L : List Str}, Paired (En P w) l L → ElemsOf (tk P w) l
  | _, _, .nil => fun e he => nomatch he
  | e0 :: l, x :: L, .cons h r => fun e he => by
    rcases List.mem_cons.mp he with z | z
    · subst z
      obtain ⟨⟨u, h1⟩, h2⟩ := h
      exact ⟨⟨x, by rw [h1]; exact strKind_is P w x u, h2⟩, by rw [h1]; rfl⟩
    · exact elems r e z
theorem found {P : Program} {w : World} : ∀ {l : List (Int × Value)} {L : List Str}, Paired (En P w) l L → ∀ x, x ∈ L ↔ ∃ e ∈ l, (tk P w).is x e.2 = true
  | _, _, .nil, x => ⟨(fun h => nomatch h), (fun ⟨e, he, _⟩ => nomatch he)⟩
  | e0 :: l, y :: L, .cons h r, x => by
    obtain ⟨⟨u, h1⟩, _⟩ := h
    have key : (tk P w).is x e0.2 = true ↔ x = y := by
      rw [h1]
      constructor
      · intro z
        have z : Value.isStrOf x (Value.str y u) = true := z
        obtain ⟨t, e⟩ := Value.isStrOf_shape z
        injection e with e _
        exact e.symm
      · intro z
        subst z
        exact strKind_is P w x u
    rw [List.mem_cons, found r x]
    constructor
    · rintro (z | ⟨e, he, q⟩)
      · exact ⟨e0, List.mem_cons_self, key.2 z⟩
      · exact ⟨e, List.mem_cons_of_mem _ he, q⟩
    · rintro ⟨e, he, q⟩
      rcases List.mem_cons.mp he with z | z
      · subst z
        exact .inl (key.1 q)
      · exact .inr ⟨e, z, q⟩
section
variable {P : Program} {w : World} {A : Around} {E : Value → Shared → Prop} {s : Shared} {a : Addr} {L : List Str}
/-- the entries are laid, and laid anew where the table is too full -/
theorem lay {f : Bool → Sem Unit} (hf0 : ∀ (b : Bool) (s₁ : Shared) (Q' : Unit → Shared → Prop), Q' () s₁ → wpAny (model P w) A (f b) Q' E s₁) {o : Obj} {es : Array (Int × Value)} {ep : Nat} {t : SetTable} (ho : s.heap.get? a = some o) (hx : o.ExactSet) (hd : o.data = .set es ep t)
    {es1 : Array (Int × Value)} {t2 : SetTable} (g1 : Paired (En P w) es1.toList L) (nd : L.Nodup) (hb1 : es1.size < scanBound) (fit : t2.fits es1.size = true) (rise : Ris t2.place.toList) (led : w.params.followText "set-order" = true ∨ t2.led = true) {was : Bool} {R : Option Bool → Shared → Prop}
    (hR : ∀ h' L', Heap.SameBut a s.heap h' → At P w h' a L' → L'.Perm L → R (some true) { s with heap := h' }) :
    wpAny (model P w) A (do
        storeSet a es1 t2
        if (!was && t2.tooFull) = true then do
            f (relayAll t2 es1 (SetTable.grown es1.size)).2.2
            storeSet a (relayAll t2 es1 (SetTable.grown es1.size)).1 (relayAll t2 es1 (SetTable.grown
                es1.size)).2.1
            pure (some true)
          else pure (some true)) R E s :=
              by
  refine wpAny_bind (wpAny_storeSet_of ho hd ?_ (fits_of_scanBound
      hb1))
  have ho1 := store_at (es' := es1) (t' := t2) ho
      hd
  have but := Heap.SameBut.update s.heap a (Obj.putSet es1 t2)
  split
  · have pm := relayAll_perm t2 es1 (SetTable.grown
        es1.size)
    have fit3 := relayAll_fits t2 es1 (SetTable.grown es1.size)
    have rise3 := relayAll_ris t2 es1 (SetTable.grown es1.size)
    have led3 := relayAll_led t2 es1 (SetTable.grown es1.size)
    generalize relayAll t2 es1 (SetTable.grown es1.size) = Z at pm fit3 rise3 led3 ⊢
    obtain ⟨es2, t3, gave⟩ := Z
    dsimp only at pm fit3 rise3 led3 ⊢
    have same : es2.size = es1.size := by rw [← Array.length_toList, pm.length_eq, Array.length_toList]
    obtain ⟨L2, p2, g2⟩ := pair_perm pm g1
    refine wpAny_bind (hf0 _ _ _ (wpAny_bind (wpAny_storeSet_of ho1 rfl ?_ (fits_of_scanBound (by rw [same]; exact hb1)))))
    exact wpAny_pure (hR _ L2 (but.trans (Heap.SameBut.update _ a _)) ⟨_, es2, _, t3, store_at (es' := es2) (t' := t3) ho1 rfl, hx, rfl, g2, p2.nodup_iff.mpr nd, by rw [same]; exact hb1, fit3, rise3, led.imp id fun z => by rw [led3]; exact z⟩ p2)
  · exact wpAny_pure (hR _ L but ⟨_, es1, _, t2, ho1, hx, rfl, g1, nd, hb1, fit, rise, led⟩ (.refl _))
theorem add {x : Str} {u : Tok} {Q : Bool → Shared → Prop} (R : At P w s.heap a L) (room : L.length + 1 < scanBound)
    (hQ : ∀ b h' L', Heap.SameBut a s.heap h' → At P w h' a L' → (∀ y, y ∈ L' ↔ y ∈ L ∨ y = x) → L'.length ≤ L.length + 1 → Q b { s with heap := h' }) :
    wpAny (model P w) A (setAddHashed a (.str x u) ((tk P w).hash x)) Q E s := by
  obtain ⟨o, es, ep, t, ho, hx, hd, g, nd, hb, fit, rise, led⟩ := R
  have len : es.size = L.length := by rw [← Array.length_toList, g.length]
  have ky : (tk P w).is x (.str x u) = true := strKind_is P w x u
  have sc : (Value.str x u).scannable = true := rfl
  have el := elems g
  unfold setAddHashed
      setAddHashedIn
  refine wpAny_holding (wpAny_bind (wpAny_setState_of ho hd fit ?_))
  dsimp only
  rw [byScan_of sc hb el]
  simp only [↓reduceIte]
  unfold setAddByScan
  refine wpAny_bind (wpAny_bind (wpAny_rule (wpAny_bind (wpAny_setScan_of ky ho hd fit el ?_))))
  cases at_ : List.findIdx? (fun e => (tk P w).is x e.2) es.toList with
  | some j =>
    dsimp only
    obtain ⟨hj, pj, _⟩ := List.findIdx?_eq_some_iff_getElem.mp at_
    have mem : x ∈ L := (found g x).2 ⟨es.toList[j], List.getElem_mem hj, pj⟩
    exact wpAny_pure (wpAny_pure (hQ _ s.heap L (Heap.SameBut.refl a s.heap) ⟨o, es, ep, t, ho, hx, hd, g, nd, hb, fit, rise, led⟩ (fun y => ⟨.inl, fun z => z.elim id fun e => e ▸ mem⟩) (Nat.le_succ _)))
  | none =>
    dsimp only
    have out : x ∉ L := fun z => by
      obtain ⟨e, he, q⟩ := (found g x).1 z
      have c := List.findIdx?_eq_none_iff.mp at_ e he
      rw [q] at c
      cases c
    have told : ∀ (b : Bool) {s₁ : Shared} {Q' : Unit → Shared → Prop}, Q' () s₁ → wpAny (model P w) A (match b with | true => rule "set.scan.the-table-gave-way" | false => pure ()) Q' E s₁ := fun b s₁ Q' q => by
      cases b
      · exact wpAny_pure q
      · exact wpAny_rule q
    have pm := layNew_perm t es ((tk P w).hash x) (.str x u)
    have fit1 := layNew_fits t es ((tk P w).hash x) (.str x u)
    have rise1 := layNew_ris t es ((tk P w).hash x) (.str x u) rise
    have led1 := layNew_led t es ((tk P w).hash x) (.str x u)
    generalize layNew t es ((tk P w).hash x) (.str x u) = Z at pm fit1 rise1 led1 ⊢
    obtain ⟨es1, t1, was, gave⟩ := Z
    dsimp only at pm fit1 rise1 led1 ⊢
    rw [Array.toList_push] at pm
    have pc : es1.toList.Perm (((tk P w).hash x, Value.str x u) :: es.toList) := pm.trans (List.perm_append_singleton _ _)
    obtain ⟨L1, p1, g1⟩ := pair_perm pc (Paired.cons (⟨⟨u, rfl⟩, rfl⟩ : En P w ((tk P w).hash x, Value.str x u) x) g)
    have nd1 : L1.Nodup := p1.nodup_iff.mpr (List.nodup_cons.mpr ⟨out, nd⟩)
    have len1 : L1.length = L.length + 1 := by rw [p1.length_eq, List.length_cons]
    have size1 : es1.size = L.length + 1 := by rw [← Array.length_toList, g1.length, len1]
    have hb1 : es1.size < scanBound := by rw [size1]; exact room
    have ledt : w.params.followText "set-order" = true ∨ t1.led = true := led.imp id fun z => by rw [led1]; exact z
    have fin : ∀ b h' L', Heap.SameBut a s.heap h' → At P w h' a L' → L'.Perm L1 → Q b { s with heap := h' } := fun b h' L' sb r p => hQ b h' L' sb r (fun y => by
      rw [p.mem_iff, p1.mem_iff, List.mem_cons]
      exact Or.comm) (by rw [p.length_eq, len1]; exact Nat.le_refl _)
    refine wpAny_bind (told _ ?_)
    split
    · refine wpAny_bind ?_
      rw [hashByValue_scannable 8 sc]
      refine wpAny_pure (lay ?_ ho hx hd g1 nd1 hb1 ?_ ?_ ?_ ?_)
      · exact fun b s₁ Q' q => by cases b <;> first | exact wpAny_pure q | exact wpAny_rule q
      · first | (split <;> first | exact fit1 | exact SetTable.fits_plain_off fit1) | exact fit1
      · first | (split <;> exact rise1) | exact rise1
      · first | (split <;> exact ledt) | exact ledt
      · exact fun h' L' sb r p => by dsimp only; exact wpAny_pure (fin _ h' L' sb r p)
    · refine wpAny_bind ?_
      refine wpAny_pure ?_
      simp only [↓reduceIte]
      refine lay ?_ ho hx hd g1 nd1 hb1 fit1 rise1 ledt ?_
      · exact fun b s₁ Q' q => by cases b <;> first | exact wpAny_pure q | exact wpAny_rule q
      · exact fun h' L' sb r p => by dsimp only; exact wpAny_pure (fin _ h' L' sb r p)
/-- the loop of set.update over texts -/
theorem update {I : Addr} {fp wr : List Addr} {G : Array GenState → Array GenState → Prop} {n : Nat} {Pv : Nat → Value → Prop} {St : Nat → Shared → Prop} {R : Result → Shared → Prop} (W : WalksS P w A.in1 I fp wr G n Pv St) (c : Addr) (out : c ∉ fp) (xs : List Str) (hn : n = xs.length)
    (few : xs.length + 1 < scanBound) (val : ∀ i v, Pv i v → ∃ x t, xs[i]? = some x ∧ v = .str x t) : ∀ (k i : Nat) (s : Shared), n - i = k → i ≤ n → St i s → (∃ L, L.length ≤ i ∧ At P w s.heap c L ∧ ∀ y, y ∈ L ↔ y ∈ xs.take i) →
      (∀ s' L, Moved (c :: wr) G s s' → At P w s'.heap c L → (∀ y, y ∈ L ↔ y ∈ xs) → L.length ≤ n → R (.ok (.ret .none)) s') → codeAny (model P w) A (.builtin "set.update.loop" ⟨[.ref c, .ref I], []⟩) R s := by
  have cw : c ∉ wr := fun h => out (W.sub _ h)
  have more : ∀ b ∈ wr, b ∈ c :: wr := fun b hb => List.mem_cons_of_mem _ hb
  intro k
  induction k with
  | zero =>
    intro i s hk hi st ⟨L, hl, hS, hm⟩ hR
    have ein : i = n := by omega
    subst ein
    refine codeAny_builtin F.entry_set_update_loop
        ?_
    rw [Around.under_plainId F.plain_set_update_loop _] <;> skip
    refine wpAny_bind (m := pyNext (.ref I)) (W.done s _ _ st fun s' mv => ?_)
    rw [List.take_of_length_le (by omega)] at hm
    exact wpAny_pure (hR s' L (mv.mono more) (hS.moved fun o e => mv.heap c o cw e) hm hl)
  | succ k ih =>
    intro i s hk hi st ⟨L, hl, hS, hm⟩ hR
    have lt : i < n := by omega
    refine codeAny_builtin F.entry_set_update_loop
        ?_
    rw [Around.under_plainId F.plain_set_update_loop _] <;> skip
    refine wpAny_bind (m := pyNext (.ref I)) (W.item i s _ _ lt st fun v s' pv st' mv => ?_)
    obtain ⟨z, t, hz, rfl⟩ := val i v pv
    have hS' : At P w s'.heap c L := hS.moved fun o e => mv.heap c o cw e
    refine wpAny_bind (m := holding [Value.str z t] (setAdd c (.str z t))) (wpAny_holding ?_)
    unfold setAdd
    refine wpAny_holding (wpAny_bind ((tk P w).pyHash (k := z) (strKind_is _ _ _ _) ?_))
    refine add (s := { s' with toks := s'.toks + 1 }) hS' (by omega) fun b h' L2 sb hS2 mem hl2 => ?_
    have hm2 : ∀ y, y ∈ L2 ↔ y ∈ xs.take (i + 1) := fun y => by
      rw [mem y, hm y, List.take_add_one, hz, List.mem_append]
      simp
    refine wpAny_pure ⟨plainId_quiet F.plain_set_update_loop _, ih (i + 1) _ (by omega) lt (W.frame _ s' _ _ st' (Nat.le_succ _) fun b hb o e => ?_) ⟨L2, by omega, hS2, hm2⟩ fun s'' L3 mv2 hS3 hm3 hl3 => ?_⟩
    · rw [sb.2 b (fun q => out (q ▸ hb))]
      exact e
    · refine hR s'' L3 (Moved.trans W.gtrans ((mv.mono more).then_heap (Nat.le_succ _) fun b o hb e => ?_) mv2) hS3 hm3 hl3
      rw [sb.2 b (fun q => hb (q ▸ List.mem_cons_self))]
      exact e
abbrev emptyO (w : World) : Obj := { cls := .type "set", dict := none, data := .set #[] 0 (.fresh 0 0 (!w.params.followText "set-order")) }
theorem at_empty {h : Heap} {a : Addr} (ho : h.get? a = some (emptyO w)) : At P w h a [] := ⟨_, #[], 0, _, ho, ⟨rfl, rfl, rfl⟩, rfl, .nil, .nil, (by decide), (by rfl), List.Pairwise.nil, by
    show _ ∨ (!w.params.followText "set-order") =
        true
    cases w.params.followText
        "set-order"
    · exact .inr rfl
    · exact .inl rfl⟩
/-- set(xs), xs a list of texts -/
theorem made {l : Addr} {items : Array Value} (xs : List Str) {Q : Value → Shared → Prop} (hh : A.handled = none) (hl : s.heap.IsList l items) (it : StrsAre items.toList xs) (few : xs.length + 1 < scanBound)
    (h : ∀ (h' : Heap) (t : Nat) (L : List Str), At P w h' s.heap.objs.size L → (∀ y, y ∈ L ↔ y ∈ xs) → L.length ≤ xs.length → (∀ b o, s.heap.get? b = some o → h'.get? b = some o) → Q (.ref s.heap.objs.size) { s with heap := h', toks := t }) :
    wpAny (model P w) A (call (.type "set") [.ref l]) Q E s :=
        by
  have size : items.size = xs.length := by rw [← StrsAre.len_eq it, Array.length_toList]
  rcases F.called_set.mro with ⟨c, tl, hmro⟩
  have made := F.called_set.made
  have sub := F.called_set.sub
  refine wpAny_call (codeAny_of_tree (show wpAny _ _ (callAny (.type "set") _) _ _ _ from ?_))
  refine wpAny_pure ⟨Code.quiet_builtin _ (by decide +kernel), codeAny_builtin F.entry_type_call
      ?_⟩
  rw [Around.under_plain (weight_type_call_type "set" [.ref l] []) rfl] <;> skip
  have f1 := F.called_set.notType
  have f2 := F.called_set.canCreate
  have f3 := F.typeCall_set_1 (.ref l)
  repeat (any_goals (first | assumption |
      wp_step))
  refine codeAny_mono (code_set_led1 (.ref l) (E := E) (Q₁ := fun obj s₁ => obj = .ref s.heap.objs.size ∧ s₁ = { s with heap := s.heap.push (emptyO w) }) ⟨rfl, rfl⟩) fun r s₁ hr => ?_
  cases r with
  | error e => exact hr
  | ok fl =>
    cases fl with
    | ret obj =>
      obtain ⟨rfl, rfl⟩ := hr
      have here : (s.heap.push (emptyO w)).get? s.heap.objs.size = some (emptyO w) := Heap.get?_push_size _ rfl
      have ty : Shared.TypeIs { s with heap := s.heap.push (emptyO w) } (.ref s.heap.objs.size) "set" := ⟨_, here, rfl⟩
      have look := F.called_set.init.lookup
      have bind := F.called_set.init.bind (.ref s.heap.objs.size)
      repeat (any_goals (first | assumption |
          wp_step))
      refine codeAny_mono (codeAny_call_builtin (R := wants (fun r s₂ => r = .none ∧ ∃ h' t L, s₂ = { s with heap := h', toks := t } ∧ At P w h' s.heap.objs.size L ∧ (∀ y, y ∈ L ↔ y ∈ xs) ∧ L.length ≤ xs.length ∧
          (∀ b o, s.heap.get? b = some o → h'.get? b = some o)) E) F.called_set.init.plain F.entry_set_init (check_set_init_1 ty ?_)) fun r₂ s₂ hr₂ => ?_
      · obtain ⟨⟨ocls, odict, odata, oslots⟩, hol, hcl, nl, hdl⟩ := hl
        simp only at hcl hdl
        subst hcl hdl
        have hol' : (s.heap.push (emptyO w)).get? l = some { cls := .type "list", dict := odict, data := .seq items nl, slots := oslots } := Heap.get?_push_of_some _ hol
        have g1 := F.sub_list_set
        have g2 := F.sub_list_frozenset
        have g3 : (Value.type "list" == Value.type "dict") = false := by decide
        have hl1 : (s.heap.push (emptyO w)).IsList l items := ⟨_, hol', rfl, nl, rfl⟩
        unfold Builtin.«set.__init__» noKeywords
            Builtin.Frozenset.updateFrom
        generalize hPI : pyIter = PI
        wp_walk
        subst hPI
        refine wpAny_pyIter_list hl1 (wpAny_bind (wpAny_runValue ?_))
        have lS : l < s.heap.objs.size := Heap.lt_size hol
        have nI : l ≠ (s.heap.push (emptyO w)).objs.size := by
          rw [Heap.size_push]
          exact Nat.ne_of_lt (Nat.lt_succ_of_lt lS)
        have nS : s.heap.objs.size ∉ [(s.heap.push (emptyO w)).objs.size, l] := by
          rw [Heap.size_push]
          simp only [List.mem_cons, List.mem_singleton, List.not_mem_nil, or_false, not_or]
          exact ⟨Nat.ne_of_lt (Nat.lt_succ_self _), Nat.ne_of_gt lS⟩
        have val : ∀ (i : Nat) (v : Value), items[i]? = some v → ∃ x t, xs[i]? = some x ∧ v = .str x t := fun i v hv => by
          have hi : i < xs.length := by rw [← size]; exact (Array.getElem?_eq_some_iff.mp hv).1
          obtain ⟨t, e⟩ := SS.strs_at it i v (by rw [Array.getElem?_toList]; exact hv)
          refine ⟨xs[i], t, List.getElem?_eq_getElem hi, ?_⟩
          rw [e, List.getD_eq_getElem?_getD]
          rw [List.getElem?_eq_getElem hi] <;> rfl
        refine update ((Walks.list (by simp [hh]) _ l nI items).toS) s.heap.objs.size nS xs size few val (items.size - 0) 0 _ (by omega) (Nat.zero_le _) ⟨⟨_, Heap.get?_push_size _ rfl, rfl, rfl⟩, (hl1.push _)⟩ ⟨[], Nat.le_refl _, at_empty (Heap.get?_push_of_some _ here), fun y => ⟨(fun q => nomatch q), fun q => by simp at q⟩⟩ ?_
        intro s' L mv hS mem hlen
        obtain ⟨h', g4, d', t', os'⟩ := s'
        obtain rfl : g4 = s.gens := mv.gens
        obtain rfl : d' = s.drawn := mv.drawn
        obtain rfl : os' = s.os := mv.os
        rw [size] at hlen
        refine wpAny_pure (wpAny_pure ⟨rfl, h', t', L, rfl, hS, mem, hlen, fun b o e => ?_⟩)
        have b0 : b < s.heap.objs.size := Heap.lt_size e
        have b2 : b ≠ (s.heap.push (emptyO w)).objs.size := by
          rw [Heap.size_push]
          exact Nat.ne_of_lt (Nat.lt_succ_of_lt b0)
        refine mv.heap b o ?_ (Heap.get?_push_of_some _ (Heap.get?_push_of_some _ e))
        simp only [List.mem_cons, List.mem_singleton, List.not_mem_nil, or_false, not_or]
        exact ⟨Nat.ne_of_lt b0, b2⟩
      · cases r₂ with
        | error e => exact hr₂
        | ok fl₂ =>
          cases fl₂ with
          | ret r =>
            obtain ⟨rfl, h', t, L, rfl, q1, q2, q3, q4⟩ := hr₂
            repeat (any_goals (first | assumption |
                wp_step))
            exact h _ _ _ q1 q2 q3 q4
          | _ => exact hr₂.elim
    | _ => exact hr.elim
end
end Ts

set_option maxRecDepth 100000
set_option maxHeartbeats 3900000
namespace Ts
open PySem PySem.Spec PyProof.Rows L2
/-- the set of texts, over the hand layer -/
def SetT (P : Program) (w : World) (a : Addr) (L : List Str) : HO := .ext fun h => At P w h a L
theorem setT_ok {P : Program} {w : World} {H : Hp} {h : Heap} {a : Addr} {L : List Str} (R : At P w h a L) : ObjOk P w H h a (SetT P w a L) := by
  have ⟨o, _, _, _, ho, _⟩ := R
  exact ⟨R, ⟨o, ho⟩, fun h1 h2 p k => p.moved k⟩
section
variable {X : Cx}
/-- set(xs) -/
def rSet (K : PySem.W.Frag) (P : Program) (w : World) : List V → Hp → VK → Prop := fun vs H Q => ∃ (l : Addr) (xs : List Str), vs = [.ref l] ∧ SqL K H l (xs.map V.str) ∧ xs.length < 4000 ∧
  ∀ a L, H a = none → L.Nodup → (∀ y, y ∈ L ↔ y ∈ xs) → Q (.ref a) (upd H a (SetT P w a L))
theorem cr_set (hc : X.calm = true) : CallR X (.type "set") (rSet X.K X.prog X.w) := by
  intro pins s σ H vs us Q I
  intro r h
  obtain ⟨l, xs, rfl, hl, few, q⟩ := h
  rw [Vals.ref1 r]
  rcases I.list hl with ⟨its, rv, pl, _⟩
  refine made (P := X.prog) (w := X.w) xs (I.ok.hd hc) pl.isList (by simpa using rv.strs) (by unfold scanBound; omega) fun h' t L R mem len k => ?_
  exact ⟨.ref s.heap.objs.size, upd H s.heap.objs.size (SetT X.prog X.w s.heap.objs.size L), I.laid (t' := t) k (Nat.le_refl _) (setT_ok R), rfl, q _ L (I.hok.fresh (Nat.le_refl _)) (let ⟨_, _, _, _, _, _, _, _, n, _⟩ := R; n) mem⟩
theorem texts : ∀ {l : List Value} {P : Program} {w : World} {es : List (Int × Value)} {L : List Str}, l = es.map (·.2) → Paired (En P w) es L → StrsAre l L
  | _, P, w, [], _, e, .nil => by
    subst e
    exact .nil
  | _, P, w, e0 :: es, x :: L, e, .cons h r => by
    subst e
    obtain ⟨⟨u, h1⟩, _⟩ := h
    rw [List.map_cons, h1]
    exact .cons x u (texts rfl r)
/-- sorted(s) -/
def rSrt (P : Program) (w : World) : List V → Hp → VK → Prop := fun vs H Q => ∃ (a : Addr) (L : List Str), vs = [.ref a] ∧ H a = some (SetT P w a L) ∧ L.length < 64 ∧
  ∀ (ys : List Str) (p : Addr), ys.Perm L → ys.Nodup → sortedS ys = true → H p = none → Q (.ref p) (upd H p (.lst (ys.map V.str)))
theorem cr_srt (hc : X.calm = true) : CallR X (.builtin "sorted") (rSrt X.prog X.w) := by
  intro pins s σ H vs us Q I
  intro r h
  obtain ⟨a, L, rfl, ha, h64, q⟩ := h
  have R : At X.prog X.w s.heap a L := (I.hok a _ ha).1
  obtain ⟨o, es, ep, t, ho, hx, hd, g, nd, hb, fit, rise, led⟩ := R
  rw [Vals.ref1 r]
  have pX : X.A.handled = none := I.ok.hd hc
  refine Calls.call_function_entry kind_sorted plain_sorted entry_sorted (args_sorted1 _)
      ?_
  unfold Builtin.«sorted»
  refine wpAny_bind (m := checkCount "sorted" 1 1 _) ?_
  refine wpAny_pure ?_
  refine wpAny_bind (collect_set (A := X.A.in1) pX ⟨o, ho, hx.1, hd⟩ fit hb rise led fun s1 vs k1 hz g1 o1 pm => ?_)
  obtain ⟨es', pe, ev⟩ : ∃ es' : List (Int × Value), es'.Perm es.toList ∧ vs = es'.map (·.2) := by
    have self : ∀ l : List (Int × Value), Paired (fun (v : Value) (e : Int × Value) => v = e.2) (l.map (·.2)) l := fun l => by
      induction l with
      | nil => exact .nil
      | cons e r ih => exact .cons rfl ih
    obtain ⟨zs, pz, qz⟩ := pair_perm pm (self es.toList)
    have eq : ∀ {l : List Value} {zs : List (Int × Value)}, Paired (fun (v : Value) (e : Int × Value) => v = e.2) l zs → l = zs.map (·.2) := fun h => by
      induction h with
      | nil => rfl
      | cons h _ ih => rw [List.map_cons, h, ih]
    exact ⟨zs, pz, eq qz⟩
  obtain ⟨L', p', g'⟩ := pair_perm pe g
  have hS : StrsAre vs L' := texts ev g'
  have hvl : vs.length = L.length := by rw [StrsAre.len_eq hS, p'.length_eq]
  refine wpAny_bind (wpAny_newList ?_ (by rw [sizeLine_eq, hvl]; omega))
  have hoL : (s1.heap.push (seqObj "list" vs.toArray 0)).get? s1.heap.objs.size = some (seqObj "list" vs.toArray 0) := Heap.get?_push_size _
      rfl
  refine wpAny_bind (wpAny_holding (wpAny_call_entry slot_list_sort ⟨_, hoL, rfl⟩ entry_list_sort
    (list_sort_treeK strKind_oneLt (s := { s1 with heap := s1.heap.push (seqObj "list" vs.toArray 0) }) hoL hS.keysOf (fun v₁ v₂ rest e => keyKind_strs (by rw [← e]; exact hS)) (by rw [hvl]; exact h64) fun st' hp hs => ⟨_, rfl, ?_⟩) (args_list_sort _)))
  obtain ⟨ys, y1, y2, y3⟩ := sorted_out_str hS hp hs
  obtain ⟨c, hc'⟩ := sortedHeap_at (vs := vs) (out := (arrOf st').map (·.2)) hoL
  have yp : ys.Perm L := y2.trans p'
  have few : (ys.map V.str).length ≤ sizeLine := by rw [List.length_map, yp.length_eq, sizeLine_eq]; omega
  have hn : H s1.heap.objs.size = none := I.hok.fresh hz
  have old : ∀ b u, s.heap.get? b = some u → (sortedHeap (s1.heap.push (seqObj "list" vs.toArray 0)) s1.heap.objs.size vs ((arrOf st').map (·.2))).get? b = some u := fun b u e => by
    have q := k1 b u e
    have lt := Heap.lt_size q
    rw [sortedHeap_old (Nat.ne_of_lt lt) (by rw [size_push']; exact Nat.lt_succ_of_lt lt)]
    exact Heap.get?_push_of_some _
        q
  have J : Inv X pins σ (upd H s1.heap.objs.size (.lst (ys.map V.str))) { s with heap := sortedHeap (s1.heap.push (seqObj "list" vs.toArray 0)) s1.heap.objs.size vs ((arrOf st').map (·.2)), gens := s1.gens, drawn := s1.drawn, toks := s1.toks } :=
    I.call (ch := []) (Un.laid old hz hn) (I.hok.laid old hz ⟨few, ((arrOf st').map (·.2)).toList, c, vals_of_strs y1, by rw [Array.toArray_toList]; exact hc'⟩) (by rw [g1]; exact I.bare) (fun _ z => nomatch z)
  refine wpAny_pure ⟨_, rfl, .ref s1.heap.objs.size, _, ?_, rfl, q ys _ yp (yp.nodup_iff.mpr nd) y3 hn⟩
  cases s1
  cases s
  cases o1
  exact J
end
end Ts

set_option maxRecDepth 100000
set_option maxHeartbeats 3900000
namespace Lf
open PySem PySem.Spec PyProof.Rows L2 K
section
variable {X : Cx} {K : PySem.W.Frag} [Tabled K] {a b cx e : Expr} {es : List Expr} {τa τb τc τ : FT} {τs : FTa} {pos p : Pos} {op op' : CmpOp} {g g' : Int → Int → Bool}
/-! # a < b < c, of numbers -/
def fChain (g g' : Int → Int → Bool) (τa τb τc : FT) : FT := fun o P => τa o fun x o1 => τb o1 fun y o2 => match x, y with
  | .int i, .int j => if g i j = true then τc o2 fun z o3 => (match z with
      | .int k => P (.bool (g' j k)) o3
      | _ => False) else P (.bool false) o2
  | _, _ => False
theorem chain_up {σ : L2.St} {H : Hp} {Q : VK} (h : up K (fChain g g' τa τb τc) σ H Q) : tChain (rI0 fun i j => .bl (g i j)) (rI0 fun i j => .bl (g' i j)) (up K τa) (up K τb) (up K τc) σ H Q := by
  obtain ⟨c0, G, o, P, r, h, k⟩ := h
  refine ⟨c0, G, o, _, r, h, fun d o1 G1 v H1 p g1 r1 q => ⟨c0, G1, o1, _, r1, p, fun e o2 G2 u H2 p2 g2 r2 q2 => ?_⟩⟩
  split at p2
  · rename_i i j
    refine ⟨i, j, (q.same g2).intI, q2.intI, g i j, rfl, ?_⟩
    by_cases hg : g i j = true
    · rw [if_pos hg] at p2 ⊢
      refine ⟨c0, G2, o2, _, r2, p2, fun z o3 G3 w H3 p3 g3 r3 q3 => ?_⟩
      split at p3
      · rename_i m
        exact ⟨j, m, (q2.same g3).intI, q3.intI, k _ o3 G3 _ H3 p3 ((g1.trans g2).trans g3) r3 (.bl _)⟩
      · exact p3.elim
    · rw [if_neg hg] at p2 ⊢
      exact k _ o2 G2 _ H2 p2 (g1.trans g2) r2 (.bl _)
  · exact p2.elim
theorem fe_chain (ho : OpR X (compareOp op) (rI0 fun i j => .bl (g i j))) (ho' : OpR X (compareOp op') (rI0 fun i j => .bl (g' i j))) (ha : PE X a (up K τa)) (hb : PE X b (up K τb)) (hc : PE X cx (up K τc))
    (hm : lastMarks [op, op'] [b, cx] = false := by with_unfolding_all rfl) : PE X (.Compare a [op, op'] [b, cx] pos) (up K (fChain g g' τa τb τc)) := PE.imp (pe_chain ho ho' ha hb hc hm) fun _ _ _ => chain_up
theorem ft_chain (ho : OpR X (compareOp op) (rI0 fun i j => .bl (g i j))) (ho' : OpR X (compareOp op') (rI0 fun i j => .bl (g' i j))) (ha : PE X a (up K τa)) (hb : PE X b (up K τb)) (hc : PE X cx (up K τc))
    (hm : lastMarks [op, op'] [b, cx] = false := by with_unfolding_all rfl) : PT X (.Compare a [op, op'] [b, cx] pos) (upT K (fT (fChain g g' τa τb τc))) := PT.imp (pt_chain ho ho' ha hb hc hm) fun σ H Q h => chain_up (ft_bool h)
/-! # isinstance(x, T), T a built-in type -/
def tyD : PyData → String
  | .none => "NoneType"
  | .bool _ => "bool"
  | .int _ => "int"
  | .str _ => "str"
  | .list _ => "list"
  | .tuple _ => "tuple"
  | .dict _ => "dict"
theorem ty_rp {H : Hp} {v : V} {d : PyData} (h : Rp K H v d) : TyX K H v (.type (tyD d)) := by
  cases h with
  | non => exact .base .non
  | bl b => exact .base (.bl b)
  | int i => exact .base (.int i)
  | str x => exact .base (.str x)
  | lst h _ => exact .base (.lst h)
  | tup h _ =>
    rcases h with (h | ⟨o, h⟩) | ⟨o, its, n, hk, hc, _⟩
    · exact .base (.tup h)
    · exact .fTuple h
    · exact .kTuple hk hc
  | dic h _ => exact .base (.dK h)
  | dit h _ _ => exact .base (.dT h)
def fIsi (T : String) (τ : FT) : FT := fun o P => τ o fun d o1 => ∃ b, kitB (tyD d) T = some b ∧ P (.bool b) o1
theorem fe_isi {T : Str} {tn : String} {q : Pos} (hK : X.K = K) (hg : Gl X "isinstance") (hm : X.mg "isinstance" = none) (ha : PE X e (up K τ)) (hg2 : Gl X T) (hm2 : X.mg T = none) (hb : bootBuiltins T = some (.type tn)) (hn : T ≠ "__name__" := by decide) (hd : (T == ("__debug__" : Str)) = false := by decide)
    (he : starEach [e, .Name T q] X.env = (false, eval e X.env) :: starEach [.Name T q] X.env := by rfl) (hpl : (backTo pos (starEach [.Name T q] X.env)).any (·.1) = false := by rfl) (he2 : starEach [.Name T q] X.env = (false, eval (.Name T q) X.env) :: starEach [] X.env := by rfl) :
    PE X (.Call (.Name "isinstance" p) [e, .Name T q] [] pos) (up K (fIsi tn τ)) := by
  subst hK
  exact PE.imp (pe_callB call_isi hg hm (by decide +kernel) (pa_cons ha (pa_cons (pe_bltn (v := .ty tn) hg2 hm2 hb rfl hn hd) pa_nil he2) he) (by decide) (by decide) he hpl) fun σ H Q ⟨c, G, om, P, r, h, k⟩ =>
    ⟨c, G, om, _, r, h, fun d o1 G1 v H1 ⟨b, hb, p⟩ g r1 q => ⟨v, .ty tn, .type (tyD d), .type tn, b, rfl, .ty tn, ty_rp (q.same r1.sub), kit_ty hb, k _ o1 G1 _ H1 p g r1 (.bl _)⟩⟩
/-! # [.., *x, ..] -/
def fStar (τ : FT) (τs : FTa) : FTa := fun o P => τ o fun d o1 => match seqD d with
  | some xs => τs o1 fun ys o2 => P (xs ++ ys) o2
  | none => False
theorem fa_star {sp : Pos} (he : PE X e (up K τ)) (hr : PA X es (upA K τs)) (hK : X.K = K := by rfl) (hs : starEach (.Starred e sp :: es) X.env = (true, eval e X.env) :: starEach es X.env := by rfl) : PA X (.Starred e sp :: es) (upA K (fStar τ τs)) := by
  subst hK
  exact PA.imp (StX.pa_star he hr hs) fun σ H Q ⟨c, G, o, P, r, h, k⟩ => ⟨c, G, o, _, r, h, fun d o1 G1 v H1 p g r1 q => by
    cases e1 : seqD d with
    | none => rw [e1] at p; exact p.elim
    | some xs =>
      rw [e1] at p
      obtain ⟨a, ys, rfl, h1, h2⟩ := seq_v q e1
      refine ⟨a, ys, rfl, h1.elim (fun z => .inr (sqL_same r1.sub z)) fun z => .inl (sqT_same r1.sub z), c, G1, o1, _, r1, p, fun zs o2 G2 ws H2 p2 g2 r2 q2 => ?_⟩
      exact k _ o2 G2 _ H2 p2 (g.trans g2) r2 ((h2.same g2).append q2)⟩
/-! # sorted(set(x)) of texts -/
def fSortSet (τs : FTa) : FT := fun o P => τs o fun ds o1 => match ds with
  | [.list es] => ∃ xs : List Str, es = xs.map .str ∧ xs.length < 4000 ∧ (∃ L : List Str, L.length < 64 ∧ ∀ x ∈ xs, x ∈ L) ∧ ∀ ys : List Str, ys.Nodup → sortedS ys = true → (∀ y, y ∈ ys ↔ y ∈ xs) → P (.list (ys.map .str)) o1
  | _ => False
theorem nodup_le {α : Type} : ∀ {l m : List α}, l.Nodup → (∀ x ∈ l, x ∈ m) → l.length ≤ m.length
  | [], _, _, _ => Nat.zero_le
      _
  | a :: l, m, n, h => by
    obtain ⟨s, t, rfl⟩ := List.append_of_mem (h a List.mem_cons_self)
    have n' := List.nodup_cons.mp n
    have := nodup_le (l := l) (m := s ++ t) n'.2 fun x hx => by
      have := h x (List.mem_cons_of_mem _ hx)
      rcases List.mem_append.mp this with z | z
      · exact List.mem_append_left _
            z
      · obtain z | z := List.mem_cons.mp z
        · rw [z] at hx
          exact absurd hx n'.1
        · exact List.mem_append_right _ z
    rw [List.length_append] at this
    rw [List.length_cons, List.length_append, List.length_cons]
    omega
theorem fo_sortSet {p' pos' : Pos} (hK : X.K = K) (hc : X.calm = true) (hg : Gl X "sorted") (hm : X.mg "sorted" = none) (hg2 : Gl X "set") (hm2 : X.mg "set" = none) (ha : PA X [e] (upA K τs)) (he : starEach [e] X.env = (false, eval e X.env) :: starEach [] X.env := by rfl)
    (he2 : starEach [Expr.Call (.Name "set" p') [e] [] pos'] X.env = (false, eval (.Call (.Name "set" p') [e] [] pos') X.env) :: starEach [] X.env := by rfl) :
    PE X (.Call (.Name "sorted" p) [.Call (.Name "set" p') [e] [] pos'] [] pos) (upO K (fSortSet τs)) := by
  subst hK
  exact PE.imp (pe_callB (Ts.cr_srt hc) hg hm PyProof.Rows.boot_sorted (pa_cons (pe_callTy (Ts.cr_set hc) hg2 hm2 (by decide +kernel) ha (by decide) (by decide) he rfl) pa_nil he2) (by decide) (by decide) he2 rfl) fun σ H Q ⟨c, G, om, P, r, h, k⟩ => ⟨c, G, om, _, r, h, fun ds o1 G1 vs H1 p g r1 q => by
    split at p
    · rename_i es
      obtain ⟨v, rfl, hv⟩ := q.one
      obtain ⟨xs, rfl, few, ⟨L0, l64, sub⟩, pp⟩ := p
      obtain ⟨a, ys, rfl, h1, h2⟩ := hv.lstI
      rw [strs_rp h2] at h1
      refine ⟨a, xs, rfl, SqL.of (r1.sub _ _ h1), few, fun b L hb nd mem => ?_⟩
      refine ⟨b, L, rfl, upd_same, Nat.lt_of_le_of_lt (nodup_le nd fun x hx => sub x ((mem x).mp hx)) l64, fun zs p2 pm nz so hp2 => ?_⟩
      obtain ⟨r2, g2⟩ := r1.alloc hb (Ts.SetT X.prog X.w b L)
      obtain ⟨r3, m1, m2, m3⟩ := r2.mine hp2 (.lst (zs.map V.str))
      exact k _ o1 _ p2 _ (pp zs nz so fun y => (pm.mem_iff).trans (mem y)) (g.trans g2) r3 ⟨m1, m2, _, upd_same, rp_strs zs⟩ m3
    · exact p.elim⟩
end
end Lf

set_option maxRecDepth 100000
set_option maxHeartbeats 3900000
namespace K
open PySem PySem.Spec PyProof.Rows L2
/-! ### a tuple by 1, by 0 -/
theorem tup_by1 (l : Addr) (items : Array Value) (n : Nat) (dd : Option Addr) (sl : Array (Option Value)) (u : Tok) :
    Meets (Builtin.«tuple.__mul__» ⟨[.ref l, .int 1 u], []⟩) (fun _ R s => s.heap.get? l = some { cls := .type "tuple", dict := dd, data := .seq items n, slots := sl } ∧ R (.ok (.ret (Value.ref l))) s) :=
  .of_wp fun prog w A R s h =>
      by
    rcases s with ⟨hp, g, d, tk, os⟩
    obtain ⟨hl, h⟩ := h
    have f1 := AutoSeq1.idx_int
    have c1 : (items.isEmpty || (1 : Int) == 1) = true := by simp
    wp_walk using wpAny_loadPart'
        hl
    repeat (first
      | (refine wpAny_ite_false (decide_eq_false (by decide)) ?_; wp_walk using wpAny_loadPart' hl)
      | (refine wpAny_ite_true (decide_eq_true c1) ?_; wp_walk using wpAny_loadPart' hl))
    exact ⟨_, rfl, h⟩
theorem tup_by0 (l : Addr) (items : Array Value) (n : Nat) (dd : Option Addr) (sl : Array (Option Value)) (u : Tok) (hi : items.isEmpty = false) :
    Meets (Builtin.«tuple.__mul__» ⟨[.ref l, .int 0 u], []⟩) (fun _ R s => s.heap.get? l = some { cls := .type "tuple", dict := dd, data := .seq items n, slots := sl } ∧
      R (.ok (.ret (Value.ref s.heap.objs.size))) { s with heap := s.heap.push { cls := Value.type "tuple", data := Data.seq #[] }, toks := s.toks }) :=
  .of_wp fun prog w A R s h =>
      by
    rcases s with ⟨hp, g, d, tk, os⟩
    obtain ⟨hl, h⟩ := h
    have f1 := AutoSeq1.idx_int
    have c1 : (items.isEmpty || (0 : Int) == 1) = false := by rw [hi]; decide
    have c2 : (decide ((0 : Int) ≤ 0) || items.isEmpty) = true := rfl
    wp_walk using wpAny_loadPart'
        hl
    repeat (first
      | (refine wpAny_ite_false (decide_eq_false (by decide)) ?_; wp_walk using wpAny_loadPart' hl)
      | (refine wpAny_ite_false (decide_eq_false (by rw [c1]; exact Bool.false_ne_true)) ?_; wp_walk using wpAny_loadPart'
          hl)
      | (refine wpAny_ite_true (decide_eq_true c2) ?_; wp_walk using wpAny_loadPart' hl))
    exact ⟨_, rfl, h⟩
section
variable {X : Cx}
/-- t * k of a tuple that is not empty, k from 0 on -/
def rTupN (K : PySem.W.Frag) : R2 := fun x y H Q => ∃ l k xs, x = .ref l ∧ y = .int k ∧ SqT K H l xs ∧ xs ≠ [] ∧ 0 ≤ k ∧ k ≤ 1000 ∧ xs.length ≤ 1000 ∧ (k = 1 → Q (.ref l) H) ∧ ∀ p, H p = none → Q (.ref p) (upd H p (.tup (List.replicate k.toNat xs).flatten))
theorem op_tupN : OpR X (binaryOp .Mult) (rTupN X.K) := by
  intro pins s σ H x y v u Q I rx
  intro ry h
  obtain ⟨l, k, xs, rfl, rfl, hT, hne, h1, h2, hz, q1, q⟩ := h
  by_cases big : 2 ≤ k
  · exact op_repT pins s σ H _ _ v u Q I rx ry ⟨l, k, xs, rfl, rfl, hT, hne, big, h2, hz, fun p hp => q p hp⟩
  cases rx
  obtain ⟨t, rfl⟩ := ry
  rcases I.tuple hT with ⟨its, r, ⟨⟨cls, dd, data, sl⟩, ho, hc, n, hd⟩, hs⟩
  simp only at hc hd
  subst hc hd
  have hn : its ≠ [] := by
    intro none_left
    apply hne
    have as_long : xs.length = its.length := r.length
    rw [none_left] at as_long
    match xs, as_long with
    | [], _ => rfl
  have hi : its.toArray.isEmpty = false :=
      by
    cases its with
    | nil => exact absurd rfl hn
    | cons a b => rfl
  by_cases one : k = 1
  · subst one
    refine wpAny_binaryOp_repeat_ref (T := "tuple") (U := "int") (by decide) ⟨_, ho, rfl⟩ (fun s' => typeIs_int s' 1 t) noFill_tuple_mul F.fills_int_mul F.slot_int_rmul repeat_tuple F.slot_int_index.lookup
      (call_meets F.slot_int_rmul (typeIs_int s 1 t) F.entry_int_rmul (F.args_int_rmul_2 _ _) (int_rmul_tuple 1 t l its.toArray n dd sl)
        ⟨ho, rfl, ⟨_, ho, rfl⟩, call_meets F.slot_tuple_mul ⟨_, ho, rfl⟩ F.entry_tuple_mul (F.args_tuple_mul_2 _ _) (tup_by1 l its.toArray n dd sl t) ⟨ho, ?_⟩⟩)
    exact ⟨.ref l, H, I, rfl, q1 rfl⟩
  · obtain rfl : k = 0 := by omega
    refine wpAny_binaryOp_repeat_ref (T := "tuple") (U := "int") (by decide) ⟨_, ho, rfl⟩ (fun s' => typeIs_int s' 0 t) noFill_tuple_mul F.fills_int_mul F.slot_int_rmul repeat_tuple F.slot_int_index.lookup
      (call_meets F.slot_int_rmul (typeIs_int s 0 t) F.entry_int_rmul (F.args_int_rmul_2 _ _) (int_rmul_tuple 0 t l its.toArray n dd sl)
        ⟨ho, rfl, ⟨_, ho, rfl⟩, call_meets F.slot_tuple_mul ⟨_, ho, rfl⟩ F.entry_tuple_mul (F.args_tuple_mul_2 _ _) (tup_by0 l its.toArray n dd sl t hi) ⟨ho, ?_⟩⟩)
    refine ⟨.ref s.heap.objs.size, _, I.laid (t' := s.toks) (o := .tup []) (fun b ob q => Heap.get?_push_of_some _ q) (Nat.le_refl _) ⟨Nat.zero_le _, [], .nil, IsTup.new _ _⟩, rfl, q _ (I.hok.fresh (Nat.le_refl _))⟩
end
end K

set_option maxRecDepth 100000
set_option maxHeartbeats 3900000
namespace Lf
open PySem PySem.Spec PyProof.Rows L2 K
section
variable {X : Cx} {K : PySem.W.Frag} [Tabled K] {a b e kx vx tg iter : Expr} {ifs : List Expr} {scope : Scope} {own : List (Str × Nat)} {τa τb τ tk tv : FT} {τs : FTa} {ι : FI} {γ : FGt} {S : List Nat} {tt : FTt} {pos p : Pos}
/-! # dict(d), a copy -/
def fDictOf (τs : FTa) : FT := fun o P => τs o fun ds o1 => match ds with
  | [.dict kvs] => simpleD kvs ∧ P (.dict kvs) o1
  | _ => False
theorem fo_dictOf (hg : Gl X "dict") (hm : X.mg "dict" = none) (ha : PA X [e] (upA K τs)) (he : starEach [e] X.env = (false, eval e X.env) :: starEach [] X.env := by rfl) : PE X (.Call (.Name "dict" p) [e] [] pos) (upO K (fDictOf τs)) :=
  PE.imp (pe_callTy call_dictD hg hm (by decide +kernel) ha (by decide) (by decide) he rfl) fun σ H Q ⟨c, G, om, P, r, h, k⟩ => ⟨c, G, om, _, r, h, fun ds o1 G1 vs H1 p g r1 q => by
    split at p
    · rename_i kvs
      obtain ⟨v, rfl, hv⟩ := q.one
      obtain ⟨a, es, rfl, h1, h2⟩ := dic_simple hv p.1
      refine ⟨a, es, rfl, .inl (r1.sub _ _ h1), fun b hb => ?_⟩
      obtain ⟨r3, m1, m2, m3⟩ := r1.mine hb (.dK es)
      exact k _ o1 G1 b _ p.2 g r3 ⟨m1, m2, _, upd_same, h2⟩ m3
    · exact p.elim⟩
/-! # t * n, a tuple again and again -/
def fRepT : Fr2 := fun x y o P => match x, y with
  | .tuple ds, .int n => ds ≠ [] ∧ ds.length ≤ 1000 ∧ 0 ≤ n ∧ n ≤ 1000 ∧ P (.tuple (List.replicate n.toNat ds).flatten) o
  | _, _ => False
theorem RpAll.rep {G : Hp} {xs : List V} {ds : List PyData} (h : RpAll K G xs ds) : ∀ n : Nat, RpAll K G (List.replicate n xs).flatten (List.replicate n ds).flatten
  | 0 => .nil
  | n + 1 => by
    rw [List.replicate_succ]
    rw [List.replicate_succ, List.flatten_cons, List.flatten_cons]
    exact h.append (RpAll.rep h n)
theorem fr_repT : FR2 K (rTupN K) fRepT := fun c G o σ H x y d e P Q r hx hy h w => by
  unfold fRepT at h
  split at h
  · rename_i ds n
    obtain ⟨ne, l, n0, n1, pp⟩ := h
    obtain ⟨a, xs, rfl, h1, h2⟩ := hx.tupI
    refine ⟨a, n, xs, rfl, hy.intI, sqT_same r.sub h1, fun z => ne ?_, n0, n1, by rw [h2.len]; exact l, fun e => ?_, fun p hp => ?_⟩
    · exact List.eq_nil_of_length_eq_zero (by rw [← h2.len, z]; rfl)
    · subst e
      refine w _ o G _ H pp (Same.refl G) r (.tup h1 ?_)
      have : (List.replicate (1 : Int).toNat ds).flatten = ds := by show ([ds] : List (List PyData)).flatten = ds; simp
      rw [this]
      exact h2
    · obtain ⟨r2, g2⟩ := r.alloc hp (.tup (List.replicate n.toNat xs).flatten)
      exact w _ o _ _ _ pp g2 r2 (.tup (SqT.of upd_same) ((h2.rep _).same g2))
  · exact h.elim
theorem fe_repT (hK : X.K = K) (ha : PE X a (up K τa)) (hb : PE X b (up K τb)) : PE X (.BinOp a .Mult b pos) (up K (fOp fRepT τa τb)) := by
  subst hK
  exact fe_op op_tupN fr_repT ha hb
end
/-! # {k: v for x in it} -/
section
variable {X : Cx} {K : PySem.W.Frag} [Tabled K] {kx vx tg iter : Expr} {ifs : List Expr} {scope : Scope} {own : List (Str × Nat)} {tk tv : FT} {ι : FI} {γ : FGt} {S : List Nat} {tt : FTt} {pos : Pos}
def fDc (vs : List Nat) (ι : FI) (γ : FGt) (tt : FTt) (tk tv : FT) : FT := fun o P => ι o fun ds o1 => ds.length < sizeLine ∧ ∃ I : Nat → List (PyData × PyData) → Om → Prop, I 0 [] (o1.wipe vs) ∧
  (∀ i acc d o, ds[i]? = some d → I i acc o → γ d o fun o2 => tt o2 fun b o3 => if b = true then tk o3 fun y o4 => tv o4 fun z o5 => ∃ k, keyOf y = some k ∧ I (i + 1) (putD k z acc) (o5.wipe vs) else I (i + 1) acc (o3.wipe vs)) ∧ ∀ acc o, I ds.length acc o → P (.dict acc) o
theorem putD_len {k : Key} {d : PyData} {kvs : List (PyData × PyData)} : (putD k d kvs).length ≤ kvs.length + 1 := by
  unfold putD
  split
  · rw [List.length_map]; omega
  · rw [List.length_append]; exact Nat.le_refl _
theorem dc_up {vs : List Nat} {σ : L2.St} {H : Hp} {Q : VK} (sub : ∀ j ∈ S, j ∈ vs) (h : upO K (fDc vs ι γ tt tk tv) σ H Q) : tDc (upI K ι) (upG K S γ) (upT K tt) (up K tk) (up K tv) vs σ H Q := by
  obtain ⟨c, G, o, P, r, t, k⟩ := h
  refine ⟨c, G, o, _, r, t, fun ds o1 G1 J H1 ⟨hn, I, i0, is, id⟩ g r1 fw D hD => ?_⟩
  have f1 := fr0 r1 hD
  have nt := r1.tabs.none hD
  refine lc_out (Qd := fun H' => Q (.ref D) H') fw _ (fun i H' => ∃ G2 o2 acc accV, Same G1 G2 ∧ Rs K (c.hold D (.dK accV)) G2 (Om.wipe o2 vs) (L2.wipe σ vs) H' ∧ RpK K G2 accV acc ∧ acc.length ≤ i ∧ I i acc (Om.wipe o2 vs)) ?_ (fun i H' _ ⟨G2, o2, acc, accV, g2, r2, _⟩ => g2.trans r2.sub) ?_ ?_
  · have m := r1.mine hD (.dK [])
    have fr : Free c G1 o1 σ D := f1
    exact ⟨G1, o1, [], [], Same.refl G1, Rs.wipe (m.1.hold f1 upd_same) vs, .nil, Nat.le_refl _, i0⟩
  · rintro i x H2 H3 hi ⟨G2, o2, acc, accV, g2, r2, ra, la, hI⟩ y
    obtain ⟨d, G3, e, g3, r3, q3⟩ := y.keep g2 r2
    refine ⟨_, G3, _, _, d, r3, q3, is i acc d _ e hI, fun o4 G4 σ4 H4 p4 g4 r4 hS hl => ⟨by rw [wipe_eq hS hl sub, wipe_wipe], _, G4, o4, _, r4, p4, fun b o5 G5 H5 p5 g5 r5 => ?_⟩⟩
    have e4 : L2.wipe σ4 vs = L2.wipe σ vs := by rw [wipe_eq hS hl sub, wipe_wipe]
    have back : ∀ {o' G' H'}, Rs K (c.hold D (.dK accV)) G' o' σ4 H' → Rs K (c.hold D (.dK accV)) G' (o'.wipe vs) (L2.wipe σ vs) H' := fun {o' G' H'} r' => by
      have := Rs.wipe r' vs
      rwa [e4] at this
    cases b with
    | false =>
      simp only [Bool.false_eq_true, if_false] at p5 ⊢
      exact ⟨G5, o5, acc, accV, ((g2.trans g3).trans g4).trans g5, back r5, ((RpK.same g3 ra).same g4).same g5, by omega, p5⟩
    | true =>
      simp only [if_true] at p5 ⊢
      refine ⟨_, G5, o5, _, r5, p5, fun yd o6 G6 yv H6 p6 g6 r6 q6 => ⟨_, G6, o6, _, r6, p6, fun zd o7 G7 zv H7 ⟨kk, ek, p7⟩ g7 r7 q7 => ?_⟩⟩
      obtain ⟨r8, f8, h8⟩ := (back r7).unhold f1.g0 f1.h0 f1.t nt
      have ra7 : RpK K G7 accV acc := ((((RpK.same g3 ra).same g4).same g5).same g6).same g7
      have gl := putD_len (k := kk) (d := zd) (kvs := acc)
      exact ⟨accV, kk, key_v q6 ek, h8, by rw [ra7.len]; exact Nat.lt_of_le_of_lt la (Nat.lt_trans hi hn), G7, o7, putD kk zd acc, putK accV kk zv, (((((g2.trans g3).trans g4).trans g5).trans g6).trans g7), r8.held (.dK (putK accV kk zv)) f8 h8 (.inr ⟨_, rfl⟩), ra7.put q7, by omega, p7⟩
  · rintro H2 ⟨G2, o2, acc, accV, g2, r2, ra, la, hI⟩
    obtain ⟨r7, f7, h7⟩ := r2.unhold f1.g0 f1.h0 f1.t nt
    have e0 : (o2.wipe vs).wipe vs = o2.wipe vs := om_wipe2 o2 fun j h => h
    have r8 : Rs K c G2 (o2.wipe vs) σ H2 := by
      have : Rs K c G2 ((o2.wipe vs).wipe vs) (L2.wipe σ vs) H2 := by rw [e0]; exact r7
      have := Rs.around (σ' := σ) this rfl
      rwa [e0] at this
    refine k _ _ G2 D H2 (id _ _ hI) (g.trans g2) r8 ⟨f7.g, f7.h0, accV, h7, ra⟩ fun j e1 h1 h2 => ?_
    exact f7.ap j e1 h1 (by rw [wipe_out (wipe_off h1)]; exact h2)
theorem fo_dc (hc : X.calm = true) (hN : X.N.Nodup) (hi : PI X tg iter (upI K ι)) (ok : BlkOk X.N X.env.scope scope own)
    (hg : ∀ (s : Shared) (H : Hp) (C : Addr) (cl : List (Str × Addr)) (fp : List Addr), PG (X.blk s H scope (compEnvC scope cl C X.env) fp) tg (upG K S γ)) (ht : ∀ (s : Shared) (H : Hp) (C : Addr) (cl : List (Str × Addr)) (fp : List Addr), PTs (X.blk s H scope (compEnvC scope cl C X.env) fp) ifs (upT K tt))
    (hk : ∀ (s : Shared) (H : Hp) (C : Addr) (cl : List (Str × Addr)) (fp : List Addr), PE (X.blk s H scope (compEnvC scope cl C X.env) fp) kx (up K tk))
    (he : ∀ (s : Shared) (H : Hp) (C : Addr) (cl : List (Str × Addr)) (fp : List Addr), PE (X.blk s H scope (compEnvC scope cl C X.env) fp) vx (up K tv)) (sub : ∀ j ∈ S, j ∈ own.map (·.2)) (hs : ∀ x, foldedSetIterable iter X.env x = pure x := by intro _; rfl) :
    PE X (.DictComp kx vx [⟨tg, iter, ifs, 0⟩] scope pos) (upO K (fDc (own.map (·.2)) ι γ tt tk tv)) := PE.imp (pe_dc hc hN hi ok hg ht hk he hs) fun _ _ _ => dc_up sub
theorem fs_setDcO {i : Nat} {y : Str} {py : Pos} {spos : Pos} (hc : X.calm = true) (hN : X.N.Nodup) (hy : X.N[i]? = some y) (hyl : X.env.scope.names.lookup y = some .local)
    (hsw : swapsWith (.DictComp kx vx [⟨tg, iter, ifs, 0⟩] scope pos) (some (.Name y py)) spos.line X.env = pure true) (hi : PI X tg iter (upI K ι)) (ok : BlkOk X.N X.env.scope scope own)
    (hg : ∀ (s : Shared) (H : Hp) (C : Addr) (cl : List (Str × Addr)) (fp : List Addr), PG (X.blk s H scope (compEnvC scope cl C X.env) fp) tg (upG K S γ)) (ht : ∀ (s : Shared) (H : Hp) (C : Addr) (cl : List (Str × Addr)) (fp : List Addr), PTs (X.blk s H scope (compEnvC scope cl C X.env) fp) ifs (upT K tt))
    (hk : ∀ (s : Shared) (H : Hp) (C : Addr) (cl : List (Str × Addr)) (fp : List Addr), PE (X.blk s H scope (compEnvC scope cl C X.env) fp) kx (up K tk))
    (he : ∀ (s : Shared) (H : Hp) (C : Addr) (cl : List (Str × Addr)) (fp : List Addr), PE (X.blk s H scope (compEnvC scope cl C X.env) fp) vx (up K tv)) (sub : ∀ j ∈ S, j ∈ own.map (·.2)) (hs : ∀ x, foldedSetIterable iter X.env x = pure x := by intro _; rfl) :
    PS X (.Assign [.Name y py] (.DictComp kx vx [⟨tg, iter, ifs, 0⟩] scope pos) spos) (upS K (fSetO i (fDc (own.map (·.2)) ι γ tt tk tv))) := PS.asg (ps_setDc hc hN hy hyl hsw hi ok hg ht hk he hs) fun _ _ _ => dc_up sub
end
end Lf

set_option maxRecDepth 100000
set_option maxHeartbeats 3900000
namespace Dr
open PySem PySem.Spec PyProof.Rows L2 K Lf
/-! # states: names with numbers and rows -/
inductive Cel where
  | num (i : Int)
  | row (xs : List Int)
def Cel.d : Cel → PyData
  | .num i => .int i
  | .row xs => .tuple (xs.map .int)
abbrev Sta := List (Str × Cel)
def Sta.kvs (s : Sta) : List (PyData × PyData) := s.map fun p => (.str p.1, p.2.d)
def Sta.d (s : Sta) : PyData := .dict s.kvs
def Sta.get (s : Sta) (y : Str) : Option Cel := (s.find? fun p => y == p.1).map (·.2)
theorem Sta.look (s : Sta) (y : Str) : lookK (.inr y) s.kvs = (s.get y).map Cel.d := by
  induction s with
  | nil => rfl
  | cons a r ih =>
    show lookK (.inr y) ((.str a.1, a.2.d) :: Sta.kvs r) = _
    rw [look_cons]
    unfold Sta.get
    rw [List.find?_cons]
    by_cases h : (y == a.1) = true
    · rw [if_pos (show isKey (.inr y) (.str a.1) = true from h), h]
      rfl
    · rw [if_neg (show ¬ isKey (.inr y) (.str a.1) = true from h), (Bool.not_eq_true _).mp h]
      exact ih
def Sta.num (s : Sta) (y : Str) : Int := match s.get y with
  | some (.num i) => i
  | _ => 0
def Sta.rowOf (s : Sta) (y : Str) : List Int := match s.get y with
  | some (.row xs) => xs
  | _ => []
def Sta.put (s : Sta) (x : Str) (c : Cel) : Sta := if (s.any fun p => x == p.1) = true then s.map (fun p => if (x == p.1) = true then (p.1, c) else p) else s ++ [(x, c)]
theorem Sta.put_kvs (s : Sta) (x : Str) (c : Cel) : putD (.inr x) c.d s.kvs = (s.put x c).kvs := by
  unfold putD Sta.put Sta.kvs
  have e : ((s.map fun p => (PyData.str p.1, p.2.d)).any fun p => isKey (.inr x) p.1) = s.any fun p => x == p.1 := by
    rw [List.any_map]
    rfl
  rw [e]
  split
  · rw [List.map_map, List.map_map]
    refine List.map_congr_left fun p _ => ?_
    show (if (x == p.1) = true then (PyData.str p.1, c.d) else (PyData.str p.1, p.2.d)) = (fun p : Str × Cel => (PyData.str p.1, p.2.d)) (if (x == p.1) = true then (p.1, c) else p)
    split <;> rfl
  · rw [List.map_append]
    rfl
/-- of these names, each in its kind -/
structure Sta.Fit (h : Hd) (s : Sta) : Prop where
  num : ∀ x ∈ h.nums, ∃ i, s.get x = some (.num i)
  row : ∀ x ∈ h.rows, ∃ xs, s.get x = some (.row xs)
  sm : ∀ x i, s.get x = some (.num i) → i.natAbs ≤ 1000
  few : ∀ x xs, s.get x = some (.row xs) → xs.length ≤ 1000
theorem Sta.Fit.less {h : Hd} {s : Sta} (f : s.Fit h) (x : Str) : (s.num x).natAbs ≤ 1000 := by
  unfold Sta.num
  cases e : s.get x with
  | none => exact Nat.zero_le _
  | some c =>
    cases c with
    | num i => exact f.sm x i e
    | row xs => exact Nat.zero_le _
theorem Sta.Fit.small {h : Hd} {s : Sta} (f : s.Fit h) (x : Str) : (s.num x).natAbs ≤ 1000000 := Nat.le_trans (f.less x) (by decide)
theorem Sta.Fit.short {h : Hd} {s : Sta} (f : s.Fit h) (x : Str) : (s.rowOf x).length ≤ 1000 := by
  unfold Sta.rowOf
  cases e : s.get x with
  | none => exact Nat.zero_le _
  | some c =>
    cases c with
    | num i => exact Nat.zero_le _
    | row xs => exact f.few x xs e
theorem Sta.Fit.numAt {h : Hd} {s : Sta} (f : s.Fit h) {x : Str} (hx : x ∈ h.nums) : lookK (.inr x) s.kvs = some (.int (s.num x)) := by
  obtain ⟨i, e⟩ := f.num x hx
  rw [s.look, e]
  unfold Sta.num
  rw [e]
  rfl
theorem Sta.Fit.rowAt {h : Hd} {s : Sta} (f : s.Fit h) {x : Str} (hx : x ∈ h.rows) : lookK (.inr x) s.kvs = some (.tuple ((s.rowOf x).map .int)) := by
  obtain ⟨i, e⟩ := f.row x hx
  rw [s.look, e]
  unfold Sta.rowOf
  rw [e]
  rfl
def Side.val (s : Sta) : Side → Int
  | .nm x => s.num x
  | .wd i => i
/-- the test of an if, of a check -/
def truth (s : Sta) (a : Side) (g : Str) (b : Side) : Bool := if g = "<" then decide (a.val s < b.val s) else decide (a.val s ≤ b.val s)
/-- a test's act -/
inductive TestOf : Act → Side → Str → Side → Prop
  | check {a g b} : TestOf (.check a g b) a g b
  | ite {a g b l} : TestOf (.ite a g b l) a g b
theorem TestOf.parts {a : Act} {x : Side} {g : Str} {y : Side} (t : TestOf a x g y) : ∃ r, a.d = .tuple (.str a.word :: x.d :: .str g :: y.d :: r) := by
  cases t with
  | check => exact ⟨[], rfl⟩
  | ite => exact ⟨_, rfl⟩
def arith (wd : Str) (i j : Int) : Int := if wd = "plus" then i + j else if wd = "minus" then i - j else if wd = "times" then i * j else if wd = "over" then i.fdiv j else i.fmod j
/-- an act that reckons, and its number -/
inductive SumAct (h : Hd) (s : Sta) : Act → Int → Prop
  | add {x y k} : y ∈ h.nums → SumAct h s (.add x y k) (s.num y + k)
  | sum {wd x y z} : wd ∈ sumWords → y ∈ h.nums → z ∈ h.nums → (wd = "over" ∨ wd = "rest" → s.num z ≠ 0) → SumAct h s (.sum wd x y z) (arith wd (s.num y) (s.num z))
theorem eqT {a b : Str} (h : (if false = true then !decide (a = b) else decide (a = b)) = true) : a = b := of_decide_eq_true h
theorem eqN {a b : Str} (h : ¬ (if false = true then !decide (a = b) else decide (a = b)) = true) : ¬ a = b := fun e => h (decide_eq_true e)
def great (wd r : Int) : Option Str := if (decide (-wd ≤ r) && decide (r ≤ wd)) = true then none else some "great"
def spotF (s : Sta) (a i : Str) : Option Str := if (if decide ((0 : Int) ≤ s.num i) = true then decide (s.num i < ((s.rowOf a).length : Nat)) else false) = true then none else some "place"
/-- why an act fails, or none -/
def faultF (wd : Int) (s : Sta) : Act → Option Str
  | .add _ y k => great wd (s.num y + k)
  | .sum w _ y z => if w = "over" ∨ w = "rest" then (if s.num z = 0 then some "nought" else none) else great wd (arith w (s.num y) (s.num z))
  | .row _ y => if s.num y < 0 then some "size" else none
  | .get _ a i => spotF s a i
  | .put a i _ => spotF s a i
  | .check x g y => if truth s x g y = true then none else some "check"
  | _ => none
def optD : Option Str → PyData
  | none => .none
  | some x => .str x
/-- what an act that doesn't fail puts at its first name -/
def madeF (s : Sta) (word : Int) : Act → Option Cel
  | .set _ k => some (.num k)
  | .mid _ y z => some (.num ((s.num y + s.num z).fdiv 2))
  | .row _ y => some (.row (List.replicate (s.num y).toNat 0))
  | .get _ a i => some (.num ((s.rowOf a).getD (s.num i).toNat 0))
  | .put a i y => some (.row ((s.rowOf a).set (s.num i).toNat (s.num y)))
  | .length _ a => some (.num ((s.rowOf a).length : Nat))
  | .ask _ lo hi => some (.num (lo + (word - lo).fmod (hi - lo + 1)))
  | .add _ y k => some (.num (s.num y + k))
  | .sum wd _ y z => some (.num (arith wd (s.num y) (s.num z)))
  | _ => none
theorem spot_of {s : Sta} {a i : Str} (h : spotF s a i = none) : 0 ≤ s.num i ∧ s.num i < ((s.rowOf a).length : Nat) := by
  unfold spotF at h
  by_cases c : (0 : Int) ≤ s.num i
  · rw [if_pos (decide_eq_true c)] at h
    by_cases c2 : s.num i < ((s.rowOf a).length : Nat)
    · exact ⟨c, c2⟩
    · rw [if_neg (fun z => c2 (of_decide_eq_true z))] at h
      cases h
  · rw [if_neg (fun z => c (of_decide_eq_true z)), if_neg Bool.false_ne_true] at h
    cases h
def Act.target : Act → Str
  | .set x _ => x
  | .add x _ _ => x
  | .sum _ x _ _ => x
  | .mid x _ _ => x
  | .row a _ => a
  | .get x _ _ => x
  | .put a _ _ => a
  | .length x _ => x
  | .ask x _ _ => x
  | _ => ""
/-- the state behind an act that doesn't fail -/
def changedF (s : Sta) (word : Int) (a : Act) : Sta := match madeF s word a with
  | some c => s.put a.target c
  | none => s
end Dr

set_option maxRecDepth 100000
set_option maxHeartbeats 3900000
namespace Dr
open PySem PySem.Spec PyProof.Rows L2 K Lf
section
variable {P : Program} {w : World} {K : PySem.W.Frag} [Tabled K] {mg : Str → Option Value} {base : Heap}
abbrev s_is_whole : Stmt := topS 2
theorem sc_is_whole : FnScope ["thing"] ["thing"] (defScope s_is_whole) := ⟨rfl, rfl, rfl, by decide +kernel, rfl, by decide +kernel, by decide +kernel⟩
abbrev s_is_word : Stmt := topS 3
theorem sc_is_word : FnScope ["thing", "width"] ["thing", "width"] (defScope s_is_word) := ⟨rfl, rfl, rfl, by decide +kernel, rfl, by decide +kernel, by decide +kernel⟩
abbrev s_sum_of : Stmt := topS 12
theorem sc_sum_of : FnScope ["word", "first", "second"] ["word", "first", "second"] (defScope s_sum_of) := ⟨rfl, rfl, rfl, by decide +kernel, rfl, by decide +kernel, by decide +kernel⟩
abbrev s_is_true : Stmt := topS 16
theorem sc_is_true : FnScope ["act", "state", "left", "right", "side"] ["act", "state"] (defScope s_is_true) := ⟨rfl, rfl, rfl, by decide +kernel, rfl, by decide +kernel, by decide +kernel⟩
def phWhole : Ph := fun ds P => ∃ i : Int, ds = [.int i] ∧ P (.bool true)
theorem ok_is_whole (B : Bs mg) {f : Addr} {fd : FuncData} (F : Fun K "is_whole" "is_whole" s_is_whole f fd) : FnOk P w K mg base CX0 1 f fd ["thing"] (spP K phWhole) := by
  refine okP F sc_is_whole (fun ds P ⟨p, e, _⟩ => by rw [e]; rfl)
    (fun cdv A outer s H E hr => (fss_one (fs_ret (fe_and (fe_isi (tn := "int") rfl (by rfl) B.isinstance (fv (pv 0)) (by rfl) B.int (by decide +kernel)) (fe_one (fe_not (fe_isi (tn := "bool") rfl (by rfl) B.isinstance (fv (pv 0)) (by rfl) B.bool (by decide +kernel)))))))) fun ds P h => ?_
  obtain ⟨i, rfl, q⟩ := h
  refine ⟨true, by show kitB "int" "int" = some true; decide +kernel, ?_⟩
  exact ⟨false, by show kitB "int" "bool" = some false; decide +kernel, q⟩
def phWordIn : Ph := fun ds P => ∃ i w : Int, ds = [.int i, .int w] ∧ P (.bool (decide (-w ≤ i) && decide (i ≤ w)))
theorem ok_is_word (B : Bs mg) (c_is_whole : C8.Cal P w K mg base 1 "is_whole" (spP K phWhole) []) {f : Addr} {fd : FuncData} (F : Fun K "is_word" "is_word" s_is_word f fd) : FnOk P w K mg base CX0 2 f fd ["thing", "width"] (spP K phWordIn) := by
  refine okP F sc_is_word (fun ds P ⟨p, i, e, _⟩ => by rw [e]; rfl)
    (fun cdv A outer s H E hr => (fss_one (fs_ret (fe_and (fe_c c_is_whole hr (by decide) (by rfl) (fa_cons (fv (pv 0)) fa_nil)) (fe_one (fe_chain op_le op_le (fe_neg (fv (pv 1))) (fv (pv 0)) (fv (pv 1)))))))) fun ds P h => ?_
  obtain ⟨i, wd, rfl, q⟩ := h
  refine ⟨i, rfl, ?_⟩
  refine ite2 (fun _ => ?_) fun z => absurd rfl z
  by_cases h : -wd ≤ i
  · rw [decide_eq_true h, Bool.true_and] at q
    refine ite2 (fun _ => q) fun z => absurd (decide_eq_true h) z
  · rw [decide_eq_false h, Bool.false_and] at q
    refine ite2 (fun z => absurd (of_decide_eq_true z) h) fun _ => q
def phTrue : Ph := fun ds P => ∃ (h : Hd) (s : Sta) (wd : Int) (a : Act) (x y : Side) (g : Str), ds = [a.d, s.d] ∧ TestOf a x g y ∧ SideOk h wd x ∧ SideOk h wd y ∧ g ∈ signs ∧ s.Fit h ∧ P (.bool (truth s x g y))
theorem ok_is_true (B : Bs mg) {f : Addr} {fd : FuncData} (F : Fun K "_is_true" "_is_true" s_is_true f fd) : FnOk P w K mg base CX0 1 f fd ["act", "state"] (spP K phTrue) := by
  refine okP F sc_is_true (fun ds P ⟨h, s, wd, a, x, y, g, e, _⟩ => by rw [e]; rfl)
    (fun cdv A outer s H E hr => (fss_cons (fs_asg (foe (fo_lc (own := [("side", 4)]) (by rfl) sc_is_true.nd (fi_tup rfl (fe_tup (fa_cons (fe_ix rfl (fv (pv 0)) fe_int) (fa_cons (fe_ix rfl (fv (pv 0)) fe_int) fa_nil)))) (blkOk_by (own := [("side", 4)]) (N := ["act", "state", "left", "right", "side"]) (sc := defScope s_is_true) (by decide +kernel)) (fun _ _ _ _ _ => (fg_name (i := 4) sc_is_true.nd rfl (.inl rfl) (hf := .inr rfl))) (fun _ _ _ _ _ => fts_nil) (fun _ _ _ _ _ => (fe_if (ft_val (fe_isi (tn := "str") rfl (by rfl) B.isinstance (fv (pv 4)) (by rfl) B.str (by decide +kernel))) (fe_dget (hu_of hr) (fv (pv 1)) (fv (pv 4))) (fv (pv 4)))) (by decide))) (fg_unl (n := 2) rfl rfl (fgs_cons (fg_name (i := 2) sc_is_true.nd rfl (.inl rfl)) (fgs_cons (fg_name (i := 3) sc_is_true.nd rfl (.inl rfl)) fgs_nil))))
      (fss_one (fs_ret (fe_if (ft_eq (fe_ix rfl (fv (pv 0)) fe_int) fe_str) (fe_lt (fv (pv 2)) (fv (pv 3))) (fe_le (fv (pv 2)) (fv (pv 3)))))))) fun ds P h => ?_
  obtain ⟨h, s, wd, a, x, y, g, rfl, t, hx, hy, hg, fit, q⟩ := h
  obtain ⟨r, er⟩ := t.parts
  have er' : a.d = .tuple (.str a.word :: x.d :: .str g :: y.d :: r) := er
  rw [er']
  refine ⟨_, atI_nat (j := 1) rfl, _, atI_nat (j := 3) rfl, by show 2 ≤ sizeLine; decide, by show 2 < sizeLine; decide, fun i acc om => ∃ u v, om = ⟨[some (.dat (.tuple (.str a.word :: x.d :: .str g :: y.d :: r))), some (.dat s.d), u, v, none], 0⟩ ∧ acc = ([.int (x.val s), .int (y.val s)] : List PyData).take i, ⟨_, _, rfl, rfl⟩, ?_, ?_⟩
  · rintro i acc e om hi ⟨u, v, rfl, rfl⟩
    match i, hi with
    | 0, hi =>
      cases hi
      cases hx with
      | nm m => exact ⟨true, by show kitB "str" "str" = some true; decide +kernel, _, fit.numAt m, u, v, rfl, rfl⟩
      | wd m => exact ⟨false, by show kitB "int" "str" = some false; decide +kernel, u, v, rfl, rfl⟩
    | 1, hi =>
      cases hi
      cases hy with
      | nm m => exact ⟨true, by show kitB "str" "str" = some true; decide +kernel, _, fit.numAt m, u, v, rfl, rfl⟩
      | wd m => exact ⟨false, by show kitB "int" "str" = some false; decide +kernel, u, v, rfl, rfl⟩
    | n + 2, hi => cases hi
  · rintro acc om ⟨u, v, rfl, rfl⟩
    refine ⟨rfl, _, atI_nat (j := 2) rfl, ?_⟩
    refine ite2 (fun z => ?_) fun z => ?_
    · have e : g = "<" := by simpa using z
      unfold truth at q
      rw [if_pos e] at q
      exact q
    · have e : ¬ g = "<" := by simpa using z
      unfold truth at q
      rw [if_neg e] at q
      exact q
def phSumOf : Ph := fun ds P => ∃ (wd : Str) (i j : Int), ds = [.str wd, .int i, .int j] ∧ wd ∈ sumWords ∧ i.natAbs ≤ 1000000 ∧ j.natAbs ≤ 1000000 ∧ (wd = "over" ∨ wd = "rest" → j ≠ 0) ∧ P (.int (arith wd i j))
theorem ok_sum_of (B : Bs mg) {f : Addr} {fd : FuncData} (F : Fun K "sum_of" "sum_of" s_sum_of f fd) : FnOk P w K mg base CX0 1 f fd ["word", "first", "second"] (spP K phSumOf) := by
  refine okP F sc_sum_of (fun ds P ⟨wd, i, j, e, _⟩ => by rw [e]; rfl)
    (fun cdv A outer s H E hr => (fss_cons (fs_if (ft_eq (fv (pv 0)) fe_str)
      (fss_one (fs_ret (fe_add (fv (pv 1)) (fv (pv 2)))))
      fss_nil)
      (fss_cons (fs_if (ft_eq (fv (pv 0)) fe_str)
      (fss_one (fs_ret (fe_sub (fv (pv 1)) (fv (pv 2)))))
      fss_nil)
      (fss_cons (fs_if (ft_eq (fv (pv 0)) fe_str)
      (fss_one (fs_ret (fe_mul (fv (pv 1)) (fv (pv 2)))))
      fss_nil)
      (fss_one (fs_ret (fe_if (ft_eq (fv (pv 0)) fe_str) (fe_div (fv (pv 1)) (fv (pv 2))) (fe_mod (fv (pv 1)) (fv (pv 2)))))))))) fun ds P h => ?_
  obtain ⟨wd, i, j, rfl, hw, hi, hj, nz, q⟩ := h
  unfold arith at q
  refine ite2 (fun z => ?_) fun z1 => ?_
  · rw [if_pos (by simpa using z)] at q
    exact q
  have z1 : ¬ wd = "plus" := by simpa using z1
  rw [if_neg z1] at q
  refine ite2 (fun z => ?_) fun z2 => ?_
  · rw [if_pos (by simpa using z)] at q
    exact q
  have z2 : ¬ wd = "minus" := by simpa using z2
  rw [if_neg z2] at q
  refine ite2 (fun z => ?_) fun z3 => ?_
  · rw [if_pos (by simpa using z)] at q
    exact ⟨.inl ⟨by omega, by omega⟩, q⟩
  have z3 : ¬ wd = "times" := by simpa using z3
  rw [if_neg z3] at q
  refine ite2 (fun z => ?_) fun z4 => ?_
  · have e : wd = "over" := by simpa using z
    rw [if_pos e] at q
    exact ⟨⟨nz (.inl e), by omega⟩, q⟩
  · have z4 : ¬ wd = "over" := by simpa using z4
    rw [if_neg z4] at q
    have e : wd = "rest" := by
      simp only [sumWords, List.mem_cons, List.not_mem_nil, or_false] at hw
      rcases hw with h | h | h | h | h
      · exact absurd h z1
      · exact absurd h z2
      · exact absurd h z3
      · exact absurd h z4
      · exact h
    exact ⟨nz (.inr e), q⟩
abbrev s_law_is_so : Stmt := topS 42
theorem sc_law_is_so : FnScope ["act", "state", "sides", "side"] ["act", "state"] (defScope s_law_is_so) := ⟨rfl, rfl, rfl, by decide +kernel, rfl, by decide +kernel, by decide +kernel⟩
theorem ok_law_is_so (B : Bs mg) {f : Addr} {fd : FuncData} (F : Fun K "_law_is_so" "_law_is_so" s_law_is_so f fd) : FnOk P w K mg base CX0 1 f fd ["act", "state"] (spP K phTrue) := by
  refine okP F sc_law_is_so (fun ds P ⟨h, s, wd, a, x, y, g, e, _⟩ => by rw [e]; rfl)
    (fun cdv A outer s H E hr => (fss_cons (fs_setO (i := 2) sc_law_is_so.nd rfl (.inl rfl) (fo_lst fa_nil))
      (fss_cons (fs_for (fi_tup rfl (fe_tup (fa_cons (fe_ix rfl (fv (pv 0)) fe_int) (fa_cons (fe_ix rfl (fv (pv 0)) fe_int) fa_nil)))) (fg_name (i := 3) sc_law_is_so.nd rfl (.inl rfl))
      (fss_one (fs_if (ft_val (fe_isi (tn := "str") rfl (by rfl) B.isinstance (fv (pv 3)) (by rfl) B.str (by decide +kernel)))
      (fss_one (fs_expr (fe_append (pv 2) (fa_cons (fe_dget (hu_of hr) (fv (pv 1)) (fv (pv 3))) fa_nil))))
      (fss_one (fs_expr (fe_append (pv 2) (fa_cons (fv (pv 3)) fa_nil)))))) PassesOwn.never rfl)
      (fss_one (fs_ret (fe_or (fe_lt (fe_ix rfl (fv (pv 2)) fe_int) (fe_ix rfl (fv (pv 2)) fe_int)) (fe_one (fe_and (fe_eq (fe_ix rfl (fv (pv 0)) fe_int) fe_str) (fe_one (fe_eq (fe_ix rfl (fv (pv 2)) fe_int) (fe_ix rfl (fv (pv 2)) fe_int))))))))))) fun ds P h => ?_
  obtain ⟨h, s, wd, a, x, y, g, rfl, t, hx, hy, hg, fit, q⟩ := h
  obtain ⟨r, er⟩ := t.parts
  have er' : a.d = .tuple (.str a.word :: x.d :: .str g :: y.d :: r) := er
  rw [er']
  refine ⟨by show 0 ≤ sizeLine; decide, _, atI_nat (j := 1) rfl, _, atI_nat (j := 3) rfl, by show 2 ≤ sizeLine; decide, fun i om => ∃ u, om = ⟨[some (.dat (.tuple (.str a.word :: x.d :: .str g :: y.d :: r))), some (.dat s.d), some (.own (.list (([.int (x.val s), .int (y.val s)] : List PyData).take i))), u], 0⟩, ⟨_, rfl⟩, ?_, ?_⟩
  · rintro i e om hi ⟨u, rfl⟩
    match i, hi with
    | 0, hi =>
      cases hi
      cases hx with
      | nm m => exact ⟨true, by show kitB "str" "str" = some true; decide +kernel, ⟨_, rfl⟩, _, fit.numAt m, by show 0 < sizeLine; decide, _, rfl⟩
      | wd m => exact ⟨false, by show kitB "int" "str" = some false; decide +kernel, ⟨_, rfl⟩, by show 0 < sizeLine; decide, _, rfl⟩
    | 1, hi =>
      cases hi
      cases hy with
      | nm m => exact ⟨true, by show kitB "str" "str" = some true; decide +kernel, ⟨_, rfl⟩, _, fit.numAt m, by show 1 < sizeLine; decide, _, rfl⟩
      | wd m => exact ⟨false, by show kitB "int" "str" = some false; decide +kernel, ⟨_, rfl⟩, by show 1 < sizeLine; decide, _, rfl⟩
    | n + 2, hi => cases hi
  · rintro om ⟨u, rfl⟩
    refine ⟨_, at_pos, _, at_two, ?_⟩
    have sg : g = "<" ∨ g = "<=" := by
      simp only [signs, List.mem_cons, List.not_mem_nil, or_false] at hg
      exact hg
    refine ite2 (fun z => ?_) fun z => ?_
    · have lt : x.val s < y.val s := of_decide_eq_true z
      have e : truth s x g y = true := by
        unfold truth
        rw [decide_eq_true lt, decide_eq_true (Int.le_of_lt lt)]
        exact ite_self _
      rw [e] at q
      exact q
    · have nl : ¬ x.val s < y.val s := fun k => z (decide_eq_true k)
      refine ⟨_, atI_nat (j := 2) rfl, ?_⟩
      refine ite2 (fun k => ?_) fun k => ?_
      · have e : g = "<=" := by simpa using k
        refine ⟨_, at_pos, _, at_two, ?_⟩
        have e2 : truth s x g y = decide (x.val s = y.val s) := by
          unfold truth
          rw [if_neg (by rw [e]; decide +kernel)]
          by_cases h2 : x.val s = y.val s
          · rw [decide_eq_true h2, decide_eq_true (by omega)]
          · rw [decide_eq_false h2, decide_eq_false (by omega)]
        rw [e2] at q
        exact q
      · have e : g = "<" := sg.resolve_right (by simpa using k)
        have e2 : truth s x g y = false := by
          unfold truth
          rw [if_pos e, decide_eq_false nl]
        rw [e2] at q
        exact q
end
end Dr

set_option maxRecDepth 100000
set_option maxHeartbeats 3900000
namespace Dr
open PySem PySem.Spec PyProof.Rows L2 K Lf
section
variable {P : Program} {w : World} {K : PySem.W.Frag} [Tabled K] {mg : Str → Option Value} {base : Heap}
abbrev s_result : Stmt := topS 18
theorem sc_result : FnScope ["act", "state"] ["act", "state"] (defScope s_result) := ⟨rfl, rfl, rfl, by decide +kernel, rfl, by decide +kernel, by decide +kernel⟩
def phResult : Ph := fun ds P => ∃ (h : Hd) (s : Sta) (a : Act) (i : Int), ds = [a.d, s.d] ∧ SumAct h s a i ∧ s.Fit h ∧ P (.int i)
theorem ok_result (B : Bs mg) (c_sum_of : C8.Cal P w K mg base 1 "sum_of" (spP K phSumOf) []) {f : Addr} {fd : FuncData} (F : Fun K "_result" "_result" s_result f fd) : FnOk P w K mg base CX0 2 f fd ["act", "state"] (spP K phResult) := by
  refine okP F sc_result (fun ds P ⟨h, s, a, i, e, _⟩ => by rw [e]; rfl)
    (fun cdv A outer s H E hr => (fss_cons (fs_if (ft_eq (fe_ix rfl (fv (pv 0)) fe_int) fe_str)
      (fss_one (fs_ret (fe_add (fe_dget (hu_of hr) (fv (pv 1)) (fe_ix rfl (fv (pv 0)) fe_int)) (fe_ix rfl (fv (pv 0)) fe_int))))
      fss_nil)
      (fss_one (fs_ret (fe_c c_sum_of hr (by decide) (by rfl) (fa_cons (fe_ix rfl (fv (pv 0)) fe_int) (fa_cons (fe_dget (hu_of hr) (fv (pv 1)) (fe_ix rfl (fv (pv 0)) fe_int)) (fa_cons (fe_dget (hu_of hr) (fv (pv 1)) (fe_ix rfl (fv (pv 0)) fe_int)) fa_nil)))))))) fun ds P h => ?_
  obtain ⟨h, s, a, i, rfl, sa, fit, q⟩ := h
  cases sa with
  | add m =>
    refine ⟨_, at_pos, ?_⟩
    exact ⟨_, atI_nat (j := 2) rfl, _, fit.numAt m, _, atI_nat (j := 3) rfl, q⟩
  | sum hw m1 m2 nz =>
    rename_i wd x y z
    refine ⟨_, at_pos, ?_⟩
    refine ite2 (fun e => ?_) fun _ => ?_
    · have e : wd = "add" := eqT e
      rw [e] at hw
      exact absurd hw (by decide +kernel)
    · exact ⟨_, at_pos, _, atI_nat (j := 2) rfl, _, fit.numAt m1, _, atI_nat (j := 3) rfl, _, fit.numAt m2, wd, s.num y, s.num z, rfl, hw, fit.small y, fit.small z, nz, q⟩
abbrev s_law_sum : Stmt := topS 43
theorem sc_law_sum : FnScope ["act", "state", "first", "second"] ["act", "state"] (defScope s_law_sum) := ⟨rfl, rfl, rfl, by decide +kernel, rfl, by decide +kernel, by decide +kernel⟩
inductive LawSum (h : Hd) (s : Sta) : Act → Int → Prop
  | add {x y k} : y ∈ h.nums → LawSum h s (.add x y k) (s.num y + k)
  | sum {wd x y z} : wd ∈ (["plus", "minus", "times"] : List Str) → y ∈ h.nums → z ∈ h.nums → LawSum h s (.sum wd x y z) (arith wd (s.num y) (s.num z))
  | mid {x y z} : y ∈ h.nums → z ∈ h.nums → LawSum h s (.mid x y z) ((s.num y + s.num z).fdiv 2)
def phLawSum : Ph := fun ds P => ∃ (h : Hd) (s : Sta) (a : Act) (i : Int), ds = [a.d, s.d] ∧ LawSum h s a i ∧ s.Fit h ∧ P (.int i)
theorem ok_law_sum (B : Bs mg) {f : Addr} {fd : FuncData} (F : Fun K "_law_sum" "_law_sum" s_law_sum f fd) : FnOk P w K mg base CX0 1 f fd ["act", "state"] (spP K phLawSum) := by
  refine okP F sc_law_sum (fun ds P ⟨h, s, a, i, e, _⟩ => by rw [e]; rfl)
    (fun cdv A outer s H E hr => (fss_cons (fs_set (i := 2) sc_law_sum.nd rfl (.inl rfl) (fe_dget (hu_of hr) (fv (pv 1)) (fe_ix rfl (fv (pv 0)) fe_int)))
      (fss_cons (fs_if (ft_eq (fe_ix rfl (fv (pv 0)) fe_int) fe_str)
      (fss_one (fs_ret (fe_add (fv (pv 2)) (fe_ix rfl (fv (pv 0)) fe_int))))
      fss_nil)
      (fss_cons (fs_set (i := 3) sc_law_sum.nd rfl (.inl rfl) (fe_dget (hu_of hr) (fv (pv 1)) (fe_ix rfl (fv (pv 0)) fe_int)))
      (fss_cons (fs_if (ft_eq (fe_ix rfl (fv (pv 0)) fe_int) fe_str)
      (fss_one (fs_ret (fe_add (fv (pv 2)) (fv (pv 3)))))
      fss_nil)
      (fss_cons (fs_if (ft_eq (fe_ix rfl (fv (pv 0)) fe_int) fe_str)
      (fss_one (fs_ret (fe_sub (fv (pv 2)) (fv (pv 3)))))
      fss_nil)
      (fss_cons (fs_if (ft_eq (fe_ix rfl (fv (pv 0)) fe_int) fe_str)
      (fss_one (fs_ret (fe_mul (fv (pv 2)) (fv (pv 3)))))
      fss_nil)
      (fss_one (fs_ret (fe_div (fe_add (fv (pv 2)) (fv (pv 3))) fe_int)))))))))) fun ds P h => ?_
  obtain ⟨h, s, a, i, rfl, sa, fit, q⟩ := h
  cases sa with
  | add m =>
    refine ⟨_, atI_nat (j := 2) rfl, _, fit.numAt m, _, at_pos, ?_⟩
    exact ⟨_, atI_nat (j := 3) rfl, q⟩
  | sum hw m1 m2 =>
    rename_i wd x y z
    have n0 : wd ≠ "add" := fun e => by rw [e] at hw; exact absurd hw (by decide +kernel)
    have n1 := fit.small y
    have n2 := fit.small z
    unfold arith at q
    refine ⟨_, atI_nat (j := 2) rfl, _, fit.numAt m1, _, at_pos, ?_⟩
    refine ite2 (fun e => ?_) fun _ => ?_
    · exact absurd (eqT e) n0
    refine ⟨_, atI_nat (j := 3) rfl, _, fit.numAt m2, _, at_pos, ?_⟩
    refine ite2 (fun e => ?_) fun e1 => ?_
    · have e : wd = "plus" := eqT e
      rw [if_pos e] at q
      exact q
    have e1 : ¬ wd = "plus" := eqN e1
    rw [if_neg e1] at q
    refine ⟨_, at_pos, ?_⟩
    refine ite2 (fun e => ?_) fun e2 => ?_
    · have e : wd = "minus" := eqT e
      rw [if_pos e] at q
      exact q
    have e2 : ¬ wd = "minus" := eqN e2
    rw [if_neg e2] at q
    refine ⟨_, at_pos, ?_⟩
    refine ite2 (fun e => ?_) fun e3 => ?_
    · have e : wd = "times" := eqT e
      rw [if_pos e] at q
      exact ⟨.inl ⟨by omega, by omega⟩, q⟩
    have e3 : ¬ wd = "times" := eqN e3
    exfalso
    simp only [List.mem_cons, List.not_mem_nil, or_false] at hw
    rcases hw with h | h | h
    · exact e1 h
    · exact e2 h
    · exact e3 h
  | mid m1 m2 =>
    rename_i x y z
    refine ⟨_, atI_nat (j := 2) rfl, _, fit.numAt m1, _, at_pos, ?_⟩
    refine ⟨_, atI_nat (j := 3) rfl, _, fit.numAt m2, _, at_pos, ?_⟩
    refine ⟨_, at_pos, ?_⟩
    refine ⟨_, at_pos, ?_⟩
    exact ⟨⟨by decide, by decide⟩, q⟩
end
end Dr

set_option maxRecDepth 100000
set_option maxHeartbeats 3900000
namespace Dr
open PySem PySem.Spec PyProof.Rows L2 K Lf
section
variable {P : Program} {w : World} {K : PySem.W.Frag} [Tabled K] {mg : Str → Option Value} {base : Heap}
abbrev s_fault : Stmt := topS 17
theorem sc_fault : FnScope ["width", "act", "state"] ["width", "act", "state"] (defScope s_fault) := ⟨rfl, rfl, rfl, by decide +kernel, rfl, by decide +kernel, by decide +kernel⟩
def phFault : Ph := fun ds P => ∃ (wd : Int) (h : Hd) (hs : List Hd) (L : Int → Prop) (s : Sta) (a : Act), ds = [.int wd, a.d, s.d] ∧ AFit h hs wd L a ∧ s.Fit h ∧ P (optD (faultF wd s a))
theorem plain_num {h : Hd} {x : Str} (m : x ∈ h.plain) : x ∈ h.nums := List.mem_append_left _ m
theorem finger_num {h : Hd} {x : Str} (m : x ∈ h.fingers) : x ∈ h.nums := List.mem_append_right _ m
theorem ok_fault (B : Bs mg) (c_is_word : C8.Cal P w K mg base 2 "is_word" (spP K phWordIn) []) (c_result : C8.Cal P w K mg base 2 "_result" (spP K phResult) []) (c_is_true : C8.Cal P w K mg base 1 "_is_true" (spP K phTrue) []) {f : Addr} {fd : FuncData} (F : Fun K "_fault" "_fault" s_fault f fd) : FnOk P w K mg base CX0 3 f fd ["width", "act", "state"] (spP K phFault) := by
  refine okP F sc_fault (fun ds P ⟨wd, h, hs, L, s, a, e, _⟩ => by rw [e]; rfl)
    (fun cdv A outer s H E hr => (fss_cons (fs_if (ft_in rfl (fe_ix rfl (fv (pv 1)) fe_int) (fe_tup (fa_cons fe_str (fa_cons fe_str (fa_cons fe_str (fa_cons fe_str fa_nil))))))
      (fss_one (fs_ret (fe_if (ft_val (fe_c c_is_word hr (by decide) (by rfl) (fa_cons (fe_c c_result hr (by decide) (by rfl) (fa_cons (fv (pv 1)) (fa_cons (fv (pv 2)) fa_nil))) (fa_cons (fv (pv 0)) fa_nil)))) fe_non fe_str)))
      fss_nil)
      (fss_cons (fs_if (ft_in rfl (fe_ix rfl (fv (pv 1)) fe_int) (fe_tup (fa_cons fe_str (fa_cons fe_str fa_nil))))
      (fss_one (fs_ret (fe_if (ft_eq (fe_dget (hu_of hr) (fv (pv 2)) (fe_ix rfl (fv (pv 1)) fe_int)) fe_int) fe_str fe_non)))
      fss_nil)
      (fss_cons (fs_if (ft_eq (fe_ix rfl (fv (pv 1)) fe_int) fe_str)
      (fss_one (fs_ret (fe_if (ft_lt (fe_dget (hu_of hr) (fv (pv 2)) (fe_ix rfl (fv (pv 1)) fe_int)) fe_int) fe_str fe_non)))
      fss_nil)
      (fss_cons (fs_if (ft_eq (fe_ix rfl (fv (pv 1)) fe_int) fe_str)
      (fss_one (fs_ret (fe_if (ft_chain op_le op_lt fe_int (fe_dget (hu_of hr) (fv (pv 2)) (fe_ix rfl (fv (pv 1)) fe_int)) (fe_len rfl (by rfl) B.len (fa_cons (fe_dget (hu_of hr) (fv (pv 2)) (fe_ix rfl (fv (pv 1)) fe_int)) fa_nil))) fe_non fe_str)))
      fss_nil)
      (fss_cons (fs_if (ft_eq (fe_ix rfl (fv (pv 1)) fe_int) fe_str)
      (fss_one (fs_ret (fe_if (ft_chain op_le op_lt fe_int (fe_dget (hu_of hr) (fv (pv 2)) (fe_ix rfl (fv (pv 1)) fe_int)) (fe_len rfl (by rfl) B.len (fa_cons (fe_dget (hu_of hr) (fv (pv 2)) (fe_ix rfl (fv (pv 1)) fe_int)) fa_nil))) fe_non fe_str)))
      fss_nil)
      (fss_cons (fs_if (ft_eq (fe_ix rfl (fv (pv 1)) fe_int) fe_str)
      (fss_one (fs_ret (fe_if (ft_val (fe_c c_is_true hr (by decide) (by rfl) (fa_cons (fv (pv 1)) (fa_cons (fv (pv 2)) fa_nil)))) fe_non fe_str)))
      fss_nil)
      (fss_one (fs_ret fe_non))))))))) fun ds P h => ?_
  obtain ⟨wd, h, hs, L, s, a, rfl, af, fit, q⟩ := h
  have gr : ∀ {r : Int} {Q : PyData → Prop}, Q (optD (great wd r)) → if (decide (-wd ≤ r) && decide (r ≤ wd)) = true then Q .none else Q (.str "great") := fun {r Q} q => by
    unfold great at q
    by_cases c : (decide (-wd ≤ r) && decide (r ≤ wd)) = true
    · rw [if_pos c] at q ⊢
      exact q
    · rw [if_neg c] at q ⊢
      exact q
  cases af with
  | set m k => exact ⟨_, at_pos, by show 4 ≤ sizeLine; decide, ⟨rfl, rfl⟩, _, at_pos, by show 2 ≤ sizeLine; decide, ⟨rfl, rfl⟩, _, at_pos, _, at_pos, _, at_pos, _, at_pos, q⟩
  | addP m1 m2 k => exact ⟨_, at_pos, by show 4 ≤ sizeLine; decide, ⟨rfl, rfl⟩, h, s, _, _, rfl, .add m2, fit, _, wd, rfl, gr q⟩
  | addF m1 m2 k => exact ⟨_, at_pos, by show 4 ≤ sizeLine; decide, ⟨rfl, rfl⟩, h, s, _, _, rfl, .add (finger_num m2), fit, _, wd, rfl, gr q⟩
  | sum hw m1 m2 m3 =>
    rename_i wd' x y z
    have hw2 := hw
    simp only [sumWords, List.mem_cons, List.not_mem_nil, or_false] at hw2
    have zero : ∀ {Q : PyData → Prop}, Q (optD (if s.num z = 0 then some "nought" else none)) → if (if false = true then !decide (s.num z = 0) else decide (s.num z = 0)) = true then Q (.str "nought") else Q .none := fun {Q} q => by
      refine ite2 (fun c => ?_) fun c => ?_
      · rw [if_pos (of_decide_eq_true c)] at q
        exact q
      · rw [if_neg (fun k => c (decide_eq_true k))] at q
        exact q
    rcases hw2 with rfl | rfl | rfl | rfl | rfl
    · exact ⟨_, at_pos, by show 4 ≤ sizeLine; decide, ⟨rfl, rfl⟩, h, s, _, _, rfl, .sum hw (plain_num m2) (plain_num m3) (fun k => k.elim (fun k => absurd k (by decide +kernel)) fun k => absurd k (by decide +kernel)), fit, _, wd, rfl, gr q⟩
    · exact ⟨_, at_pos, by show 4 ≤ sizeLine; decide, ⟨rfl, rfl⟩, h, s, _, _, rfl, .sum hw (plain_num m2) (plain_num m3) (fun k => k.elim (fun k => absurd k (by decide +kernel)) fun k => absurd k (by decide +kernel)), fit, _, wd, rfl, gr q⟩
    · exact ⟨_, at_pos, by show 4 ≤ sizeLine; decide, ⟨rfl, rfl⟩, h, s, _, _, rfl, .sum hw (plain_num m2) (plain_num m3) (fun k => k.elim (fun k => absurd k (by decide +kernel)) fun k => absurd k (by decide +kernel)), fit, _, wd, rfl, gr q⟩
    · exact ⟨_, at_pos, by show 4 ≤ sizeLine; decide, ⟨rfl, rfl⟩, _, at_pos, by show 2 ≤ sizeLine; decide, ⟨rfl, rfl⟩, _, atI_nat (j := 3) rfl, _, fit.numAt (plain_num m3), zero q⟩
    · exact ⟨_, at_pos, by show 4 ≤ sizeLine; decide, ⟨rfl, rfl⟩, _, at_pos, by show 2 ≤ sizeLine; decide, ⟨rfl, rfl⟩, _, atI_nat (j := 3) rfl, _, fit.numAt (plain_num m3), zero q⟩
  | midP => exact ⟨_, at_pos, by show 4 ≤ sizeLine; decide, ⟨rfl, rfl⟩, _, at_pos, by show 2 ≤ sizeLine; decide, ⟨rfl, rfl⟩, _, at_pos, _, at_pos, _, at_pos, _, at_pos, q⟩
  | midF => exact ⟨_, at_pos, by show 4 ≤ sizeLine; decide, ⟨rfl, rfl⟩, _, at_pos, by show 2 ≤ sizeLine; decide, ⟨rfl, rfl⟩, _, at_pos, _, at_pos, _, at_pos, _, at_pos, q⟩
  | row m1 m2 =>
    rename_i a y
    refine ⟨_, at_pos, by show 4 ≤ sizeLine; decide, ⟨rfl, rfl⟩, _, at_pos, by show 2 ≤ sizeLine; decide, ⟨rfl, rfl⟩, _, at_pos, _, atI_nat (j := 2) rfl, _, fit.numAt m2, ?_⟩
    have q : P (optD (if s.num y < 0 then some "size" else none)) := q
    refine ite2 (fun c => ?_) fun c => ?_
    · rw [if_pos (of_decide_eq_true c)] at q
      exact q
    · rw [if_neg fun z => c (decide_eq_true z)] at q
      exact q
  | get m1 m2 m3 =>
    rename_i n1 n2 n3
    refine ⟨_, at_pos, by show 4 ≤ sizeLine; decide, ⟨rfl, rfl⟩, _, at_pos, by show 2 ≤ sizeLine; decide, ⟨rfl, rfl⟩, _, at_pos, _, at_pos, _, atI_nat (j := 3) rfl, _, fit.numAt m3, ?_⟩
    have q : P (optD (spotF s n2 n3)) := q
    unfold spotF at q
    refine ite2 (fun c => ?_) fun c => ?_
    · rw [if_pos c] at q
      refine ⟨_, atI_nat (j := 2) rfl, _, fit.rowAt m2, ?_⟩
      refine ite2 (fun c2 => ?_) fun c2 => ?_
      · rw [List.length_map] at c2
        rw [if_pos c2] at q
        exact q
      · rw [List.length_map] at c2
        rw [if_neg c2] at q
        exact q
    · rw [if_neg c, if_neg Bool.false_ne_true] at q
      exact q
  | put m1 m2 m3 =>
    rename_i n1 n2 n3
    refine ⟨_, at_pos, by show 4 ≤ sizeLine; decide, ⟨rfl, rfl⟩, _, at_pos, by show 2 ≤ sizeLine; decide, ⟨rfl, rfl⟩, _, at_pos, _, at_pos, _, at_pos, _, atI_nat (j := 2) rfl, _, fit.numAt m2, ?_⟩
    have q : P (optD (spotF s n1 n2)) := q
    unfold spotF at q
    refine ite2 (fun c => ?_) fun c => ?_
    · rw [if_pos c] at q
      refine ⟨_, atI_nat (j := 1) rfl, _, fit.rowAt m1, ?_⟩
      refine ite2 (fun c2 => ?_) fun c2 => ?_
      · rw [List.length_map] at c2
        rw [if_pos c2] at q
        exact q
      · rw [List.length_map] at c2
        rw [if_neg c2] at q
        exact q
    · rw [if_neg c, if_neg Bool.false_ne_true] at q
      exact q
  | length => exact ⟨_, at_pos, by show 4 ≤ sizeLine; decide, ⟨rfl, rfl⟩, _, at_pos, by show 2 ≤ sizeLine; decide, ⟨rfl, rfl⟩, _, at_pos, _, at_pos, _, at_pos, _, at_pos, q⟩
  | ask => exact ⟨_, at_pos, by show 4 ≤ sizeLine; decide, ⟨rfl, rfl⟩, _, at_pos, by show 2 ≤ sizeLine; decide, ⟨rfl, rfl⟩, _, at_pos, _, at_pos, _, at_pos, _, at_pos, q⟩
  | tell => exact ⟨_, at_pos, by show 4 ≤ sizeLine; decide, ⟨rfl, rfl⟩, _, at_pos, by show 2 ≤ sizeLine; decide, ⟨rfl, rfl⟩, _, at_pos, _, at_pos, _, at_pos, _, at_pos, q⟩
  | check s1 g s2 =>
    rename_i x gg y
    refine ⟨_, at_pos, by show 4 ≤ sizeLine; decide, ⟨rfl, rfl⟩, _, at_pos, by show 2 ≤ sizeLine; decide, ⟨rfl, rfl⟩, _, at_pos, _, at_pos, _, at_pos, _, at_pos, h, s, wd, _, x, y, gg, rfl, .check, s1, s2, g, fit, ?_⟩
    have q : P (optD (if truth s x gg y = true then none else some "check")) := q
    refine ite2 (fun c => ?_) fun c => ?_
    · rw [if_pos c] at q
      exact q
    · rw [if_neg c] at q
      exact q
  | ite => exact ⟨_, at_pos, by show 4 ≤ sizeLine; decide, ⟨rfl, rfl⟩, _, at_pos, by show 2 ≤ sizeLine; decide, ⟨rfl, rfl⟩, _, at_pos, _, at_pos, _, at_pos, _, at_pos, q⟩
  | go => exact ⟨_, at_pos, by show 4 ≤ sizeLine; decide, ⟨rfl, rfl⟩, _, at_pos, by show 2 ≤ sizeLine; decide, ⟨rfl, rfl⟩, _, at_pos, _, at_pos, _, at_pos, _, at_pos, q⟩
  | call => exact ⟨_, at_pos, by show 4 ≤ sizeLine; decide, ⟨rfl, rfl⟩, _, at_pos, by show 2 ≤ sizeLine; decide, ⟨rfl, rfl⟩, _, at_pos, _, at_pos, _, at_pos, _, at_pos, q⟩
  | back => exact ⟨_, at_pos, by show 4 ≤ sizeLine; decide, ⟨rfl, rfl⟩, _, at_pos, by show 2 ≤ sizeLine; decide, ⟨rfl, rfl⟩, _, at_pos, _, at_pos, _, at_pos, _, at_pos, q⟩
end
end Dr

set_option maxRecDepth 100000
set_option maxHeartbeats 3900000
namespace Dr
open PySem PySem.Spec PyProof.Rows L2 K Lf
section
variable {P : Program} {w : World} {K : PySem.W.Frag} [Tabled K] {mg : Str → Option Value} {base : Heap}
abbrev s_made : Stmt := topS 20
theorem sc_made : FnScope ["act", "state", "word", "at", "cells"] ["act", "state", "word"] (defScope s_made) := ⟨rfl, rfl, rfl, by decide +kernel, rfl, by decide +kernel, by decide +kernel⟩
def phMade : Ph := fun ds P => ∃ (wd : Int) (h : Hd) (hs : List Hd) (L : Int → Prop) (s : Sta) (word : Int) (a : Act) (c : Cel), ds = [a.d, s.d, .int word] ∧ AFit h hs wd L a ∧ s.Fit h ∧ faultF wd s a = none ∧ madeF s word a = some c ∧ 0 ≤ wd ∧ wd ≤ 1000 ∧ P c.d
theorem rep_row (n : Nat) : (List.replicate n ([PyData.int 0] : List PyData)).flatten = (List.replicate n (0 : Int)).map .int := by
  induction n with
  | zero => rfl
  | succ n ih => rw [List.replicate_succ, List.flatten_cons, ih, List.replicate_succ]; rfl
theorem cut_from {α : Type} (xs : List α) (k : Nat) : cutL xs (some (k : Int)) none = xs.drop k := by
  unfold cutL
  rw [show HT.sIx xs.length 0 (some (k : Int)) = min k xs.length from HT.sIx_nat _ _ k, HT.sIx_none]
  by_cases h : k ≤ xs.length
  · rw [Nat.min_eq_left h, List.take_of_length_le (by rw [List.length_drop]; exact Nat.le_refl _)]
  · rw [Nat.min_eq_right (by omega), List.drop_length, List.drop_of_length_le (by omega), List.take_nil]
theorem ok_made (B : Bs mg) (c_result : C8.Cal P w K mg base 2 "_result" (spP K phResult) []) {f : Addr} {fd : FuncData} (F : Fun K "_made" "_made" s_made f fd) : FnOk P w K mg base CX0 3 f fd ["act", "state", "word"] (spP K phMade) := by
  refine okP F sc_made (fun ds P ⟨wd, h, hs, L, s, wo, a, c, e, _⟩ => by rw [e]; rfl)
    (fun cdv A outer s H E hr => (fss_cons (fs_if (ft_eq (fe_ix rfl (fv (pv 0)) fe_int) fe_str)
      (fss_one (fs_ret (fe_ix rfl (fv (pv 0)) fe_int)))
      fss_nil)
      (fss_cons (fs_if (ft_eq (fe_ix rfl (fv (pv 0)) fe_int) fe_str)
      (fss_one (fs_ret (fe_div (fe_add (fe_dget (hu_of hr) (fv (pv 1)) (fe_ix rfl (fv (pv 0)) fe_int)) (fe_dget (hu_of hr) (fv (pv 1)) (fe_ix rfl (fv (pv 0)) fe_int))) fe_int)))
      fss_nil)
      (fss_cons (fs_if (ft_eq (fe_ix rfl (fv (pv 0)) fe_int) fe_str)
      (fss_one (fs_ret (fe_repT rfl (fe_tup (fa_cons fe_int fa_nil)) (fe_dget (hu_of hr) (fv (pv 1)) (fe_ix rfl (fv (pv 0)) fe_int)))))
      fss_nil)
      (fss_cons (fs_if (ft_eq (fe_ix rfl (fv (pv 0)) fe_int) fe_str)
      (fss_one (fs_ret (fe_ix rfl (fe_dget (hu_of hr) (fv (pv 1)) (fe_ix rfl (fv (pv 0)) fe_int)) (fe_dget (hu_of hr) (fv (pv 1)) (fe_ix rfl (fv (pv 0)) fe_int)))))
      fss_nil)
      (fss_cons (fs_if (ft_eq (fe_ix rfl (fv (pv 0)) fe_int) fe_str)
      (fss_cons (fs_set (i := 3) sc_made.nd rfl (.inl rfl) (fe_dget (hu_of hr) (fv (pv 1)) (fe_ix rfl (fv (pv 0)) fe_int)))
      (fss_cons (fs_set (i := 4) sc_made.nd rfl (.inl rfl) (fe_dget (hu_of hr) (fv (pv 1)) (fe_ix rfl (fv (pv 0)) fe_int)))
      (fss_one (fs_ret (fe_catT rfl (fe_catT rfl (fe_slT rfl (fv (pv 4)) fp_none (fp_some (fv (pv 3)))) (fe_tup (fa_cons (fe_dget (hu_of hr) (fv (pv 1)) (fe_ix rfl (fv (pv 0)) fe_int)) fa_nil))) (fe_slT rfl (fv (pv 4)) (fp_some (fe_add (fv (pv 3)) fe_int)) fp_none))))))
      fss_nil)
      (fss_cons (fs_if (ft_eq (fe_ix rfl (fv (pv 0)) fe_int) fe_str)
      (fss_one (fs_ret (fe_len rfl (by rfl) B.len (fa_cons (fe_dget (hu_of hr) (fv (pv 1)) (fe_ix rfl (fv (pv 0)) fe_int)) fa_nil))))
      fss_nil)
      (fss_cons (fs_if (ft_eq (fe_ix rfl (fv (pv 0)) fe_int) fe_str)
      (fss_one (fs_ret (fe_add (fe_ix rfl (fv (pv 0)) fe_int) (fe_mod (fe_sub (fv (pv 2)) (fe_ix rfl (fv (pv 0)) fe_int)) (fe_add (fe_sub (fe_ix rfl (fv (pv 0)) fe_int) (fe_ix rfl (fv (pv 0)) fe_int)) fe_int)))))
      fss_nil)
      (fss_one (fs_ret (fe_c c_result hr (by decide) (by rfl) (fa_cons (fv (pv 0)) (fa_cons (fv (pv 1)) fa_nil))))))))))))) fun ds P h => ?_
  obtain ⟨wd, h, hs, L, s, word, a, c, rfl, af, fit, ff, mf, w0, w1, q⟩ := h
  cases af with
  | set m k => cases mf; exact ⟨_, at_pos, _, atI_nat (j := 2) rfl, q⟩
  | addP m1 m2 k => cases mf; exact ⟨_, at_pos, _, at_pos, _, at_pos, _, at_pos, _, at_pos, _, at_pos, _, at_pos, h, s, _, _, rfl, .add m2, fit, q⟩
  | addF m1 m2 k => cases mf; exact ⟨_, at_pos, _, at_pos, _, at_pos, _, at_pos, _, at_pos, _, at_pos, _, at_pos, h, s, _, _, rfl, .add (finger_num m2), fit, q⟩
  | sum hw m1 m2 m3 =>
    rename_i wd' x y z
    cases mf
    have hw2 := hw
    simp only [sumWords, List.mem_cons, List.not_mem_nil, or_false] at hw2
    have nz : wd' = "over" ∨ wd' = "rest" → s.num z ≠ 0 := fun k e => by
      have : faultF wd s (.sum wd' x y z) = some ("nought" : Str) := by
        show (if wd' = "over" ∨ wd' = "rest" then (if s.num z = 0 then some ("nought" : Str) else none) else _) = _
        rw [if_pos k, if_pos e]
      rw [this] at ff
      cases ff
    rcases hw2 with rfl | rfl | rfl | rfl | rfl <;> exact ⟨_, at_pos, _, at_pos, _, at_pos, _, at_pos, _, at_pos, _, at_pos, _, at_pos, h, s, _, _, rfl, .sum hw (plain_num m2) (plain_num m3) nz, fit, q⟩
  | midP m1 m2 m3 => cases mf; exact ⟨_, at_pos, _, at_pos, _, atI_nat (j := 2) rfl, _, fit.numAt (plain_num m2), _, atI_nat (j := 3) rfl, _, fit.numAt (plain_num m3), ⟨by decide, by decide⟩, q⟩
  | midF m1 m2 m3 => cases mf; exact ⟨_, at_pos, _, at_pos, _, atI_nat (j := 2) rfl, _, fit.numAt (finger_num m2), _, atI_nat (j := 3) rfl, _, fit.numAt (finger_num m3), ⟨by decide, by decide⟩, q⟩
  | row m1 m2 =>
    rename_i a y
    cases mf
    have n0 : 0 ≤ s.num y := by
      have ff : (if s.num y < 0 then some ("size" : Str) else none) = none := ff
      by_cases k : s.num y < 0
      · rw [if_pos k] at ff; cases ff
      · omega
    have l := fit.less y
    have q : P (.tuple ((List.replicate (s.num y).toNat (0 : Int)).map .int)) := q
    rw [← rep_row] at q
    exact ⟨_, at_pos, _, at_pos, _, at_pos, by show 1 ≤ sizeLine; decide, _, atI_nat (j := 2) rfl, _, fit.numAt m2, fun z => (nomatch z), by decide, n0, by omega, q⟩
  | get m1 m2 m3 =>
    rename_i x a i
    cases mf
    obtain ⟨b0, b1⟩ := spot_of (show spotF s a i = none from ff)
    have lt : (s.num i).toNat < (s.rowOf a).length := by omega
    refine ⟨_, at_pos, _, at_pos, _, at_pos, _, at_pos, _, atI_nat (j := 2) rfl, _, fit.rowAt m2, _, atI_nat (j := 3) rfl, _, fit.numAt m3, .int ((s.rowOf a).getD (s.num i).toNat 0), ?_, q⟩
    have : s.num i = ((s.num i).toNat : Int) := by omega
    rw [this]
    refine atI_nat ?_
    rw [List.getElem?_map, Int.toNat_natCast, List.getElem?_eq_getElem lt, List.getD_eq_getElem?_getD, List.getElem?_eq_getElem lt]
    rfl
  | put m1 m2 m3 =>
    rename_i a i y
    cases mf
    obtain ⟨b0, b1⟩ := spot_of (show spotF s a i = none from ff)
    have lt : (s.num i).toNat < (s.rowOf a).length := by omega
    have sh := fit.short a
    have en : s.num i = ((s.num i).toNat : Int) := by omega
    have c1 : cutL ((s.rowOf a).map PyData.int) none (some (s.num i)) = ((s.rowOf a).take (s.num i).toNat).map .int := by rw [en, cut_to, List.map_take, Int.toNat_natCast]
    have c2 : cutL ((s.rowOf a).map PyData.int) (some (s.num i + 1)) none = ((s.rowOf a).drop ((s.num i).toNat + 1)).map .int := by
      rw [en, show (((s.num i).toNat : Int) + 1) = (((s.num i).toNat + 1 : Nat) : Int) from rfl, cut_from, List.map_drop, Int.toNat_natCast]
    have q : P (.tuple (((s.rowOf a).set (s.num i).toNat (s.num y)).map .int)) := q
    refine ⟨_, at_pos, _, at_pos, _, at_pos, _, at_pos, _, at_pos, _, atI_nat (j := 2) rfl, _, fit.numAt m2, _, atI_nat (j := 1) rfl, _, fit.rowAt m1, _, atI_nat (j := 3) rfl, _, fit.numAt m3, by show 1 ≤ sizeLine; decide, ?_, ?_, ?_⟩
    · show (cutL ((s.rowOf a).map PyData.int) none (some (s.num i))).length + 1 ≤ sizeLine
      rw [c1, List.length_map]
      exact Nat.le_trans (Nat.add_le_add_right (Nat.le_trans (List.length_take_le' _ _) sh) 1) (by decide)
    · show (cutL ((s.rowOf a).map PyData.int) none (some (s.num i)) ++ [PyData.int (s.num y)]).length + (cutL ((s.rowOf a).map PyData.int) (some (s.num i + 1)) none).length ≤ sizeLine
      rw [c1, c2, List.length_append, List.length_map, List.length_map]
      exact Nat.le_trans (Nat.add_le_add (Nat.add_le_add_right (Nat.le_trans (List.length_take_le' _ _) sh) 1) (Nat.le_trans (by rw [List.length_drop]; exact Nat.sub_le _ _) sh)) (by decide)
    · show P (.tuple ((cutL ((s.rowOf a).map PyData.int) none (some (s.num i)) ++ [PyData.int (s.num y)]) ++ cutL ((s.rowOf a).map PyData.int) (some (s.num i + 1)) none))
      rw [c1, c2]
      rw [List.set_eq_take_append_cons_drop, if_pos lt, List.map_append, List.map_cons] at q
      rw [List.append_assoc]
      exact q
  | length m1 m2 =>
    rename_i x a
    cases mf
    have q : P (.int (((s.rowOf a).length : Nat) : Int)) := q
    rw [← List.length_map (as := s.rowOf a) PyData.int] at q
    exact ⟨_, at_pos, _, at_pos, _, at_pos, _, at_pos, _, at_pos, _, at_pos, _, atI_nat (j := 2) rfl, _, fit.rowAt m2, q⟩
  | ask m1 m2 m3 m4 => cases mf; exact ⟨_, at_pos, _, at_pos, _, at_pos, _, at_pos, _, at_pos, _, at_pos, _, at_pos, _, atI_nat (j := 2) rfl, _, atI_nat (j := 2) rfl, _, atI_nat (j := 3) rfl, _, atI_nat (j := 2) rfl, by show _ ≠ (0 : Int); omega, q⟩
  | tell => cases mf
  | check => cases mf
  | ite => cases mf
  | go => cases mf
  | call => cases mf
  | back => cases mf
end
end Dr

set_option maxRecDepth 100000
set_option maxHeartbeats 3900000
namespace Dr
open PySem PySem.Spec PyProof.Rows L2 K Lf
section
variable {P : Program} {w : World} {K : PySem.W.Frag} [Tabled K] {mg : Str → Option Value} {base : Heap}
abbrev s_next_place : Stmt := topS 9
theorem sc_next_place : FnScope ["program", "place", "steps", "number"] ["program", "place"] (defScope s_next_place) := ⟨rfl, rfl, rfl, by decide +kernel, rfl, by decide +kernel, by decide +kernel⟩
def phNext : Ph := fun ds P => ∃ (p : Pg) (d : Df) (k : Nat) (s : Stp), ds = [p.d, plD (d.name, s.1)] ∧ Listed p ∧ d ∈ p.defs ∧ d.steps[k]? = some s ∧ P (match d.steps[k + 1]? with
  | some t => plD (d.name, t.1)
  | none => .none)
theorem ok_next_place (B : Bs mg) (c_def_at : C8.Cal P w K mg base 1 "def_at" (spP K phDefAt) []) (c_number_of : C8.Cal P w K mg base 1 "_number_of" (spP K phNum) []) {f : Addr} {fd : FuncData} (F : Fun K "next_place" "next_place" s_next_place f fd) : FnOk P w K mg base CX0 2 f fd ["program", "place"] (spP K phNext) := by
  refine okP F sc_next_place (fun ds P ⟨p, d, k, s, e, _⟩ => by rw [e]; rfl)
    (fun cdv A outer s H E hr => (fss_cons (fs_set (i := 2) sc_next_place.nd rfl (.inl rfl) (fe_ix rfl (fe_c c_def_at hr (by decide) (by rfl) (fa_cons (fv (pv 0)) (fa_cons (fe_ix rfl (fv (pv 1)) fe_int) fa_nil))) fe_int))
      (fss_cons (fs_set (i := 3) sc_next_place.nd rfl (.inl rfl) (fe_add (fe_c c_number_of hr (by decide) (by rfl) (fa_cons (fv (pv 2)) (fa_cons (fe_ix rfl (fv (pv 1)) fe_int) fa_nil))) fe_int))
      (fss_cons (fs_if (ft_eq (fv (pv 3)) (fe_len rfl (by rfl) B.len (fa_cons (fv (pv 2)) fa_nil)))
      (fss_one (fs_ret fe_non))
      fss_nil)
      (fss_one (fs_ret (fe_tup (fa_cons (fe_ix rfl (fv (pv 1)) fe_int) (fa_cons (fe_ix rfl (fe_ix rfl (fv (pv 2)) (fv (pv 3))) fe_int) fa_nil))))))))) fun ds P h => ?_
  obtain ⟨p, d, k, s, rfl, ok, hd, hk, q⟩ := h
  have lt := (List.getElem?_eq_some_iff.mp hk).1
  refine ⟨_, rfl, p, d, rfl, ok, hd, _, rfl, _, rfl, d.steps, k, s, rfl, ok.labs d hd, ok.short d hd, hk, ?_⟩
  refine ite2 (fun c => ?_) fun c => ?_
  · have c : ((k : Nat) : Int) + 1 = ((d.steps.map stpD).length : Nat) := of_decide_eq_true c
    rw [List.length_map] at c
    have : d.steps[k + 1]? = none := List.getElem?_eq_none (by omega)
    rw [this] at q
    exact q
  · have c : ¬ ((k : Nat) : Int) + 1 = ((d.steps.map stpD).length : Nat) := fun e => c (decide_eq_true e)
    rw [List.length_map] at c
    have l2 : k + 1 < d.steps.length := by omega
    rw [List.getElem?_eq_getElem l2] at q
    refine ⟨_, rfl, stpD d.steps[k + 1], ?_, _, rfl, by show 2 ≤ sizeLine; decide, q⟩
    show atI (d.steps.map stpD) (((k + 1 : Nat) : Int)) = _
    exact atI_nat (by rw [List.getElem?_map, List.getElem?_eq_getElem l2]; rfl)
abbrev s_changed : Stmt := topS 19
theorem sc_changed : FnScope ["act", "state", "word", "after"] ["act", "state", "word"] (defScope s_changed) := ⟨rfl, rfl, rfl, by decide +kernel, rfl, by decide +kernel, by decide +kernel⟩
def phChanged : Ph := fun ds P => ∃ (wd : Int) (h : Hd) (hs : List Hd) (L : Int → Prop) (s : Sta) (word : Int) (a : Act), ds = [a.d, s.d, .int word] ∧ AFit h hs wd L a ∧ s.Fit h ∧ s.length ≤ 1000 ∧ faultF wd s a = none ∧ 0 ≤ wd ∧ wd ≤ 1000 ∧ a.word ∉ (["go", "call", "back"] : List Str) ∧ P (changedF s word a).d
theorem ok_changed (B : Bs mg) (c_made : C8.Cal P w K mg base 3 "_made" (spP K phMade) []) {f : Addr} {fd : FuncData} (F : Fun K "_changed" "_changed" s_changed f fd) : FnOk P w K mg base CX0 4 f fd ["act", "state", "word"] (spO K phChanged) := by
  refine okO F sc_changed (fun ds P ⟨wd, h, hs, L, s, wo, a, e, _⟩ => by rw [e]; rfl)
    (fun cdv A outer s H E hr => (fss_cons (fs_setO (i := 3) sc_changed.nd rfl (.inl rfl) (fo_dictOf (by rfl) B.dict (fa_cons (fv (pv 1)) fa_nil)))
      (fss_cons (fs_if (ft_notIn rfl (fe_ix rfl (fv (pv 0)) fe_int) (fe_tup (fa_cons fe_str (fa_cons fe_str (fa_cons fe_str fa_nil)))))
      (fss_one (fs_subD (fe_c c_made hr (by decide) (by rfl) (fa_cons (fv (pv 0)) (fa_cons (fv (pv 1)) (fa_cons (fv (pv 2)) fa_nil)))) (pv 3) (fe_ix rfl (fv (pv 0)) fe_int) (hu_of hr)))
      fss_nil)
      (fss_one (fs_retO (fo_var (pv 3))))))) fun ds P h => ?_
  obtain ⟨wd, h, hs, L, s, word, a, rfl, af, fit, few, ff, w0, w1, nw, q⟩ := h
  have sd : simpleD s.kvs := by
    cases s with
    | nil => exact .inl rfl
    | cons p r => exact .inr ⟨.inr p.1, _, _, rfl⟩
  have fl : s.kvs.length < sizeLine := by
    unfold Sta.kvs
    rw [List.length_map]
    exact Nat.lt_of_le_of_lt few (by decide)
  have pk : ∀ {x : Str} {c : Cel}, P (s.put x c).d → P (.dict (putD (.inr x) c.d s.kvs)) := fun {x c} q => by
    rw [Sta.put_kvs]
    exact q
  refine ⟨sd, ?_⟩
  have af0 := af
  cases af with
  | tell m =>
    refine ⟨_, at_pos, by show 3 ≤ sizeLine; decide, ⟨rfl, rfl⟩, ?_⟩
    exact q
  | check =>
    refine ⟨_, at_pos, by show 3 ≤ sizeLine; decide, ⟨rfl, rfl⟩, ?_⟩
    exact q
  | ite =>
    refine ⟨_, at_pos, by show 3 ≤ sizeLine; decide, ⟨rfl, rfl⟩, ?_⟩
    exact q
  | go => exact absurd (List.mem_cons_self) nw
  | call => exact absurd (List.mem_cons_of_mem _ List.mem_cons_self) nw
  | back => exact absurd (List.mem_cons_of_mem _ (List.mem_cons_of_mem _ List.mem_cons_self)) nw
  | set =>
    refine ⟨_, at_pos, by show 3 ≤ sizeLine; decide, ⟨rfl, rfl⟩, ?_⟩
    refine ⟨wd, h, hs, L, s, word, _, _, rfl, af0, fit, ff, rfl, w0, w1, ?_⟩
    refine ⟨⟨_, rfl⟩, _, rfl, ?_⟩
    refine ⟨.inr _, _, rfl, rfl, fl, ?_⟩
    exact pk q
  | addP =>
    refine ⟨_, at_pos, by show 3 ≤ sizeLine; decide, ⟨rfl, rfl⟩, ?_⟩
    refine ⟨wd, h, hs, L, s, word, _, _, rfl, af0, fit, ff, rfl, w0, w1, ?_⟩
    refine ⟨⟨_, rfl⟩, _, rfl, ?_⟩
    refine ⟨.inr _, _, rfl, rfl, fl, ?_⟩
    exact pk q
  | addF =>
    refine ⟨_, at_pos, by show 3 ≤ sizeLine; decide, ⟨rfl, rfl⟩, ?_⟩
    refine ⟨wd, h, hs, L, s, word, _, _, rfl, af0, fit, ff, rfl, w0, w1, ?_⟩
    refine ⟨⟨_, rfl⟩, _, rfl, ?_⟩
    refine ⟨.inr _, _, rfl, rfl, fl, ?_⟩
    exact pk q
  | midP =>
    refine ⟨_, at_pos, by show 3 ≤ sizeLine; decide, ⟨rfl, rfl⟩, ?_⟩
    refine ⟨wd, h, hs, L, s, word, _, _, rfl, af0, fit, ff, rfl, w0, w1, ?_⟩
    refine ⟨⟨_, rfl⟩, _, rfl, ?_⟩
    refine ⟨.inr _, _, rfl, rfl, fl, ?_⟩
    exact pk q
  | midF =>
    refine ⟨_, at_pos, by show 3 ≤ sizeLine; decide, ⟨rfl, rfl⟩, ?_⟩
    refine ⟨wd, h, hs, L, s, word, _, _, rfl, af0, fit, ff, rfl, w0, w1, ?_⟩
    refine ⟨⟨_, rfl⟩, _, rfl, ?_⟩
    refine ⟨.inr _, _, rfl, rfl, fl, ?_⟩
    exact pk q
  | row =>
    refine ⟨_, at_pos, by show 3 ≤ sizeLine; decide, ⟨rfl, rfl⟩, ?_⟩
    refine ⟨wd, h, hs, L, s, word, _, _, rfl, af0, fit, ff, rfl, w0, w1, ?_⟩
    refine ⟨⟨_, rfl⟩, _, rfl, ?_⟩
    refine ⟨.inr _, _, rfl, rfl, fl, ?_⟩
    exact pk q
  | get =>
    refine ⟨_, at_pos, by show 3 ≤ sizeLine; decide, ⟨rfl, rfl⟩, ?_⟩
    refine ⟨wd, h, hs, L, s, word, _, _, rfl, af0, fit, ff, rfl, w0, w1, ?_⟩
    refine ⟨⟨_, rfl⟩, _, rfl, ?_⟩
    refine ⟨.inr _, _, rfl, rfl, fl, ?_⟩
    exact pk q
  | put =>
    refine ⟨_, at_pos, by show 3 ≤ sizeLine; decide, ⟨rfl, rfl⟩, ?_⟩
    refine ⟨wd, h, hs, L, s, word, _, _, rfl, af0, fit, ff, rfl, w0, w1, ?_⟩
    refine ⟨⟨_, rfl⟩, _, rfl, ?_⟩
    refine ⟨.inr _, _, rfl, rfl, fl, ?_⟩
    exact pk q
  | length =>
    refine ⟨_, at_pos, by show 3 ≤ sizeLine; decide, ⟨rfl, rfl⟩, ?_⟩
    refine ⟨wd, h, hs, L, s, word, _, _, rfl, af0, fit, ff, rfl, w0, w1, ?_⟩
    refine ⟨⟨_, rfl⟩, _, rfl, ?_⟩
    refine ⟨.inr _, _, rfl, rfl, fl, ?_⟩
    exact pk q
  | ask =>
    refine ⟨_, at_pos, by show 3 ≤ sizeLine; decide, ⟨rfl, rfl⟩, ?_⟩
    refine ⟨wd, h, hs, L, s, word, _, _, rfl, af0, fit, ff, rfl, w0, w1, ?_⟩
    refine ⟨⟨_, rfl⟩, _, rfl, ?_⟩
    refine ⟨.inr _, _, rfl, rfl, fl, ?_⟩
    exact pk q
  | sum hs1 hx hy hz =>
    simp only [sumWords, List.mem_cons, List.not_mem_nil, or_false] at hs1
    rcases hs1 with rfl | rfl | rfl | rfl | rfl <;>
    (refine ⟨_, at_pos, by show 3 ≤ sizeLine; decide, ⟨rfl, rfl⟩, ?_⟩
     refine ⟨wd, h, hs, L, s, word, _, _, rfl, af0, fit, ff, rfl, w0, w1, ?_⟩
     refine ⟨⟨_, rfl⟩, _, rfl, ?_⟩
     refine ⟨.inr _, _, rfl, rfl, fl, ?_⟩
     exact pk q)
end
end Dr

set_option maxRecDepth 100000
set_option maxHeartbeats 3900000
namespace Lf
open PySem PySem.Spec PyProof.Rows L2 K
/-! # data with dicts: shown, compared -/
mutual
/-- a list is in it -/
def listD : PyData → Bool
  | .list _ => true
  | .tuple ds => listAll ds
  | .dict kvs => listKv kvs
  | _ => false
def listAll : List PyData → Bool
  | [] => false
  | d :: r => listD d || listAll r
def listKv : List (PyData × PyData) → Bool
  | [] => false
  | (_, d) :: r => listD d || listKv r
end
section
variable {X : Cx} {pins : List (Addr × Obj)} {σ : L2.St} {H : Hp} {s :
    Shared}
theorem nosysK (I : Inv X pins σ H s) {a : Addr} {kvs : List (Key × V)} (e : H a = some (.dK kvs)) : a ≠ sysModules := fun z => by
  obtain ⟨_, ya, _⟩ := (show ObjOk X.prog X.w H s.heap a (.dK kvs) from I.hok a _ e)
  rw [z] at ya
  exact absurd ya (by decide)
theorem nosysT (I : Inv X pins σ H s) {a : Addr} {kvs : List (List Key × V)} (e : H a = some (.dT kvs)) : a ≠ sysModules := fun z => by
  obtain ⟨_, ya, _⟩ := (show ObjOk X.prog X.w H s.heap a (.dT kvs) from I.hok a _ e)
  rw [z] at ya
  exact absurd ya (by decide)
theorem key_reads {h : Heap} {k : Key} {v : Value} (e : keyIs k v = true) : Reads h v (kD k) [] := by
  rcases keyIs_shape e with ⟨i, t, rfl, rfl⟩ | ⟨x, t, rfl, rfl⟩
  · exact .int i t
  · exact .str x t
theorem keys_reads {h : Heap} : ∀ {ks : List Key} {us : List Value}, Vals (ks.map kV) us → ReadsAll h us (ks.map kD) []
  | [], _, .nil => .nil
  | .inl i :: r, _, .cons ⟨t, e⟩ hr => by
    subst e
    exact (ReadsAll.cons (.int i t) (keys_reads (ks := r) hr) : ReadsAll h _ _ ([] ++ []))
  | .inr x :: r, _, .cons ⟨t, e⟩ hr => by
    subst e
    exact (ReadsAll.cons (.str x t) (keys_reads (ks := r) hr) : ReadsAll h _ _ ([] ++ []))
mutual
theorem Rp.rd (I : Inv X pins σ H s) : ∀ {v : V} {d : PyData} {u : Value}, Rp X.K H v d → RelV v u → listD d = false → ∃ as, Reads s.heap u d as ∧ sysModules ∉ as
  | _, _, _, .non, r, _ => by cases r; exact ⟨[], .none, by simp⟩
  | _, _, _, .bl b, r, _ => by cases r; exact ⟨[], .bool b, by simp⟩
  | _, _, _, .int i, r, _ => by obtain ⟨t, rfl⟩ := r; exact ⟨[], .int i t, by simp⟩
  | _, _, _, .str x, r, _ => by obtain ⟨t, rfl⟩ := r; exact ⟨[], .str x t, by simp⟩
  | _, _, _, .lst (a := a) h ra, r, z => nomatch z
  | _, _, _, .tup (a := a) h ra, r, nl => by
    cases (show _ = Value.ref a from r)
    obtain ⟨its, rv, ⟨o, ho, hc, n, hd⟩, _⟩ := I.tuple h
    obtain ⟨as, q, no⟩ := RpAll.rd I ra rv nl
    exact ⟨_, Reads.tuple ho hc hd (by simpa using q), no⟩
  | _, _, _, .dic (a := a) (kvs := kvs) h rk, r, nl => by
    cases (show _ = Value.ref a from r)
    obtain ⟨_, ya, va, ra, o, es, ep, ho, hx, hd, _, hp, _⟩ := (show ObjOk X.prog X.w H s.heap a (.dK kvs) from I.hok a _ h)
    obtain ⟨as, bs, q1, q2, n1, n2⟩ := RpK.rd I rk ra hp nl
    exact ⟨_, Reads.dict ho hx.1 hd q1 q2, by
      intro z
      rcases List.mem_append.mp z with z | z
      · exact (List.mem_cons.mp z).elim (fun e => nosysK I h e.symm) n1
      · exact n2 z⟩
  | _, _, _, .dit (a := a) (kvs := kvs) h _ rk, r, nl => by
    cases (show _ = Value.ref a from r)
    obtain ⟨_, ya, xs, ra, o, es, ep, ho, hx, hd, he, _⟩ := (show ObjOk X.prog X.w H s.heap a (.dT kvs) from I.hok a _ h)
    obtain ⟨as, bs, q1, q2, n1, n2⟩ := RpT.rd I rk ra nl
    have e1 : es.toList.map (·.key) = xs.map fun q => Value.ref q.2.1 := by rw [he, List.map_map]; rfl
    have e2 : es.toList.map (·.val) = xs.map fun q => q.2.2 := by rw [he, List.map_map]; rfl
    exact ⟨_, Reads.dict ho hx.1 hd (by rw [e1]; exact q1) (by rw [e2]; exact q2), by
      intro z
      rcases List.mem_append.mp z with z | z
      · exact (List.mem_cons.mp z).elim (fun e => nosysT I h e.symm) n1
      · exact n2 z⟩
theorem RpAll.rd (I : Inv X pins σ H s) : ∀ {vs : List V} {ds : List PyData} {us : List Value}, RpAll X.K H vs ds → Vals vs us → listAll ds = false → ∃ as, ReadsAll s.heap us ds as ∧ sysModules ∉ as
  | _, _, _, .nil, r, _ => by cases r; exact ⟨[], .nil, by simp⟩
  | _, _, _, .cons (d := d) (ds := ds) h t, r, nl => by
    have nl : (listD d || listAll ds) = false := nl
    rw [Bool.or_eq_false_iff] at nl
    cases r with
    | cons r1 r2 =>
      obtain ⟨as, q1, n1⟩ := Rp.rd I h r1 nl.1
      obtain ⟨bs, q2, n2⟩ := RpAll.rd I t r2 nl.2
      exact ⟨_, .cons q1 q2, fun z => (List.mem_append.mp z).elim n1 n2⟩
theorem RpK.rd (I : Inv X pins σ H s) : ∀ {kvs : List (Key × V)} {ds : List (PyData × PyData)} {va : List (Key × Value)} {es : List DictEntry}, RpK X.K H kvs ds → KV kvs va → Pairs (mixKind X.prog X.w) es va → listKv ds = false →
    ∃ as bs, ReadsAll s.heap (es.map (·.key)) (ds.map (·.1)) as ∧ ReadsAll s.heap (es.map (·.val)) (ds.map (·.2)) bs ∧ sysModules ∉ as ∧ sysModules ∉ bs
  | _, _, _, _, .nil, r, p, _ => by
    cases r
    cases p
    exact ⟨[], [], .nil, .nil, by simp, by simp⟩
  | _, _, _, _, .cons (k := k) (v := v) (d := d) (ds := ds) h t, .cons (b := b) ⟨h1, h2⟩ r2, .cons (e := e) k1 k2 kr, nl => by
    have nl : (listD d || listKv ds) = false := nl
    rw [Bool.or_eq_false_iff] at nl
    have h1 : k = b.1 := h1
    rw [← h1] at k1
    have h2 : RelV v e.val := by rw [k2]; exact h2
    obtain ⟨as, q1, n1⟩ := Rp.rd I h h2 nl.1
    obtain ⟨cs, bs, q2, q3, n2, n3⟩ := RpK.rd I t r2 kr nl.2
    exact ⟨_, _, .cons (key_reads k1) q2, .cons q1 q3, by simpa using n2, fun z => (List.mem_append.mp z).elim n1 n3⟩
theorem RpT.rd (I : Inv X pins σ H s) : ∀ {kvs : List (List Key × V)} {ds : List (PyData × PyData)} {xs : List (List Key × Addr × Value)}, RpT X.K H kvs ds →
    Paired (fun (p : List Key × V) (q : List Key × Addr × Value) => p.1 = q.1 ∧ H q.2.1 = some (.tup (p.1.map kV)) ∧ RelV p.2 q.2.2) kvs xs → listKv ds = false →
    ∃ as bs, ReadsAll s.heap (xs.map fun q => Value.ref q.2.1) (ds.map (·.1)) as ∧ ReadsAll s.heap (xs.map fun q => q.2.2) (ds.map (·.2)) bs ∧ sysModules ∉ as ∧ sysModules ∉ bs
  | _, _, _, .nil, r, _ => by
    cases r
    exact ⟨[], [], .nil, .nil, by simp, by simp⟩
  | _, _, _, .cons (k := k) (d := d) (ds := ds) h t, r, nl => by
    have nl : (listD d || listKv ds) = false := nl
    rw [Bool.or_eq_false_iff] at nl
    cases r with
    | @cons _ b _ _ r1 r2 =>
      obtain ⟨h0, h1, h2⟩ := r1
      obtain ⟨as, q1, n1⟩ := Rp.rd I h h2 nl.1
      obtain ⟨cs, bs, q2, q3, n2, n3⟩ := RpT.rd I t r2 nl.2
      obtain ⟨its, rv, ⟨o, ho, hc, n, hd⟩, _⟩ := I.tuple (SqT.of h1)
      have kk : Reads s.heap (.ref b.2.1) (.tuple (k.map kD)) [] := Reads.tuple ho hc hd (by simpa using keys_reads rv)
      exact ⟨_, _, .cons kk q2, .cons q1 q3, by simpa using n2, fun z => (List.mem_append.mp z).elim n1 n3⟩
end
end
section
variable {X : Cx} {K : PySem.W.Frag} [Tabled K] {e a b : Expr} {τs : FTa} {τa τb : FT} {p pos : Pos}
def contD : PyData → Bool
  | .list _ => true
  | .tuple _ => true
  | .dict _ => true
  | _ => false
theorem cont_ref {G : Hp} {v : V} {d : PyData} (h : Rp K G v d) (c : contD d = true) : ∃ a, v = .ref a := by
  cases h <;> first
    | exact ⟨_, rfl⟩
    | cases c
/-- repr(x), dicts too -/
def fReprW (τs : FTa) : FT := fun o P => τs o fun ds o1 => match ds with
  | [d] => contD d = true ∧ listD d = false ∧ d.showable = true ∧ d.depth ≤ 30 ∧ d.shown.length ≤ sizeLine ∧ P (.str d.shown) o1
  | _ => False
def rRepD (K : PySem.W.Frag) : List V → Hp → VK → Prop := fun xs H Q => ∃ (p : Addr) (d : PyData), xs = [.ref p] ∧ Rp K H (.ref p) d ∧ listD d = false ∧ d.showable = true ∧ d.depth ≤ 30 ∧ d.shown.length ≤ sizeLine ∧ Q (.str d.shown) H
theorem call_repDd (hg : X.A.guards = some []) (hu : X.A.units + 64 < cLine) : CallR X (.builtin "repr") (rRepD X.K) := by
  rintro pins s σ H xs us Q I r ⟨p, d, rfl, hd, nl, hs, hdep, hz, q⟩
  rcases vals1 r with ⟨u, rfl, rx⟩
  cases (show u = Value.ref p from rx)
  obtain ⟨as, ra, no⟩ := hd.rd I rfl nl
  exact repr_of_reads' ra hs (fun _ => no) hg (by omega) (fun _ _ e => e) (fun h' u tk hk' => ⟨.str _, H, I.kept (t' := tk) hk', ⟨_, rfl⟩, q⟩) hz
theorem fe_reprW (hK : X.K = K) (hq : X.A.guards = some []) (hu : X.A.units + 64 < cLine) (hg : Gl X "repr") (hm : X.mg "repr" = none) (ha : PA X [e] (upA K τs)) (he : starEach [e] X.env = (false, eval e X.env) :: starEach [] X.env := by rfl) : PE X (.Call (.Name "repr" p) [e] [] pos) (up K (fReprW τs)) := by
  subst hK
  exact PE.imp (pe_callB (call_repDd hq hu) hg hm (by decide +kernel) ha (by decide) (by decide) he rfl) fun σ H Q ⟨c, G, om, P, r, h, k⟩ => ⟨c, G, om, _, r, h, fun ds o1 G1 vs H1 p g r1 q => by
    split at p
    · rename_i d
      obtain ⟨v, rfl, hv⟩ := q.one
      obtain ⟨cd, h1, h2, h3, h4, pp⟩ := p
      obtain ⟨a, rfl⟩ := cont_ref hv cd
      exact ⟨a, d, rfl, hv.same r1.sub, h1, h2, h3, h4, k _ o1 G1 _ H1 pp g r1 (.str _)⟩
    · exact p.elim⟩
/-! ## x == y, of like things -/
/-- what can be told to be like itself: no dict in it, or tuples, lists, dicts of names of such things, not deep -/
inductive Like : Nat → PyData → Prop
  | flat {n : Nat} {d : PyData} : d.hasDict = false → PySem.SeqAt.shaped d = true → Like n d
  | lst {n : Nat} {ds : List PyData} : (∀ d ∈ ds, Like n d) → Like (n + 1) (.list ds)
  | tup {n : Nat} {ds : List PyData} : (∀ d ∈ ds, Like n d) → Like (n + 1) (.tuple ds)
  | dic {n : Nat} {kvs : List (Key × PyData)} : (kvs.map (·.1)).Nodup → (∀ p ∈ kvs, Like n p.2) → Like (n + 1) (.dict (kvs.map fun p => (kD p.1, p.2)))
theorem rpk_keys {H : Hp} : ∀ {es : List (Key × V)} {kvs : List (Key × PyData)}, RpK K H es (kvs.map fun p => (kD p.1, p.2)) → es.map (·.1) = kvs.map (·.1) ∧ RpAll K H (es.map (·.2)) (kvs.map (·.2))
  | es, [], h => by
    cases h
    exact ⟨rfl, .nil⟩
  | es, (k, d) :: r, h => by
    generalize e : (((k, d) :: r).map fun p : Key × PyData => (kD p.1, p.2)) = m at h
    cases h with
    | nil => cases e
    | @cons k' v vs d' ds h1 h2 =>
      injection e with e1 e2
      obtain ⟨e3, e4⟩ := Prod.mk.inj e1
      have e3 : kD k = kD k' := e3
      have e4 : d = d' := e4
      have e5 : k = k' := by
        have := congrArg keyOf e3
        rw [keyOf_kD, keyOf_kD] at this
        exact Option.some.inj this
      subst e5 e4
      rw [← e2] at h2
      obtain ⟨a, b⟩ := rpk_keys h2
      exact ⟨by rw [List.map_cons, List.map_cons, a], .cons h1 b⟩
theorem valV_at : ∀ {es : List (Key × V)} {i : Nat} {p : Key × V}, (es.map (·.1)).Nodup → es[i]? = some p → valV es p.1 = some p.2
  | e :: r, 0, p, _, h => by
    cases h
    unfold valV
    rw [List.find?_cons]
    simp
  | e :: r, i + 1, p, nd, h => by
    rw [List.map_cons, List.nodup_cons] at nd
    have ih := valV_at nd.2 (show r[i]? = some p from h)
    have ne : e.1 ≠ p.1 := fun z => nd.1 (by rw [z]; exact List.mem_map_of_mem (List.mem_of_getElem? h))
    unfold valV at ih ⊢
    rw [List.find?_cons, decide_eq_false ne]
    exact ih
theorem like_pair {H : Hp} {n : Nat} (ih : ∀ {v v' : V} {d : PyData}, Like n d → Rp K H v d → Rp K H v' d → EqW K H (n + 1) v v') : ∀ {vs ws : List V} {ds : List PyData}, (∀ d ∈ ds, Like n d) → RpAll K H vs ds → RpAll K H ws ds → Paired (EqW K H (n + 1)) vs ws
  | _, _, _, _, .nil, .nil => .nil
  | _, _, _, l, .cons h1 r1, .cons h2 r2 => .cons (ih (l _ List.mem_cons_self) h1 h2) (like_pair ih (fun d m => l d (List.mem_cons_of_mem _ m)) r1 r2)
theorem like_dic {H : Hp} {n : Nat} (ih : ∀ {v v' : V} {d : PyData}, Like n d → Rp K H v d → Rp K H v' d → EqW K H (n + 1) v v') {a b : Addr} {kvs : List (Key × PyData)} (nd : (kvs.map (·.1)).Nodup) (l : ∀ p ∈ kvs, Like n p.2)
    (h1 : Rp K H (.ref a) (.dict (kvs.map fun p => (kD p.1, p.2)))) (h2 : Rp K H (.ref b) (.dict (kvs.map fun p => (kD p.1, p.2)))) : EqR K H (EqW K H (n + 1)) (.ref a) (.ref b) := by
  have sd : simpleD (kvs.map fun p => (kD p.1, p.2)) := by
    cases kvs with
    | nil => exact .inl rfl
    | cons p r => exact .inr ⟨p.1, p.2, _, rfl⟩
  obtain ⟨a', es, e1, e2, e3⟩ := dic_simple h1 sd
  obtain ⟨b', fs, f1, f2, f3⟩ := dic_simple h2 sd
  cases e1
  cases f1
  obtain ⟨k1, r1⟩ := rpk_keys e3
  obtain ⟨k2, r2⟩ := rpk_keys f3
  refine .inr ⟨a, b, es, fs, rfl, rfl, e2, f2, by rw [e3.len, f3.len], fun p hp => ?_⟩
  obtain ⟨i, hi⟩ := List.getElem?_of_mem hp
  have hk : (es.map (·.1))[i]? = some p.1 := by rw [List.getElem?_map, hi]; rfl
  rw [k1, ← k2, List.getElem?_map] at hk
  cases hf : fs[i]? with
  | none => rw [hf] at hk; cases hk
  | some q =>
    rw [hf] at hk
    have hk : q.1 = p.1 := Option.some.inj hk
    have hv := valV_at (by rw [k2]; exact nd) hf
    rw [hk] at hv
    refine ⟨q.2, hv, ?_⟩
    obtain ⟨d, d1, d2⟩ := r1.at (i := i) (v := p.2) (by rw [List.getElem?_map, hi]; rfl)
    obtain ⟨d', d3, d4⟩ := r2.at (i := i) (v := q.2) (by rw [List.getElem?_map, hf]; rfl)
    rw [d1] at d3
    cases d3
    rw [List.getElem?_map] at d1
    cases hz : kvs[i]? with
    | none => rw [hz] at d1; cases d1
    | some z =>
      rw [hz] at d1
      cases d1
      exact ih (l z (List.mem_of_getElem? hz)) d2 d4
theorem like_eqW {H : Hp} : ∀ {n : Nat} {v v' : V} {d : PyData}, Like n d → Rp K H v d → Rp K H v' d → EqW K H (n + 1) v v'
  | _, _, _, d, .flat f s, h1, h2 => .inl ⟨d, h1.dp f, h2.dp f, s⟩
  | _ + 1, _, _, _, .lst l, h1, h2 => by
    obtain ⟨a, xs, rfl, e1, r1⟩ := h1.lstI
    obtain ⟨b, ys, rfl, e2, r2⟩ := h2.lstI
    exact .inr (.inr (.inr (.inl ⟨a, b, xs, ys, rfl, rfl, SqL.of e1, SqL.of e2, like_pair like_eqW l r1 r2⟩)))
  | _ + 1, _, _, _, .tup l, h1, h2 => by
    obtain ⟨a, xs, rfl, e1, r1⟩ := h1.tupI
    obtain ⟨b, ys, rfl, e2, r2⟩ := h2.tupI
    exact .inr (.inr (.inl ⟨a, b, xs, ys, rfl, rfl, e1, e2, like_pair like_eqW l r1 r2⟩))
  | _ + 1, _, _, _, .dic nd l, h1, h2 => by
    obtain ⟨a, rfl, _⟩ := h1.dicI
    obtain ⟨b, rfl, _⟩ := h2.dicI
    exact .inr (.inr (.inr (like_dic like_eqW nd l h1 h2)))
/-- .. tuples, lists, dicts -/
inductive LikeC (n : Nat) : PyData → Prop
  | lst {ds : List PyData} : (∀ d ∈ ds, Like n d) → LikeC n (.list ds)
  | tup {ds : List PyData} : (∀ d ∈ ds, Like n d) → LikeC n (.tuple ds)
  | dic {kvs : List (Key × PyData)} : (kvs.map (·.1)).Nodup → (∀ p ∈ kvs, Like n p.2) → LikeC n (.dict (kvs.map fun p => (kD p.1, p.2)))
theorem LikeC.like {n : Nat} {d : PyData} (h : LikeC n d) : Like (n + 1) d := by
  cases h with
  | lst l => exact .lst l
  | tup l => exact .tup l
  | dic a b => exact .dic a b
/-- x == y of two that are alike, tuples, lists or dicts -/
def fEqL : Fr2 := fun x y o P => x = y ∧ (∃ n, n ≤ 27 ∧ LikeC n x) ∧ P (.bool true) o
theorem fr_eqL : FR2 K (rEqW K) fEqL := fun c G o σ H x y d e P Q r hx hy ⟨ed, ⟨n, hn, l⟩, h⟩ w => by
  subst ed
  have q : Q (.bl true) H := w _ o G _ H h (Same.refl G) r (.bl _)
  have x1 := hx.same r.sub
  have y1 := hy.same r.sub
  cases l with
  | lst l =>
    obtain ⟨a, xs, rfl, e1, r1⟩ := x1.lstI
    obtain ⟨b, ys, rfl, e2, r2⟩ := y1.lstI
    exact ⟨n + 1, by omega, .inr (.inl ⟨a, b, xs, ys, rfl, rfl, SqL.of e1, SqL.of e2, like_pair like_eqW l r1 r2⟩), q⟩
  | tup l =>
    obtain ⟨a, xs, rfl, e1, r1⟩ := x1.tupI
    obtain ⟨b, ys, rfl, e2, r2⟩ := y1.tupI
    exact ⟨n + 1, by omega, .inl ⟨a, b, xs, ys, rfl, rfl, e1, e2, like_pair like_eqW l r1 r2⟩, q⟩
  | dic nd l =>
    obtain ⟨a, rfl, _⟩ := x1.dicI
    obtain ⟨b, rfl, _⟩ := y1.dicI
    exact ⟨n + 1, by omega, .inr (like_dic like_eqW nd l x1 y1), q⟩
theorem fe_eqL (hu : X.A.units + 128 < cLine) (hK : X.K = K) (ha : PE X a (up K τa)) (hb : PE X b (up K τb)) (hm : behindInMarks .Eq b = false := by exact nomark _) : PE X (.Compare a [.Eq] [b] pos) (up K (fOp fEqL τa τb)) := by
  subst hK
  exact fe_cmp (op_eqW hu) fr_eqL ha hb hm
theorem hu128 {j : Nat} {A : Around} (hr : Room j A) : A.units + 128 < cLine := by have := hr.un; omega
end
end Lf

set_option maxRecDepth 100000
set_option maxHeartbeats 3900000
namespace Lf
open PySem PySem.Spec PyProof.Rows L2 K
/-! # what is told has new parts; defaults -/
def spF (K : PySem.W.Frag) [Tabled K] (φ : Ph) : Sp := fun vs H Q _ => ∃ G ds P, Rdy K G H ∧ RpAll K G vs ds ∧ φ ds P ∧ ∀ d v G' H', P d → ExtT K H H' → Same G G' → Rdy K G' H' → New G H G' → Rz K (fun a => H a = none) G' v d → Q v H'
def endsF (P : PyData → Prop) : Fe := { nx := fun _ => False, rt := fun d _ => immD d = true ∧ P d, rf := fun d _ => P d }
/-- fresh for a frame -/
abbrev Zc (c : Fc) (G : Hp) : Addr → Prop := fun a => G a = none ∧ c.H0 a = none
def upF (K : PySem.W.Frag) [Tabled K] (τ : FT) : TE := fun σ H Q => ∃ c G o P, Rs K c G o σ H ∧ τ o P ∧ ∀ d o' G' v H', P d o' → Same G G' → Rs K c G' o' σ H' → Rz K (Zc c G) G' v d → Q v H'
theorem none_below {G G1 H : Hp} (g : Same G G1) (s : Same G1 H) {a : Addr} (z : H a = none) : G a = none := by
  cases e : G a with
  | none => rfl
  | some y =>
    rw [s a y (g a y e)] at z
    cases z
section
variable {K : PySem.W.Frag} [Tabled K] {φ : Ph}
theorem spF_P {vs : List V} {H : Hp} {Q : VK} {E : XK} (h : spP K φ vs H Q E) : spF K φ vs H Q E :=
  let ⟨G, ds, P, r, q, p, k⟩ := h
  ⟨G, ds, P, r, q, p, fun d v G' H' pd s g r' n rz => k d v G' H' pd s g r' n rz.rp⟩
theorem cont_F {G H : Hp} {P : PyData → Prop} {Q : VK} (q : ∀ d v G' H', P d → ExtT K H H' → Same G G' → Rdy K G' H' → New G H G' → Rz K (fun a => H a = none) G' v d → Q v H') : Cont K ⟨none, H, G⟩ G (endsF P) { nx := fun _ H' => Q .non H', rt := Q } where
  nx := fun o' G' σ' H' p => p.elim
  rt := fun d o' G' σ' v H' p s r h => q d v G' H' p.2 (fun a y e n2 => r.old a y e (fun z => nomatch z) n2) s r.rdy r.gn (.imm h p.1)
  ro := fun d o' G' σ' a H' p => p.elim
  bk := fun _ _ _ _ p => p.elim
  ct := fun _ _ _ _ p => p.elim
  rf := fun d o' G' σ' v H' p s r h => q d v G' H' p (fun a y e n2 => r.old a y e (fun z => nomatch z) n2) s r.rdy r.gn h
end
section
variable {P : Program} {w : World} {K : PySem.W.Frag} [Tabled K] {mg : Str → Option Value} {base : Heap} {x qual : Str} {st : Stmt} {f : Addr} {fd : FuncData} {N ps : List Str} {k : Nat} {φ : Ph} {ψ : PhT} {dvs : List V} {kws : List (Str × V)}
theorem okF (F : Fun K x qual st f fd) (S : FnScope N ps (defScope st)) (len : ∀ ds P, φ ds P → ds.length = ps.length) {τ : FTs} (body : BodyOk P w K mg base N qual st f k τ)
    (h : ∀ ds P, φ ds P → τ (endsF P) ⟨startO N (ds.map .dat), 0⟩) : FnOk P w K mg base CX0 (k + 1) f fd ps (spF K φ) :=
  F.ok S (fun vs H Q E ⟨G, ds, P, _, r, p, _⟩ => by rw [r.len]; exact len ds P p) fun cdv A outer s H vs Q E hr ⟨G, ds, P, sm, r, p, q⟩ =>
    ⟨_, body cdv A outer s H E hr, _, G, _, endsF P, rs_start sm r (by rw [len ds P p]; exact scope_len S), h ds P p, cont_F q⟩
/-! ## defs with defaults -/
abbrev FunDf (K : PySem.W.Frag) (x qual : Str) (st : Stmt) (dvs : List V) (kws : List (Str × V)) (f : Addr) (fd : FuncData) : Prop := FunD K x qual (defArgs st) (defBody st) (defScope st) dvs kws f fd
theorem dflt_ok {sp : Sp} (F : FunDf K x qual st dvs kws f fd) (S : FnScope N ps (defScope st)) (len : ∀ vs H Q E, sp vs H Q E → vs.length = ps.length)
    (hbody : ∀ (cdv : Value) (A : Around) (outer : List Env) (s : Shared) (H : Hp) (vs : List V) (Q : VK) (E : XK), Room k (A.deeper (envOfC qual (defScope st) s.heap.objs.size f cdv)) → sp vs H Q E
        →
      ∃ t, PSs (cxOf CX0 P w K mg base N qual (defScope st) f cdv A outer s H E).nox (defBody st) t ∧ t { nx := fun _ H' => Q .non H', rt := Q } (L2.start N vs) H) : FnOk P w K mg base CX0 (k + 1) f fd ps sp :=
  FunD.ok F S len fun cdv A outer s H vs Q E hr hsp => let ⟨t, h, q⟩ := hbody cdv A outer s H vs Q E hr hsp; ⟨t, h.nox, q⟩
theorem okPD (F : FunDf K x qual st dvs kws f fd) (S : FnScope N ps (defScope st)) (len : ∀ ds P, φ ds P → ds.length = ps.length) {τ : FTs} (body : BodyOk P w K mg base N qual st f k τ)
    (h : ∀ ds P, φ ds P → τ (endsP P) ⟨startO N (ds.map .dat), 0⟩) : FnOk P w K mg base CX0 (k + 1) f fd ps (spP K φ) :=
  dflt_ok F S (fun vs H Q E ⟨G, ds, P, _, r, p, _⟩ => by rw [r.len]; exact len ds P p) fun cdv A outer s H vs Q E hr ⟨G, ds, P, sm, r, p, q⟩ =>
    ⟨_, body cdv A outer s H E hr, _, G, _, endsP P, rs_start sm r (by rw [len ds P p]; exact scope_len S), h ds P p, cont_P q⟩
theorem okOD (F : FunDf K x qual st dvs kws f fd) (S : FnScope N ps (defScope st)) (len : ∀ ds P, φ ds P → ds.length = ps.length) {τ : FTs} (body : BodyOk P w K mg base N qual st f k τ)
    (h : ∀ ds P, φ ds P → τ (endsO P) ⟨startO N (ds.map .dat), 0⟩) : FnOk P w K mg base CX0 (k + 1) f fd ps (spO K φ) :=
  dflt_ok F S (fun vs H Q E ⟨G, ds, P, _, r, p, _⟩ => by rw [r.len]; exact len ds P p) fun cdv A outer s H vs Q E hr ⟨G, ds, P, sm, r, p, q⟩ =>
    ⟨_, body cdv A outer s H E hr, _, G, _, endsO P, rs_start sm r (by rw [len ds P p]; exact scope_len S), h ds P p, cont_O q⟩
theorem okFD (F : FunDf K x qual st dvs kws f fd) (S : FnScope N ps (defScope st)) (len : ∀ ds P, φ ds P → ds.length = ps.length) {τ : FTs} (body : BodyOk P w K mg base N qual st f k τ)
    (h : ∀ ds P, φ ds P → τ (endsF P) ⟨startO N (ds.map .dat), 0⟩) : FnOk P w K mg base CX0 (k + 1) f fd ps (spF K φ) :=
  dflt_ok F S (fun vs H Q E ⟨G, ds, P, _, r, p, _⟩ => by rw [r.len]; exact len ds P p) fun cdv A outer s H vs Q E hr ⟨G, ds, P, sm, r, p, q⟩ =>
    ⟨_, body cdv A outer s H E hr, _, G, _, endsF P, rs_start sm r (by rw [len ds P p]; exact scope_len S), h ds P p, cont_F q⟩
theorem spO_P {vs : List V} {H : Hp} {Q : VK} {E : XK} (h : spP K φ vs H Q E) : spO K φ vs H Q E := by
  obtain ⟨G, ds, P, r, q, p, k⟩ := h
  refine ⟨G, ds, P, r, q, p, fun d a G' H' pd s g r' n e1 e2 own => ?_⟩
  obtain ⟨y, hy⟩ : ∃ y, H' a = some y := by
    cases e : H' a with
    | none => exact absurd e own.ne
    | some y => exact ⟨y, rfl⟩
  have nt : ¬ tabA K a := own.ntab r'.tabs
  have sm := same_new (o := y) e1
  refine k d (.ref a) (upd G' a y) H' pd s (g.trans sm) ⟨fun b z e => ?_, r'.tabs, fun b hb => ?_⟩ (fun b z e => ?_) ?_
  · by_cases hb : b = a
    · subst hb
      rw [upd_same] at e
      cases e
      exact hy
    · rw [upd_ne hb] at e
      exact r'.sub b z e
  · rw [upd_ne fun z => nt (by rw [← z]; exact hb)]
    exact r'.toff b hb
  · by_cases hb : b = a
    · subst hb
      exact .inr e2
    · rw [upd_ne hb] at e
      exact n b z e
  · cases d with
    | list ds =>
      obtain ⟨xs, e, rr⟩ := own
      rw [hy] at e
      cases e
      exact .lst upd_same (rr.same sm)
    | dict ds =>
      obtain ⟨xs, e, rr⟩ := own
      rw [hy] at e
      cases e
      exact .dic upd_same (RpK.same sm rr)
    | _ => exact own.elim
end
section
variable {X : Cx} {K : PySem.W.Frag} [Tabled K] {e e1 e2 e3 : Expr} {es : List Expr} {kws : List Keyword} {τ τ1 τ2 τ3 : FT} {τs τks : FTa} {φ : Ph} {k j n : Nat} {x : Str} {p pos pos' : Pos} {ks : List Str} {gV : List V → List V → List V} {gd : List PyData → List PyData → List PyData} {dvs : List V} {dds : List PyData}
/-! ## calls where defaults stand for the last arguments -/
def fCallD (dds : List PyData) (φ : Ph) (τs : FTa) : FT := fun o P => τs o fun ds o1 => φ (ds ++ dds) fun d => P d o1
theorem callD_P (hd : ∀ G, RpAll K G dvs dds) {σ : L2.St} {H : Hp} {Q : VK} (h : up K (fCallD dds φ τs) σ H Q) : tCall (spP K φ) dvs C8.E0 (upA K τs) σ H Q := by
  obtain ⟨c, G, o, P, r, t, kk⟩ := h
  refine ⟨c, G, o, _, r, t, fun ds o1 G1 vs H1 p g r1 q => ?_⟩
  show spP K φ (vs ++ dvs) H1 Q C8.E0
  exact ⟨G1, _, _, r1.rdy, q.append (hd G1), p, fun d v G' H' pd s g2 s2 n rr => kk d o1 G' v H' pd (g.trans g2) (r1.growT g2 s s2.tabs s2.sub n) rr⟩
theorem callD_O (hd : ∀ G, RpAll K G dvs dds) {σ : L2.St} {H : Hp} {Q : VK} (h : upO K (fCallD dds φ τs) σ H Q) : tCall (spO K φ) dvs C8.E0 (upA K τs) σ H Q := by
  obtain ⟨c, G, o, P, r, t, kk⟩ := h
  refine ⟨c, G, o, _, r, t, fun ds o1 G1 vs H1 p g r1 q => ?_⟩
  show spO K φ (vs ++ dvs) H1 Q C8.E0
  refine ⟨G1, _, _, r1.rdy, q.append (hd G1), p, fun d a G' H' pd s g2 s2 n e1 e2 rr => kk d o1 G' a H' pd (g.trans g2) (r1.growT g2 s s2.tabs s2.sub n) ⟨e1, r1.h0 e2, rr⟩ fun j e h1 h2 => ?_⟩
  obtain ⟨v, h3, b, rfl, m⟩ := r1.var j _ h1
  rw [h2] at h3
  cases h3
  exact m.at'.ne e2
theorem callD_F (hd : ∀ G, RpAll K G dvs dds) {σ : L2.St} {H : Hp} {Q : VK} (h : upF K (fCallD dds φ τs) σ H Q) : tCall (spF K φ) dvs C8.E0 (upA K τs) σ H Q := by
  obtain ⟨c, G, o, P, r, t, kk⟩ := h
  refine ⟨c, G, o, _, r, t, fun ds o1 G1 vs H1 p g r1 q => ?_⟩
  show spF K φ (vs ++ dvs) H1 Q C8.E0
  exact ⟨G1, _, _, r1.rdy, q.append (hd G1), p, fun d v G' H' pd s g2 s2 n rr => kk d o1 G' v H' pd (g.trans g2) (r1.growT g2 s s2.tabs s2.sub n) (rr.same (Same.refl _) fun a z => ⟨none_below (g) r1.sub z, r1.h0 z⟩)⟩
theorem fe_cD (hd : ∀ G, RpAll K G dvs dds) (c : C8.Cal X.prog X.w X.K X.mg X.base k x (spP K φ) dvs) (hr : Room j X.A) (hk : k ≤ j) (hg : Gl X x) (ha : PA X (e :: es) (upA K τs))
    (hdb : (x == ("__debug__" : Str)) = false := by decide) (he : starEach (e :: es) X.env = (false, eval e X.env) :: starEach es X.env := by rfl) (hpl : (backTo pos (starEach es X.env)).any (·.1) = false := by rfl)
        :
    PE X (.Call (.Name x p) (e :: es) [] pos) (up K (fCallD dds φ τs)) := PE.imp (C8.pe_c c hr hk hg ha hdb he hpl) fun _ _ _ => callD_P hd
theorem fo_cD (hd : ∀ G, RpAll K G dvs dds) (c : C8.Cal X.prog X.w X.K X.mg X.base k x (spO K φ) dvs) (hr : Room j X.A) (hk : k ≤ j) (hg : Gl X x) (ha : PA X (e :: es) (upA K τs))
    (hdb : (x == ("__debug__" : Str)) = false := by decide) (he : starEach (e :: es) X.env = (false, eval e X.env) :: starEach es X.env := by rfl) (hpl : (backTo pos (starEach es X.env)).any (·.1) = false := by rfl)
        :
    PE X (.Call (.Name x p) (e :: es) [] pos) (upO K (fCallD dds φ τs)) := PE.imp (C8.pe_c c hr hk hg ha hdb he hpl) fun _ _ _ => callD_O hd
theorem ff_cD (hd : ∀ G, RpAll K G dvs dds) (c : C8.Cal X.prog X.w X.K X.mg X.base k x (spF K φ) dvs) (hr : Room j X.A) (hk : k ≤ j) (hg : Gl X x) (ha : PA X (e :: es) (upA K τs))
    (hdb : (x == ("__debug__" : Str)) = false := by decide) (he : starEach (e :: es) X.env = (false, eval e X.env) :: starEach es X.env := by rfl) (hpl : (backTo pos (starEach es X.env)).any (·.1) = false := by rfl)
        :
    PE X (.Call (.Name x p) (e :: es) [] pos) (upF K (fCallD dds φ τs)) := PE.imp (C8.pe_c c hr hk hg ha hdb he hpl) fun _ _ _ => callD_F hd
theorem up_F {σ : L2.St} {H : Hp} {Q : VK} (h : up K τ σ H Q) : upF K τ σ H Q :=
  let ⟨c, G, o, P, r, t, k⟩ := h
  ⟨c, G, o, P, r, t, fun d o' G' v H' p g r' q => k d o' G' v H' p g r' q.rp⟩
theorem ffe (h : PE X e (upF K τ)) : PE X e (up K τ) := PE.imp h fun _ _ _ => up_F
theorem callK_F {σ : L2.St} {H : Hp} {Q : VK} (hg : ∀ G vs ws ds es, RpAll K G vs ds → RpAll K G ws es → RpAll K G (gV vs ws) (gd ds es)) (h : upF K (fCallK n ks.length gd φ τs τks) σ H Q) : L2.tCallN n ks.length (spF K φ) gV C8.E0 (upA K τs) (upA K τks) σ H Q := by
  obtain ⟨c, G, o, P, r, t, kk⟩ := h
  refine ⟨c, G, o, _, r, t, fun ds o1 G1 vs H1 p g r1 q => ⟨c, G1, o1, _, r1, p, fun es o2 G2 ws H2 ⟨l1, l2, p2⟩ g2 r2 q2 => ⟨by rw [q.len]; exact l1, by rw [q2.len]; exact l2, ?_⟩⟩⟩
  exact ⟨G2, _, _, r2.rdy, hg _ _ _ _ _ (q.same g2) q2, p2, fun d v G' H' pd s g3 s3 n rr => kk d o2 G' v H' pd ((g.trans g2).trans g3) (r2.growT g3 s s3.tabs s3.sub n) (rr.same (Same.refl _) fun a z => ⟨none_below (g.trans g2) r2.sub z, r2.h0 z⟩)⟩
theorem ff_cK (hg : ∀ G vs ws ds es, RpAll K G vs ds → RpAll K G ws es → RpAll K G (gV vs ws) (gd ds es)) (c : CalN X.prog X.w X.K X.mg X.base k x (spF K φ) n ks gV) (hr : Room j X.A) (hk : k ≤ j) (hgl : Gl X x) (ha : PA X (e :: es) (upA K τs)) (hkw : PK X kws (upA K τks))
    (hall : (backToKw pos (keywordEach kws X.env)).all (·.1.isSome) = true := by rfl) (hks : (backToKw pos (keywordEach kws X.env)).filterMap (·.1) = ks := by rfl)
    (nodb : (x == ("__debug__" : Str)) = false := by decide) (est : starEach (e :: es) X.env = (false, eval e X.env) :: starEach es X.env := by rfl)
    (plain : ((backTo pos (starEach (e :: es) X.env)).any (·.1) || (backToKw pos (keywordEach kws X.env)).any (·.1.isNone)) = false := by rfl) :
    PE X (.Call (.Name x p) (e :: es) kws pos) (upF K (fCallK n ks.length gd φ τs τks)) := PE.imp (pe_cN c hr hk hgl ha hkw hall hks nodb est plain) fun _ _ _ => callK_F hg
/-! ## return (e1, e2, e3), e3 of one's own -/
def fRet3F (τ1 τ2 τ3 : FT) : FTs := fun E o => τ1 o fun d1 o1 => τ2 o1 fun d2 o2 => τ3 o2 fun d3 o3 => immD d1 = true ∧ immD d2 = true ∧ (∃ kvs, d3 = .dict kvs ∧ immK kvs = true) ∧ E.rf (.tuple [d1, d2, d3]) o3
theorem fs_ret3F {x1} (h1 : PE X e1 (up K τ1)) (h2 : PE X e2 (up K τ2)) (h3 : PE X e3 (upO K τ3)) (hs1 : starEach [e1, e2, e3] X.env = (false, eval e1 X.env) :: starEach [e2, e3] X.env := by rfl) (hs2 : starEach [e2, e3] X.env = (false, eval e2 X.env) :: starEach [e3] X.env := by rfl) (hs3 : starEach [e3] X.env = (false, eval e3 X.env) :: starEach [] X.env := by rfl) :
    PS X (.Return (some (.Tuple [e1, e2, e3] x1 pos)) pos') (upS K (fRet3F τ1 τ2 τ3)) := PS.imp (ps_ret (pe_tup (pa_cons h1 (pa_cons h2 (pa_cons h3 pa_nil hs3) hs2) hs1))) fun D σ H ⟨c, G, o, E, r, t, k⟩ =>
  ⟨c, G, o, _, r, t, fun d1 o1 G1 v1 H1 p1 g1 r1 q1 => ⟨c, G1, o1, _, r1, p1, fun d2 o2 G2 v2 H2 p2 g2 r2 q2 => ⟨c, G2, o2, _, r2, p2, fun d3 o3 G3 b H3 ⟨i1, i2, ⟨kvs, ed, i3⟩, p3⟩ g3 r3 m ap => by
    subst ed
    refine ⟨by show 3 ≤ sizeLine; decide, fun a ha => ?_⟩
    obtain ⟨es, he, hk⟩ := m.at'
    obtain ⟨G4, r4, g4, q4⟩ := r3.freeze m ap
    obtain ⟨r5, g5⟩ := r4.alloc ha (.tup [v1, v2, .ref b])
    have e4 : ∃ es', G4 b = some (.dK es') ∧ RpK K G4 es' kvs := by
      cases q4 with
      | dic h1 h2 => exact ⟨_, h1, h2⟩
      | dit h1 h2 h3 => rw [r4.sub _ _ h1] at he; cases he
    obtain ⟨es', e5, e6⟩ := e4
    exact k.rf _ o3 _ σ _ _ p3 ((((g1.trans g2).trans g3).trans g4).trans g5) r5 (.tup (SqT.of upd_same) (.cons (.imm ((((q1.same g2).same g3).same g4).same g5) i1) (.cons (.imm (((q2.same g3).same g4).same g5) i2) (.cons (.dic (g5 _ _ e5) m.new (e6.same g5) i3) .nil))))⟩⟩⟩
/-! ## back to what stood ahead -/
def noOwn (o : Om) : Prop := ∀ (j : Nat) (e : PyData), o.vs[j]? ≠ some (some (.own e))
theorem Rs.rewind {c : Fc} {G H G1 H1 : Hp} {o o1 : Om} {σ σ1 : L2.St} (r : Rs K c G o σ H) (no : noOwn o) (r1 : Rs K c G1 o1 σ1 H1) (g : Same G G1) {i : Nat} (h : ∀ j, j ≠ i → σ1[j]? = σ[j]?) (hl : σ1.length = σ.length) : Rs K c G { o.off i with n := o1.n } σ1 H1 where
  sub := g.trans r1.sub
  g0 := r.g0
  gn := r.gn
  old := r1.old
  tape := fun t e => ⟨(r.tape t e).1, (r.tape t e).2.1, (r1.tape t e).2.2⟩
  len := by show _ = (o.vs.set i _).length; rw [List.length_set, hl]; exact r.len
  var := fun j w e => by
    rcases set_some e with ⟨_, e2⟩ | ⟨ne, e2⟩
    · cases e2
    obtain ⟨v, h1, h2⟩ := r.var j w e2
    refine ⟨v, by rw [h j ne]; exact h1, ?_⟩
    cases w with
    | dat d => exact h2
    | oth k =>
      cases k with
      | none => exact h2
      | some ns => exact h2
    | own d => exact absurd e2 (no j d)
  dis := fun j k d e a ne e1 => by
    rcases set_some e1 with ⟨_, e2⟩ | ⟨_, e2⟩
    · cases e2
    · exact absurd e2 (no j d)
  tabs := r1.tabs
  toff := r.toff
theorem noOwn_off {o : Om} {i n : Nat} (h : noOwn o) : noOwn { o.off i with n := n } := fun j e q => by
  rcases set_some q with ⟨_, e2⟩ | ⟨_, e2⟩
  · cases e2
  · exact h j e e2
/-- a new dict that nobody else has changes -/
theorem Rs.scrub {c : Fc} {G H : Hp} {o : Om} {σ : L2.St} (r : Rs K c G o σ H) (no : noOwn o) {b : Addr} {x y : HO} (hb : H b = some x) (hx : (∃ xs, x = .lst xs) ∨ ∃ xs, x = .dK xs) (ht : c.T ≠ some b) (g : G b = none) (h0 : c.H0 b = none) : Rs K c G o σ (upd H b y) where
  sub := fun a z e => by
    rw [upd_ne (ne_of_none e g)]
    exact r.sub a z e
  g0 := r.g0
  gn := r.gn
  old := fun a z e n n2 => by
    rw [upd_ne (ne_of_none e h0)]
    exact r.old a z e n n2
  tape := fun t e => by
    obtain ⟨z1, z2, p, q, s, e2, z3⟩ := r.tape t e
    exact ⟨z1, z2, p, q, s, by rw [upd_ne fun z => ht (by rw [← z]; exact e)]; exact e2, z3⟩
  len := r.len
  var := fun j w e => by
    obtain ⟨v, h1, h2⟩ := r.var j w e
    refine ⟨v, h1, ?_⟩
    cases w with
    | dat d => exact h2
    | oth k =>
      cases k with
      | none => exact h2
      | some ns => exact h2
    | own d => exact absurd e (no j d)
  dis := fun j k d e a ne e1 => absurd e1 (no j d)
  tabs := r.tabs.but (a := b) (fun z o e n => by rw [upd_ne n]; exact e) (hx.imp (fun ⟨xs, q⟩ => ⟨xs, by rw [hb, q]⟩) fun ⟨xs, q⟩ => .inl ⟨xs, by rw [hb, q]⟩)
  toff := r.toff
/-- x = f(..); if ..: return False; if ..: x[2].clear(); and what follows, as if x had not been told -/
def fTold (i : Nat) (τ : FT) (ct ct2 : FTt) (t : FTs) : FTs := fun E o => (noOwn o ∧ i < o.vs.length) ∧ τ o fun d o1 => ct (o1.put i (.dat d)) fun b o2 => if b = true then E.rt (.bool false) o2 else ct2 o2 fun b2 o3 => (b2 = true → ∃ d1 d2 kvs, d = .tuple [d1, d2, .dict kvs] ∧ simpleD kvs) ∧ t E { o.off i with n := o3.n }
theorem fresh3 {Z : Addr → Prop} {G : Hp} {v : V} {d1 d2 : PyData} {kvs : List (PyData × PyData)} (h : Rz K Z G v (.tuple [d1, d2, .dict kvs])) (sd : simpleD kvs) : ∃ a v1 v2 b es, v = .ref a ∧ SqT K G a [v1, v2, .ref b] ∧ G b = some (.dK es) ∧ Z b := by
  have im : immD (.tuple [d1, d2, .dict kvs]) = false := by
    show (immD d1 && (immD d2 && (false && true))) = false
    simp
  cases h with
  | imm h i => rw [im] at i; cases i
  | tup h r =>
    cases r with
    | cons h1 r =>
      cases r with
      | cons h2 r =>
        cases r with
        | cons h3 r =>
          cases r
          cases h3 with
          | imm h i => cases (show false = true from i)
          | dic hb z _ _ => exact ⟨_, _, _, _, _, rfl, h, hb, z⟩
          | dit hb z ne rt _ =>
            rcases sd with rfl | ⟨k, v, r, rfl⟩
            · cases rt
              exact absurd rfl ne
            · cases k <;> cases rt
theorem fss_told {i : Nat} {tst tst2 : Expr} {ct ct2 : FTt} {t : FTs} {rest : List Stmt} {px q1 q2 q3 apos cpos ep p2 p3 cp rp spos : Pos} {j1 j2} (hK : X.K = K) (hN : X.N.Nodup) (hi : X.N[i]? = some x) (hx : Loc X.env.scope x) (he : PE X e (upF K τ)) (ht : PT X tst (upT K ct)) (ht2 : PT X tst2 (upT K ct2)) (hv : PE X (.Name x q1) (tVar i)) (hrest : PSs X rest (upS K t))
    (hs : swapsWith e (some (.Name x px)) spos.line X.env = pure false := by rfl) (hf : X.fn x = true ∨ X.env.scope.names.lookup x = some .local := by first | exact .inl rfl | exact .inr rfl | assumption)
    (hbase : attributeBase (.Subscript (.Name x q1) (.Constant (.int 2) j2 q2) q3) "clear" X.env (eval (.Subscript (.Name x q1) (.Constant (.int 2) j2 q2) q3) X.env) = eval (.Subscript (.Name x q1) (.Constant (.int 2) j2 q2) q3) X.env := by rfl) (hline : (apos.endLine == cpos.line) = true := by rfl)
    (hs2 : swapsWith (.Call (.Attribute (.Subscript (.Name x q1) (.Constant (.int 2) j2 q2) q3) "clear" apos) [] [] cpos) none ep.line X.env = pure false := by rfl) :
    PSs X (.Assign [.Name x px] e spos :: .If tst [.Return (some (.Constant (.bool false) j1 cp)) rp] [] p2 :: .If tst2 [.Expr (.Call (.Attribute (.Subscript (.Name x q1) (.Constant (.int 2) j2 q2) q3) "clear" apos) [] [] cpos) ep] [] p3 :: rest) (upS K (fTold i τ ct ct2 t)) := by
  subst hK
  refine PSs.imp (pss_cons (ps_set hN hi hx he hs hf) (pss_cons (ps_if ht (pss_one (ps_ret pe_bl)) pss_nil) (pss_cons (ps_if ht2 (pss_one (ps_expr (pe_dclear (pe_ix ix_seq hv pe_int fun _ _ => rfl) hbase hline) hs2)) pss_nil) hrest))) fun D σ H ⟨c, G, o, E, r, ⟨⟨no, il⟩, h⟩, k⟩ => ?_
  refine ⟨c, G, o, _, r, h, fun d o1 G1 v H1 p g r1 q => ?_⟩
  rw [← r.len] at il
  refine ⟨c, G1, _, _, r1.put q.rp, p, fun b o2 G2 H2 p2 g2 r2 => ?_⟩
  cases b with
  | true => exact k.rt _ o2 G2 _ _ H2 p2 (g.trans g2) r2 (.bl false)
  | false =>
    refine ⟨c, G2, o2, _, r2, p2, fun b2 o3 G3 H3 p3 g3 r3 => ?_⟩
    obtain ⟨p3, p4⟩ := p3
    have gg := (g.trans g2).trans g3
    have rw1 := r.rewind no r3 gg (i := i) (fun j hj => List.getElem?_set_ne (Ne.symm hj)) List.length_set
    cases b2 with
    | false => exact ⟨c, G, _, E, rw1, p4, k⟩
    | true =>
      obtain ⟨d1, d2, kvs, rfl, sd⟩ := p3 rfl
      obtain ⟨a, v1, v2, b, es, rfl, s1, s2, z1, z2⟩ := fresh3 q sd
      have hb : H3 b = some (.dK es) := r3.sub _ _ (g3 _ _ (g2 _ _ s2))
      refine ⟨_, List.getElem?_set_self il, .inr (.inl ⟨a, _, 2, .ref b, rfl, rfl, sqT_same ((g2.trans g3).trans r3.sub) s1, atI_nat (j := 2) rfl, ?_⟩)⟩
      refine ⟨.inr (.inr (.inl ⟨rfl, .inl ⟨_, hb⟩⟩)), b, es, rfl, rfl, hb, ?_⟩
      refine ⟨c, G, _, E, rw1.scrub (noOwn_off no) hb (.inr ⟨_, rfl⟩) (fun z => ?_) z1 z2, p4, k⟩
      exact (r.tape b z).2.1 z2
end
end Lf

set_option maxRecDepth 100000
set_option maxHeartbeats 3900000
namespace Dr
open PySem PySem.Spec PyProof.Rows L2 K Lf
/-! # how things are shown, dicts too -/
structure Sw (k n : Nat) (d : PyData) : Prop where
  sh : d.showable = true
  dp : d.depth ≤ k
  ln : d.shown.length ≤ n
theorem Sw.mono {k n k' n' : Nat} {d : PyData} (h : Sw k n d) (a : k ≤ k') (b : n ≤ n') : Sw k' n' d := ⟨h.sh, Nat.le_trans h.dp a, Nat.le_trans h.ln b⟩
theorem Sw.int {i : Int} (h : SmI i) : Sw 0 13 (.int i) := ⟨h.sho, Nat.le_refl _, K.len_int h⟩
theorem Sw.str {x : Str} (h : x ∈ nmList) : Sw 0 13 (.str x) := by
  have a : ∀ x ∈ nmList, (PyData.str x).shown.length ≤ 13 := by decide +kernel
  exact ⟨rfl, Nat.le_refl _, a x h⟩
theorem sw_all {k n : Nat} : ∀ {xs : List PyData}, (∀ x ∈ xs, Sw k n x) → PyData.showableAll xs = true ∧ PyData.depthAll xs ≤ k
  | [], _ => ⟨rfl, Nat.zero_le _⟩
  | x :: r, h => by
    obtain ⟨a, b⟩ := sw_all (xs := r) fun y m => h y (List.mem_cons_of_mem _ m)
    have c := h x List.mem_cons_self
    refine ⟨?_, ?_⟩
    · show (PyData.showable x && PyData.showableAll r) = true
      rw [c.sh, a]
      rfl
    · show max x.depth (PyData.depthAll r) ≤ k
      have := c.dp
      omega
theorem Sw.tup {k n : Nat} {xs : List PyData} (h : ∀ x ∈ xs, Sw k n x) : Sw (k + 1) ((n + 2) * xs.length + 3) (.tuple xs) :=
  ⟨(sw_all h).1, Nat.add_le_add_right (sw_all h).2 1, K.len_tup fun x m => (h x m).ln⟩
theorem sw_kv {k n m : Nat} : ∀ {kvs : List (PyData × PyData)}, (∀ p ∈ kvs, Sw k n p.1 ∧ Sw k m p.2) → PyData.showableKv kvs = true ∧ PyData.depthKv kvs ≤ k
  | [], _ => ⟨rfl, Nat.zero_le _⟩
  | (a, b) :: r, h => by
    obtain ⟨x, y⟩ := sw_kv (kvs := r) fun p z => h p (List.mem_cons_of_mem _ z)
    obtain ⟨c, d⟩ := h (a, b) List.mem_cons_self
    refine ⟨?_, ?_⟩
    · show (PyData.showable a && PyData.showable b && PyData.showableKv r) = true
      rw [c.sh, d.sh, x]
      rfl
    · show max (max a.depth b.depth) (PyData.depthKv r) ≤ k
      have h1 := c.dp
      have h2 := d.dp
      have h1 : a.depth ≤ k := h1
      have h2 : b.depth ≤ k := h2
      omega
theorem Sw.dict {k n m : Nat} {kvs : List (PyData × PyData)} (h : ∀ p ∈ kvs, Sw k n p.1 ∧ Sw k m p.2) : Sw (k + 1) ((n + m + 4) * kvs.length + 2) (.dict kvs) :=
  ⟨(sw_kv h).1, Nat.add_le_add_right (sw_kv h).2 1, K.len_dict fun p z => Nat.add_le_add (h p z).1.ln (h p z).2.ln⟩
/-- no truth is shown -/
abbrev Nt (d : PyData) : Prop := K.Cf d.shown
theorem nt_str {x : Str} (h : x ∈ nmList) : Nt (.str x) := by
  have a : ∀ x ∈ nmList, 84 ∉ (PyData.str x).shown.cps.toList ∧ 70 ∉ (PyData.str x).shown.cps.toList := by decide +kernel
  exact a x h
theorem nt_int (i : Int) : Nt (.int i) := K.cf_int i
/-! # names -/
theorem rising_allS : ∀ {r : List Str} {p : Str}, risingS p r = true → ∀ x ∈ r, ¬ (x.cps.toList < p.cps.toList)
  | [], _, _, x, hx => nomatch hx
  | y :: r, p, h, x, hx => by
    unfold risingS at h
    rw [Bool.and_eq_true] at h
    have h1 : ¬ (y.cps.toList < p.cps.toList) := fun z => by
      have h3 := h.1
      rw [ltCps_eq, decide_eq_true z] at h3
      cases h3
    rcases List.mem_cons.mp hx with e | e
    · rw [e]; exact h1
    · exact fun z => h1 (List.lt_of_le_of_lt (List.not_lt.mp (rising_allS h.2 x e)) z)
theorem sorted_tailS {p : Str} {r : List Str} (h : sortedS (p :: r) = true) : sortedS r = true := by
  cases r with
  | nil => rfl
  | cons y r =>
    unfold sortedS risingS at h
    rw [Bool.and_eq_true] at h
    exact h.2
theorem str_same {a b : Str} (h : ¬ (a.cps.toList < b.cps.toList)) (k : ¬ (b.cps.toList < a.cps.toList)) : a = b := by
  have e : a.cps = b.cps := by
    have := congrArg List.toArray (List.le_antisymm (List.not_lt.mp k) (List.not_lt.mp h))
    rwa [Array.toArray_toList, Array.toArray_toList] at this
  cases a
  cases b
  cases e
  rfl
theorem sorted_same : ∀ {xs ys : List Str}, xs.Nodup → ys.Nodup → sortedS xs = true → sortedS ys = true → (∀ z, z ∈ xs ↔ z ∈ ys) → xs = ys
  | [], [], _, _, _, _, _ =>
      rfl
  | [], y :: ys, _, _, _, _, h => nomatch (h y).mpr List.mem_cons_self
  | x :: xs, [], _, _, _, _, h => nomatch (h x).mp List.mem_cons_self
  | x :: xs, y :: ys, nx, ny, sx, sy, h => by
    have e : x = y := by
      rcases List.mem_cons.mp ((h x).mp List.mem_cons_self) with e | m1
      · exact e
      rcases List.mem_cons.mp ((h y).mpr List.mem_cons_self) with e | m2
      · exact e.symm
      exact str_same (rising_allS sy x m1) (rising_allS sx y m2)
    subst e
    have n1 := List.nodup_cons.mp nx
    have n2 := List.nodup_cons.mp ny
    have t : xs = ys := sorted_same n1.2 n2.2 (sorted_tailS sx) (sorted_tailS sy) fun z => by
      have q := h z
      rw [List.mem_cons, List.mem_cons] at q
      refine ⟨fun m => ?_, fun m => ?_⟩
      · exact (q.mp (.inr m)).resolve_left fun e => n1.1 (by rw [← e]; exact m)
      · exact (q.mpr (.inr m)).resolve_left fun e => n2.1 (by rw [← e]; exact m)
    rw [t]
def Side.nms : Side → List Str
  | .nm x => [x]
  | .wd _ => []
/-- the names of its def that an act names -/
def Act.names : Act → List Str
  | .set x _ => [x]
  | .add x y _ => [x, y]
  | .sum _ x y z => [x, y, z]
  | .mid x y z => [x, y, z]
  | .row a y => [a, y]
  | .get x a i => [x, a, i]
  | .put a i y => [a, i, y]
  | .length x a => [x, a]
  | .ask x _ _ => [x]
  | .tell y => [y]
  | .check s _ t => s.nms ++ t.nms
  | .ite s _ t _ => s.nms ++ t.nms
  | .go _ => []
  | .call x _ gs => x :: gs
  | .back y => [y]
def Df.raw (d : Df) : List Str := d.params ++ d.fingers ++ d.rows ++ d.steps.flatMap fun s => s.2.names
def IsN (d : Df) (ys : List Str) : Prop := ys.Nodup ∧ sortedS ys = true ∧ ∀ y, y ∈ ys ↔ y ∈ d.raw
theorem IsN.one {d : Df} {ys zs : List Str} (a : IsN d ys) (b : IsN d zs) : ys = zs := sorted_same a.1 b.1 a.2.1 b.2.1 fun z => (a.2.2 z).trans (b.2.2 z).symm
open Classical in
/-- all names of a def, by rising ones -/
noncomputable def Df.names (d : Df) : List Str := if h : ∃ ys, IsN d ys then Classical.choose h else []
theorem IsN.is {d : Df} {ys : List Str} (h : IsN d ys) : d.names = ys := by
  have e : ∃ ys, IsN d ys := ⟨ys, h⟩
  unfold Df.names
  rw [dif_pos e]
  exact (Classical.choose_spec e).one h
abbrev Hd.all (h : Hd) : List Str := h.plain ++ h.fingers ++ h.rows
theorem all_nums {h : Hd} {x : Str} (m : x ∈ h.nums) : x ∈ h.all := List.mem_append_left _ m
theorem all_rows {h : Hd} {x : Str} (m : x ∈ h.rows) : x ∈ h.all := List.mem_append_right _ m
theorem nums_plain {h : Hd} {x : Str} (m : x ∈ h.plain) : x ∈ h.nums := List.mem_append_left _ m
theorem nums_fing {h : Hd} {x : Str} (m : x ∈ h.fingers) : x ∈ h.nums := List.mem_append_right _ m
theorem given_all {h o : Hd} : ∀ {gs ps : List Str}, Given h o gs ps → ∀ x ∈ gs, x ∈ h.all
  | _, _, .nil, x, m => nomatch m
  | _, _, .plain _ b r, x, m => (List.mem_cons.mp m).elim (fun e => by rw [e]; exact all_nums b) (given_all r x)
  | _, _, .finger _ b r, x, m => (List.mem_cons.mp m).elim (fun e => by rw [e]; exact all_nums (nums_fing b)) (given_all r x)
  | _, _, .row _ b r, x, m => (List.mem_cons.mp m).elim (fun e => by rw [e]; exact all_rows b) (given_all r x)
theorem side_all {h : Hd} {w : Int} {s : Side} (f : SideOk h w s) : ∀ x ∈ s.nms, x ∈ h.all := fun x m => by
  cases f with
  | nm k => rw [List.mem_singleton.mp m]; exact all_nums k
  | wd k => cases m
theorem each1 {P : Str → Prop} {x : Str} (a : P x) : ∀ z ∈ [x], P z := fun z m => by rw [List.mem_singleton.mp m]; exact a
theorem eachC {P : Str → Prop} {x : Str} {r : List Str} (a : P x) (b : ∀ z ∈ r, P z) : ∀ z ∈ x :: r, P z := fun z m => (List.mem_cons.mp m).elim (fun e => by rw [e]; exact a) (b z)
theorem eachA {P : Str → Prop} {q r : List Str} (a : ∀ z ∈ q, P z) (b : ∀ z ∈ r, P z) : ∀ z ∈ q ++ r, P z := fun z m => (List.mem_append.mp m).elim (a z) (b z)
theorem AFit.names_all {h : Hd} {hs : List Hd} {w : Int} {L : Int → Prop} {a : Act} (f : AFit h hs w L a) : ∀ x ∈ a.names, x ∈ h.all := by
  have n : ∀ {x}, x ∈ h.nums → x ∈ h.all := all_nums
  have p : ∀ {x}, x ∈ h.plain → x ∈ h.all := fun m => all_nums (nums_plain m)
  have q : ∀ {x}, x ∈ h.fingers → x ∈ h.all := fun m => all_nums (nums_fing m)
  have r : ∀ {x}, x ∈ h.rows → x ∈ h.all := all_rows
  cases f with
  | set a _ => exact each1 (n a)
  | addP a b _ => exact eachC (p a) (each1 (n b))
  | addF a b _ => exact eachC (q a) (each1 (q b))
  | sum _ a b c => exact eachC (p a) (eachC (p b) (each1 (p c)))
  | midP a b c => exact eachC (p a) (eachC (p b) (each1 (p c)))
  | midF a b c => exact eachC (q a) (eachC (q b) (each1 (q c)))
  | row a b => exact eachC (r a) (each1 (n b))
  | get a b c => exact eachC (p a) (eachC (r b) (each1 (n c)))
  | put a b c => exact eachC (r a) (eachC (n b) (each1 (n c)))
  | length a b => exact eachC (n a) (each1 (r b))
  | ask a _ _ _ => exact each1 (p a)
  | tell a => exact each1 (n a)
  | check a _ b => exact eachA (side_all a) (side_all b)
  | ite a _ b _ => exact eachA (side_all a) (side_all b)
  | go _ => exact fun x m => nomatch m
  | call a _ b => exact eachC (p a) (given_all b)
  | back a => exact each1 (n a)
/-- a head with these names alone -/
def Hd.cut (h : Hd) (U : List Str) : Hd := { h with plain := h.plain.filter (· ∈ U), fingers := h.fingers.filter (· ∈ U), rows := h.rows.filter (· ∈ U) }
theorem cut_plain {h : Hd} {U : List Str} {x : Str} (a : x ∈ h.plain) (b : x ∈ U) : x ∈ (h.cut U).plain := List.mem_filter.mpr ⟨a, decide_eq_true b⟩
theorem cut_fing {h : Hd} {U : List Str} {x : Str} (a : x ∈ h.fingers) (b : x ∈ U) : x ∈ (h.cut U).fingers := List.mem_filter.mpr ⟨a, decide_eq_true b⟩
theorem cut_rows {h : Hd} {U : List Str} {x : Str} (a : x ∈ h.rows) (b : x ∈ U) : x ∈ (h.cut U).rows := List.mem_filter.mpr ⟨a, decide_eq_true b⟩
theorem cut_nums {h : Hd} {U : List Str} {x : Str} (a : x ∈ h.nums) (b : x ∈ U) : x ∈ (h.cut U).nums := (List.mem_append.mp a).elim (fun a => nums_plain (cut_plain a b)) fun a => nums_fing (cut_fing a b)
theorem cut_back {h : Hd} {U : List Str} {x : Str} (a : x ∈ (h.cut U).nums) : x ∈ h.nums ∧ x ∈ U := by
  rcases List.mem_append.mp a with a | a
  · exact ⟨nums_plain (List.mem_filter.mp a).1, of_decide_eq_true (List.mem_filter.mp a).2⟩
  · exact ⟨nums_fing (List.mem_filter.mp a).1, of_decide_eq_true (List.mem_filter.mp a).2⟩
theorem cut_backR {h : Hd} {U : List Str} {x : Str} (a : x ∈ (h.cut U).rows) : x ∈ h.rows ∧ x ∈ U := ⟨(List.mem_filter.mp a).1, of_decide_eq_true (List.mem_filter.mp a).2⟩
theorem Given.cut {h o : Hd} {U : List Str} : ∀ {gs ps : List Str}, Given h o gs ps → (∀ x ∈ gs, x ∈ U) → Given (h.cut U) o gs ps
  | _, _, .nil, _ => .nil
  | _, _, .plain a b r, k => .plain a (cut_nums b (k _ List.mem_cons_self)) (Given.cut r fun x m => k x (List.mem_cons_of_mem _ m))
  | _, _, .finger a b r, k => .finger a (cut_fing b (k _ List.mem_cons_self)) (Given.cut r fun x m => k x (List.mem_cons_of_mem _ m))
  | _, _, .row a b r, k => .row a (cut_rows b (k _ List.mem_cons_self)) (Given.cut r fun x m => k x (List.mem_cons_of_mem _ m))
theorem SideOk.cut {h : Hd} {w : Int} {s : Side} {U : List Str} (f : SideOk h w s) (k : ∀ x ∈ s.nms, x ∈ U) : SideOk (h.cut U) w s := by
  cases f with
  | nm m => exact .nm (cut_nums m (k _ List.mem_cons_self))
  | wd m => exact .wd m
theorem AFit.cut {h : Hd} {hs : List Hd} {w : Int} {L : Int → Prop} {a : Act} {U : List Str} (f : AFit h hs w L a) (k : ∀ x ∈ a.names, x ∈ U) : AFit (h.cut U) hs w L a := by
  have k0 : ∀ {x r}, a.names = x :: r → x ∈ U := fun e => k _ (by rw [e]; exact List.mem_cons_self)
  have k1 : ∀ {x y r}, a.names = x :: y :: r → y ∈ U := fun e => k _ (by rw [e]; exact List.mem_cons_of_mem _ List.mem_cons_self)
  have k2 : ∀ {x y z r}, a.names = x :: y :: z :: r → z ∈ U := fun e => k _ (by rw [e]; exact List.mem_cons_of_mem _ (List.mem_cons_of_mem _ List.mem_cons_self))
  cases f with
  | set a b => exact .set (cut_nums a (k0 rfl)) b
  | addP a b c => exact .addP (cut_plain a (k0 rfl)) (cut_nums b (k1 rfl)) c
  | addF a b c => exact .addF (cut_fing a (k0 rfl)) (cut_fing b (k1 rfl)) c
  | sum s a b c => exact .sum s (cut_plain a (k0 rfl)) (cut_plain b (k1 rfl)) (cut_plain c (k2 rfl))
  | midP a b c => exact .midP (cut_plain a (k0 rfl)) (cut_plain b (k1 rfl)) (cut_plain c (k2 rfl))
  | midF a b c => exact .midF (cut_fing a (k0 rfl)) (cut_fing b (k1 rfl)) (cut_fing c (k2 rfl))
  | row a b => exact .row (cut_rows a (k0 rfl)) (cut_nums b (k1 rfl))
  | get a b c => exact .get (cut_plain a (k0 rfl)) (cut_rows b (k1 rfl)) (cut_nums c (k2 rfl))
  | put a b c => exact .put (cut_rows a (k0 rfl)) (cut_nums b (k1 rfl)) (cut_nums c (k2 rfl))
  | length a b => exact .length (cut_nums a (k0 rfl)) (cut_rows b (k1 rfl))
  | ask a b c d => exact .ask (cut_plain a (k0 rfl)) b c d
  | tell a => exact .tell (cut_nums a (k0 rfl))
  | check a b c => exact .check (a.cut fun x m => k x (List.mem_append_left _ m)) b (c.cut fun x m => k x (List.mem_append_right _ m))
  | ite a b c d => exact .ite (a.cut fun x m => k x (List.mem_append_left _ m)) b (c.cut fun x m => k x (List.mem_append_right _ m)) d
  | go a => exact .go a
  | call a b c => exact .call (cut_plain a (k0 rfl)) b (c.cut fun x m => k x (List.mem_cons_of_mem _ m))
  | back a => exact .back (cut_nums a (k0 rfl))
theorem raw_all {h : Hd} {hs : List Hd} {w : Int} {d : Df} (ok : HdOk h) (f : DfOf h hs w d) : ∀ x ∈ d.raw, x ∈ h.all := fun x m => by
  unfold Df.raw at m
  rw [f.params, f.fingers, f.rows] at m
  rcases List.mem_append.mp m with m | m
  · rcases List.mem_append.mp m with m | m
    · rcases List.mem_append.mp m with m | m
      · exact ok.params.2 x m
      · exact all_nums (nums_fing m)
    · exact all_rows m
  · obtain ⟨s, hs', hx⟩ := List.mem_flatMap.mp m
    exact (f.steps.acts s hs').names_all x hx
theorem raw_step {d : Df} {s : Stp} (h : s ∈ d.steps) {x : Str} (m : x ∈ s.2.names) : x ∈ d.raw := List.mem_append_right _ (List.mem_flatMap.mpr ⟨s, h, m⟩)
theorem raw_letters {h : Hd} {hs : List Hd} {w : Int} {d : Df} (ok : HdOk h) (f : DfOf h hs w d) : ∀ x ∈ d.raw, x ∈ letters := fun x m => ok.letter (raw_all ok f x m)
/-! # states -/
theorem Sta.get_mem : ∀ {s : Sta} {x : Str} {c : Cel}, s.get x = some c → (x, c) ∈ s
  | [], x, c, h => nomatch h
  | p :: r, x, c, h => by
    unfold Sta.get at h
    rw [List.find?_cons] at h
    by_cases e : (x == p.1) = true
    · rw [e] at h
      cases h
      have : x = p.1 := by simpa using e
      rw [this]
      exact List.mem_cons_self
    · rw [(Bool.not_eq_true _).mp e] at h
      exact List.mem_cons_of_mem _ (Sta.get_mem (s := r) h)
theorem Sta.get_of : ∀ {s : Sta} {x : Str}, x ∈ s.map (·.1) → ∃ c, s.get x = some c
  | p :: r, x, h => by
    unfold Sta.get
    rw [List.find?_cons]
    by_cases e : (x == p.1) = true
    · rw [e]; exact ⟨_, rfl⟩
    · rw [(Bool.not_eq_true _).mp e]
      have ne : x ≠ p.1 := fun z => e (by rw [z]; exact beq_self_eq_true _)
      exact Sta.get_of (s := r) ((List.mem_cons.mp h).resolve_left ne)
theorem Sta.put_keys {s : Sta} {x : Str} {c : Cel} (h : x ∈ s.map (·.1)) : (s.put x c).map (·.1) = s.map (·.1) := by
  unfold Sta.put
  rw [if_pos (by
    obtain ⟨p, hp, e⟩ := List.mem_map.mp h
    exact List.any_eq_true.mpr ⟨p, hp, by rw [e]; exact beq_self_eq_true _⟩), List.map_map]
  refine List.map_congr_left fun p _ => ?_
  show (if (x == p.1) = true then (p.1, c) else p).1 = p.1
  split <;> rfl
theorem Sta.put_mem {s : Sta} {x : Str} {c : Cel} (h : x ∈ s.map (·.1)) {y : Str} {e : Cel} (m : (y, e) ∈ s.put x c) : (y, e) ∈ s ∨ (y = x ∧ e = c) := by
  unfold Sta.put at m
  rw [if_pos (by
    obtain ⟨p, hp, e⟩ := List.mem_map.mp h
    exact List.any_eq_true.mpr ⟨p, hp, by rw [e]; exact beq_self_eq_true _⟩)] at m
  obtain ⟨p, hp, q⟩ := List.mem_map.mp m
  by_cases k : (x == p.1) = true
  · rw [if_pos k] at q
    cases q
    exact .inr ⟨(by simpa using k : x = p.1).symm, rfl⟩
  · rw [if_neg k] at q
    rw [q] at hp
    exact .inl hp
/-- a state of this def, of this width -/
structure Sta.Of (d : Df) (w : Int) (s : Sta) : Prop where
  keys : IsN d (s.map (·.1))
  row : ∀ x c, (x, c) ∈ s → x ∈ d.rows → ∃ xs, c = .row xs ∧ (xs.length : Int) ≤ w ∧ ∀ i ∈ xs, Wd w i
  num : ∀ x c, (x, c) ∈ s → x ∉ d.rows → ∃ i, c = .num i ∧ Wd w i
theorem Sta.Of.has {d : Df} {w : Int} {s : Sta} (o : s.Of d w) {x : Str} (h : x ∈ d.raw) : x ∈ s.map (·.1) := (o.keys.2.2 x).mpr h
theorem Sta.Of.fit {h : Hd} {hs : List Hd} {w : Int} {d : Df} {s : Sta} (o : s.Of d w) (ok : HdOk h) (f : DfOf h hs w d) (hw : w ≤ 1000) : s.Fit (h.cut (s.map (·.1))) where
  num := fun x m => by
    obtain ⟨m, u⟩ := cut_back m
    obtain ⟨c, e⟩ := Sta.get_of u
    have nr : x ∉ d.rows := by
      rw [f.rows]
      rcases List.mem_append.mp m with m | m
      · exact ((ok.apart (x := x)).1 m).2
      · exact (ok.apart (x := x)).2 m
    obtain ⟨i, rfl, _⟩ := o.num x c (Sta.get_mem e) nr
    exact ⟨i, e⟩
  row := fun x m => by
    obtain ⟨m, u⟩ := cut_backR m
    obtain ⟨c, e⟩ := Sta.get_of u
    obtain ⟨xs, rfl, _⟩ := o.row x c (Sta.get_mem e) (by rw [f.rows]; exact m)
    exact ⟨xs, e⟩
  sm := fun x i e => by
    have m := Sta.get_mem e
    by_cases r : x ∈ d.rows
    · obtain ⟨xs, z, _⟩ := o.row x _ m r
      cases z
    · obtain ⟨j, z, a, b⟩ := o.num x _ m r
      cases z
      omega
  few := fun x xs e => by
    have m := Sta.get_mem e
    by_cases r : x ∈ d.rows
    · obtain ⟨ys, z, l, _⟩ := o.row x _ m r
      cases z
      omega
    · obtain ⟨j, z, _⟩ := o.num x _ m r
      cases z
theorem nodup_letters {ys : List Str} (n : ys.Nodup) (h : ∀ y ∈ ys, y ∈ letters) : ys.length ≤ 7 := Lf.nodup_le n h
theorem Sta.kvs_like {s : Sta} (n : (s.map (·.1)).Nodup) : Like 1 s.d := by
  have e : s.d = .dict ((s.map fun p => ((.inr p.1 : Key), p.2.d)).map fun p => (kD p.1, p.2)) := by
    unfold Sta.d Sta.kvs
    rw [List.map_map]
    rfl
  rw [e]
  refine .dic ?_ fun p m => ?_
  · rw [List.map_map]
    refine List.pairwise_map.mpr ((List.pairwise_map.mp n).imp fun {a b} z q => z ?_)
    exact Sum.inr.inj q
  · obtain ⟨q, _, rfl⟩ := List.mem_map.mp m
    cases q.2 with
    | num i => exact .flat rfl (shaped_of rfl (Nat.zero_le _))
    | row xs =>
      have l : PyData.canLayAll0 (xs.map .int) = true ∧ PyData.depthAll (xs.map .int) = 0 := K.ints_lay xs
      have hd : ∀ xs : List Int, PyData.hasDictAll (xs.map .int) = false := fun xs => by
        induction xs with
        | nil => rfl
        | cons a r ih =>
          show (false || PyData.hasDictAll (r.map .int)) = false
          rw [ih]
          rfl
      exact .flat (hd xs) (shaped_of l.1 (by show PyData.depthAll (xs.map .int) + 1 ≤ 64; rw [l.2]; decide))
theorem Sta.Of.sw {h : Hd} {hs : List Hd} {w : Int} {d : Df} {s : Sta} (o : s.Of d w) (ok : HdOk h) (f : DfOf h hs w d) (hw : w ≤ 40) : Sw 2 5000 s.d ∧ Nt s.d := by
  have le := nodup_letters o.keys.1 fun y m => raw_letters ok f y ((o.keys.2.2 y).mp m)
  rw [List.length_map] at le
  have each : ∀ p ∈ s.kvs, (Sw 1 13 p.1 ∧ Sw 1 650 p.2) ∧ Nt p.1 ∧ Nt p.2 := fun p m => by
    obtain ⟨⟨x, c⟩, hm, rfl⟩ := List.mem_map.mp m
    have hx : x ∈ nmList := nmL (raw_letters ok f x ((o.keys.2.2 x).mp (List.mem_map_of_mem hm)))
    refine ⟨⟨(Sw.str hx).mono (by decide) (Nat.le_refl _), ?_⟩, nt_str hx, ?_⟩
    · by_cases r : x ∈ d.rows
      · obtain ⟨xs, e, l, a⟩ := o.row x c hm r
        subst e
        refine (Sw.tup (k := 0) (n := 13) fun z hz => ?_).mono (Nat.le_refl _) ?_
        · obtain ⟨i, hi, rfl⟩ := List.mem_map.mp hz
          exact Sw.int ((a i hi).sm (by omega))
        · rw [List.length_map]
          omega
      · obtain ⟨i, e, a⟩ := o.num x c hm r
        subst e
        exact (Sw.int (a.sm (by omega))).mono (by decide) (by decide)
    · cases c with
      | num i => exact nt_int i
      | row xs =>
        refine K.cf_tup fun z hz => ?_
        obtain ⟨i, hi, rfl⟩ := List.mem_map.mp hz
        exact nt_int i
  refine ⟨(Sw.dict (k := 1) (n := 13) (m := 650) fun p m => (each p m).1).mono (Nat.le_refl _) ?_, K.cf_dict fun p m => (each p m).2⟩
  have : s.kvs.length = s.length := List.length_map _
  rw [this]
  have : (13 + 650 + 4) * s.length ≤ 667 * 7 := Nat.mul_le_mul_left _ le
  omega
end Dr

set_option maxRecDepth 100000
set_option maxHeartbeats 3900000
namespace Lf
open PySem PySem.Spec PyProof.Rows L2 K
section
variable {X : Cx} {K : PySem.W.Frag} [Tabled K] {e : Expr} {τs : FTa}
/-! # x.remove(y), x a list of texts of one's own; x.extend(y), y a tuple -/
def fRem (i : Nat) (τs : FTa) : FT := fun o P => τs o fun ds o1 => match ds, o1.vs[i]? with
  | [.str k], some (some (.own (.list es))) => ∃ (xs : List Str) (j : Nat), es = xs.map .str ∧ xs[j]? = some k ∧ (∀ m : Nat, m < j → xs[m]? ≠ some k) ∧ P .none (o1.put i (.own (.list ((xs.eraseIdx j).map .str))))
  | _, _ => False
theorem fe_remove {i : Nat} {o e : Expr} {apos cpos : Pos} (hv : PE X o (tVar i)) (ha : PA X [e] (upA K τs))
    (hbase : attributeBase o "remove" X.env (eval o X.env) = eval o X.env := by rfl)
    (hfew : ((backTo cpos (starEach [e] X.env)).all (fun x => !x.1) && (backToKw cpos (keywordEach [] X.env)).all (fun x =>
        x.1.isSome)
      && decide (([e] : List Expr).length + ([] : List Keyword).length + (if ([] : List Keyword).isEmpty then 0 else 1) < 30)) = true := by
          rfl)
    (hline : (apos.endLine == cpos.line) = true := by rfl) (hs : starEach [e] X.env = (false, eval e X.env) :: starEach [] X.env := by rfl) :
    PE X (.Call (.Attribute o "remove" apos) [e] [] cpos) (up K fun om P => isOwnL om i ∧ fRem i τs om P) := PE.imp (pe_bm PySem.F.plainAttrs_list PySem.F.slot_list_remove PySem.F.type_list_remove mt_removeS hv ha hbase hfew hline hs rfl) fun σ H Q ⟨c, G, om, P, r, ⟨⟨x0, h0⟩, h⟩, k⟩ => by
  obtain ⟨a, vs, h1, h2, h3⟩ := own_list r h0
  refine ⟨_, h1, .inl ⟨rfl, _, SqL.of h2⟩, c, G, om, _, r, h, fun ds o1 G1 ws H1 p g r1 q => ?_⟩
  split at p
  · rename_i kk es hi
    obtain ⟨xs, j, rfl, e1, e2, p⟩ := p
    obtain ⟨w, rfl, hw⟩ := q.one
    obtain ⟨a', vs', h4, h5, h6⟩ := own_list r1 hi
    rw [h1] at h4
    cases h4
    rw [strs_rp h6] at h5
    exact ⟨a, xs, kk, j, rfl, by rw [hw.strI], h5, e1, e2, k _ _ G1 _ _ p g (r1.write hi h1 ⟨_, upd_same, rp_strs _⟩) .non⟩
  · exact p.elim
def fExtT (i : Nat) (τs : FTa) : FT := fun o P => τs o fun ds o1 => match ds, o1.vs[i]? with
  | [.tuple ys], some (some (.own (.list xs))) => xs.length + ys.length ≤ sizeLine ∧ P .none (o1.put i (.own (.list (xs ++ ys))))
  | _, _ => False
theorem fe_extendT {i : Nat} {o e : Expr} {apos cpos : Pos} (hK : X.K = K) (hv : PE X o (tVar i)) (ha : PA X [e] (upA K τs))
    (hbase : attributeBase o "extend" X.env (eval o X.env) = eval o X.env := by rfl)
    (hfew : ((backTo cpos (starEach [e] X.env)).all (fun x => !x.1) && (backToKw cpos (keywordEach [] X.env)).all (fun x =>
        x.1.isSome)
      && decide (([e] : List Expr).length + ([] : List Keyword).length + (if ([] : List Keyword).isEmpty then 0 else 1) < 30)) = true := by
          rfl)
    (hline : (apos.endLine == cpos.line) = true := by rfl) (hs : starEach [e] X.env = (false, eval e X.env) :: starEach [] X.env := by rfl) :
    PE X (.Call (.Attribute o "extend" apos) [e] [] cpos) (up K fun om P => isOwnL om i ∧ fExtT i τs om P) := by
  subst hK
  exact PE.imp (pe_bm PySem.F.plainAttrs_list PySem.F.slot_list_extend PySem.F.type_list_extend Zm.mt_extendT hv ha hbase hfew hline hs rfl) fun σ H Q ⟨c, G, om, P, r, ⟨⟨x0, h0⟩, h⟩, k⟩ => by
    obtain ⟨a, vs, h1, h2, h3⟩ := own_list r h0
    refine ⟨_, h1, .inl ⟨rfl, _, SqL.of h2⟩, c, G, om, _, r, h, fun ds o1 G1 ws H1 p g r1 q => ?_⟩
    split at p
    · rename_i ys xs hi
      obtain ⟨w, rfl, hw⟩ := q.one
      obtain ⟨b, zs, rfl, h7, h8⟩ := hw.tupI
      obtain ⟨a', vs', h4, h5, h6⟩ := own_list r1 hi
      rw [h1] at h4
      cases h4
      exact ⟨a, b, vs', zs, rfl, rfl, h5, sqT_same r1.sub h7, by rw [h6.len, h8.len]; exact p.1, k _ _ G1 _ _ p.2 g (r1.write hi h1 ⟨_, upd_same, h6.append h8⟩) .non⟩
    · exact p.elim
/-! # zip of a tuple and a tuple or a list -/
theorem PI.or {tg it : Expr} {t1 t2 : TI} (h1 : PI X tg it t1) (h2 : PI X tg it t2) : PI X tg it (fun σ H R => t1 σ H R ∨ t2 σ H R) := ⟨fun pins s σ H Q I q => q.elim (h1.run pins s σ H Q I) (h2.run pins s σ H Q I)⟩
def fiZ2 (m : Bool) (τs : FTa) : FI := fun o P => fiZ m true τs o P ∨ fiZ m false τs o P
theorem fi_zip2 (m : Bool) (hK : X.K = K) {e2 : Expr} {p pos tp : Pos} {es : List Expr} {kk : Nat} (hg : Gl X "zip") (hm : X.mg "zip" = none) (ha : PA X [e, e2] (upA K τs))
    (hs : starEach [e, e2] X.env = (false, eval e X.env) :: starEach [e2] X.env := by rfl) (hpl : (backTo pos (starEach [e2] X.env)).any (·.1) = false := by rfl) : PI X (.Tuple es kk tp) (.Call (.Name "zip" p) [e, e2] [] pos) (upI K (fiZ2 m τs)) :=
  PI.imp (PI.or (fi_zip m true hK hg hm ha hs hpl) (fi_zip m false hK hg hm ha hs hpl)) fun σ H R ⟨c, G, o, P, r, h, k⟩ => h.elim (fun h => .inl ⟨c, G, o, P, r, h, k⟩) fun h => .inr ⟨c, G, o, P, r, h, k⟩
/-! # x or y, x no truth -/
def trueD : PyData → Option Bool
  | .none => some false
  | .bool b => some b
  | .int i => some (i != 0)
  | .list xs => some (!xs.isEmpty)
  | .tuple xs => some (!xs.isEmpty)
  | _ => none
theorem true_rp {G H : Hp} (s : Same G H) {v : V} {d : PyData} {k : Bool} (h : Rp K G v d) (e : trueD d = some k) : TruV K v H k := by
  have em : ∀ {xs : List V} {ds : List PyData}, RpAll K G xs ds → (!xs.isEmpty) = !ds.isEmpty := fun r => by cases r <;> rfl
  cases h with
  | non => cases e; rfl
  | bl b => cases e; rfl
  | int i => cases e; rfl
  | str x => cases e
  | lst h r =>
    cases e
    exact .inl ⟨_, SqL.of (s _ _ h), (em r).symm⟩
  | tup h r =>
    cases e
    exact .inr (.inl ⟨_, sqT_same s h, (em r).symm⟩)
  | dic h r => cases e
  | dit h n r => cases e
variable {a b : Expr} {rest : List Expr} {τa τb : FT} {pos : Pos}
def fOrT (τa τb : FT) : FT := fun o P => τa o fun x o1 => ∃ k, trueD x = some k ∧ if k = true then P x o1 else τb o1 P
theorem fe_orT (hK : X.K = K) (ha : PE X a (up K τa)) (hb : PE X (.BoolOp .Or (b :: rest) pos) (up K τb)) : PE X (.BoolOp .Or (a :: b :: rest) pos) (up K (fOrT τa τb)) := by
  subst hK
  exact PE.imp (pe_orT ha hb) fun σ H Q ⟨c, G, o, P, r, h, k⟩ => ⟨c, G, o, _, r, h, fun d o1 G1 v H1 ⟨kk, e, p⟩ g r1 q => by
    refine ⟨kk, true_rp r1.sub q e, ?_⟩
    cases kk with
    | true => exact k d o1 G1 v H1 p g r1 q
    | false => exact ⟨c, G1, o1, P, r1, p, fun d o' G' v H' p g' => k d o' G' v H' p (g.trans g')⟩⟩
/-! # texts in texts -/
def fInS (neg : Bool) : Fr2 := fun x y o P => match x, y with
  | .str i, .str j => P (.bool (if neg then !(!(Builtin.Str.occurrences j i 0 j.length 1).isEmpty) else !(Builtin.Str.occurrences j i 0 j.length 1).isEmpty)) o
  | _, _ => False
theorem fe_inS (ha : PE X a (up K τa)) (hb : PE X b (up K τb)) (hm : behindInMarks .In b = false := by rfl) : PE X (.Compare a [.In] [b] pos) (up K (fOp (fInS false) τa τb)) := fe_cmp op_in_str (fun c G o σ H x y d e P Q r hx hy h w => by
  unfold fInS at h
  split at h
  · exact ⟨_, _, hx.strI, hy.strI, w _ o G _ H h (Same.refl G) r (.bl _)⟩
  · exact h.elim) ha hb hm
theorem fe_notInS (ha : PE X a (up K τa)) (hb : PE X b (up K τb)) (hm : behindInMarks .NotIn b = false := by rfl) : PE X (.Compare a [.NotIn] [b] pos) (up K (fOp (fInS true) τa τb)) := fe_cmp op_notIn_str (fun c G o σ H x y d e P Q r hx hy h w => by
  unfold fInS at h
  split at h
  · exact ⟨_, _, hx.strI, hy.strI, w _ o G _ H h (Same.refl G) r (.bl _)⟩
  · exact h.elim) ha hb hm
theorem ft_eqL (hu : X.A.units + 128 < cLine) (hK : X.K = K) (ha : PE X a (up K τa)) (hb : PE X b (up K τb)) (hm : behindInMarks .Eq b = false := by exact nomark _) : PT X (.Compare a [.Eq] [b] pos) (upT K (fT (fOp fEqL τa τb))) := by
  subst hK
  exact ft_cmp (op_eqW hu) fr_eqL ha hb hm
/-! # [..] * n -/
def fRepL : Fr2 := fun x y o P => match x, y with
  | .list ds, .int n => -(2 ^ 63) ≤ n ∧ n < 2 ^ 63 ∧ ds.length * n.toNat ≤ sizeLine ∧ P (.list (List.replicate n.toNat ds).flatten) o
  | _, _ => False
theorem fo_rep (ha : PE X a (up K τa)) (hb : PE X b (up K τb)) : PE X (.BinOp a .Mult b pos) (upO K (fOp fRepL τa τb)) := fo_op op_rep (fun c G o σ H x y d e P Q r hx hy h w => by
  unfold fRepL at h
  split at h
  · obtain ⟨n0, n1, l, pp⟩ := h
    obtain ⟨p, xs, rfl, h1, h2⟩ := hx.lstI
    refine ⟨p, _, xs, rfl, hy.intI, r.sub _ _ h1, n0, n1, by rw [h2.len]; exact l, fun b hb => ?_⟩
    obtain ⟨r2, m1, m2, m3⟩ := r.mine hb (.lst (List.replicate (_ : Int).toNat xs).flatten)
    exact w _ o G b _ pp (Same.refl G) r2 ⟨m1, m2, _, upd_same, h2.rep _⟩ m3
  · exact h.elim) ha hb
end
end Lf

set_option maxRecDepth 100000
set_option maxHeartbeats 3900000
namespace Dr
open PySem PySem.Spec PyProof.Rows L2 K Lf
def sortTab : List (Str × List Str) := [("set", ["number", "word"]), ("add", ["number", "number", "word"]), ("plus", ["plain", "plain", "plain"]), ("minus", ["plain", "plain", "plain"]), ("times", ["plain", "plain", "plain"]), ("over", ["plain", "plain", "plain"]), ("rest", ["plain", "plain", "plain"]), ("mid", ["number", "number", "number"]), ("row", ["row", "number"]), ("get", ["plain", "row", "number"]), ("put", ["row", "number", "number"]), ("length", ["number", "row"]), ("ask", ["plain", "word", "word"]), ("tell", ["number"]), ("check", ["side", "sign", "side"]), ("if", ["side", "sign", "side", "label"]), ("go", ["label"]), ("call", ["plain", "callee", "given"]), ("back", ["number"])]
def sortsD : Str → Option PyData := fun x => ((sortTab.map fun p => (p.1, PyData.tuple (p.2.map .str))).find? fun p => x == p.1).map (·.2)
/-- a sort, a part of it, the names that it gives -/
inductive KP : Str → PyData → List Str → Prop
  | given (xs : List Str) : xs.length ≤ 1000 → KP "given" (strT xs) xs
  | one {k : Str} (x : Str) : k ∈ (["number", "plain", "row"] : List Str) → KP k (.str x) [x]
  | sideS (x : Str) : KP "side" (.str x) [x]
  | sideW (i : Int) : KP "side" (.int i) []
  | rest {k : Str} (d : PyData) : k ∈ (["word", "label", "sign", "callee"] : List Str) → KP k d []
inductive KPs : List Str → List PyData → List Str → Prop
  | nil : KPs [] [] []
  | cons {k : Str} {d : PyData} {xs : List Str} {ks : List Str} {ds : List PyData} {ys : List Str} : KP k d xs → KPs ks ds ys → KPs (k :: ks) (d :: ds) (xs ++ ys)
theorem KPs.len {ks : List Str} {ds : List PyData} {ys : List Str} (h : KPs ks ds ys) : ks.length = ds.length := by
  induction h with
  | nil => rfl
  | cons _ _ ih => rw [List.length_cons, List.length_cons,
      ih]
theorem KPs.pre {ks : List Str} {ds : List PyData} {ys : List Str} (h : KPs ks ds ys) : ∃ pre : Nat → List Str, pre 0 = [] ∧ pre ks.length = ys ∧ ∀ i k d, ks[i]? = some k → ds[i]? = some d → ∃ xs, KP k d xs ∧ pre (i + 1) = pre i ++ xs := by
  induction h with
  | nil => exact ⟨fun _ => [], rfl, rfl, fun i k d e => nomatch e⟩
  | @cons k d xs ks ds ys h t ih =>
    obtain ⟨pre, p0, p1, p2⟩ := ih
    refine ⟨fun i => match i with
      | 0 => []
      | i + 1 => xs ++ pre i, rfl, by show xs ++ pre ks.length = _; rw [p1], fun i k' d' e1 e2 => ?_⟩
    cases i with
    | zero =>
      cases e1
      cases e2
      exact ⟨xs, h, by show xs ++ pre 0 = [] ++ xs; rw [p0, List.append_nil, List.nil_append]⟩
    | succ i =>
      obtain ⟨zs, a, b⟩ := p2 i k' d' e1 e2
      exact ⟨zs, a, by show xs ++ pre (i + 1) = xs ++ pre i ++ zs; rw [b, List.append_assoc]⟩
theorem KPs.one {k : Str} {d : PyData} {xs : List Str} (h : KP k d xs) : KPs [k] [d] (xs ++ []) := .cons h .nil
def GivenFew (a : Act) : Prop := ∀ x f gs, a = .call x f gs → gs.length ≤ 1000
theorem sortsOf {wd : Str} {ks : List Str} (h : (wd, ks) ∈ sortTab) : sortsD wd = some (strT ks) := by
  have : ∀ p ∈ sortTab, (sortTab.find? fun q => p.1 == q.1) = some p := by decide +kernel
  have := this _ h
  unfold sortsD
  rw [List.find?_map]
  show ((sortTab.find? fun q => wd == q.1).map _).map _ = _
  rw [this]
  rfl
theorem AFit.sorts {h : Hd} {hs : List Hd} {w : Int} {L : Int → Prop} {a : Act} (f : AFit h hs w L a) (g : GivenFew a) : ∃ ks, sortsD a.word = some (strT ks) ∧ KPs ks a.parts a.names := by
  have nu : ∀ x : Str, KP "number" (.str x) [x] := fun x => .one x (by decide +kernel)
  have pl : ∀ x : Str, KP "plain" (.str x) [x] := fun x => .one x (by decide +kernel)
  have ro : ∀ x : Str, KP "row" (.str x) [x] := fun x => .one x (by decide +kernel)
  have wo : ∀ x : PyData, KP "word" x [] := fun x => .rest x (by decide +kernel)
  have la : ∀ x : PyData, KP "label" x [] := fun x => .rest x (by decide +kernel)
  have si : ∀ x : PyData, KP "sign" x [] := fun x => .rest x (by decide +kernel)
  have ca : ∀ x : PyData, KP "callee" x [] := fun x => .rest x (by decide +kernel)
  have sd : ∀ s : Side, KP "side" s.d s.nms := fun s => by
    cases s with
    | nm x => exact .sideS x
    | wd i => exact .sideW i
  cases f with
  | set _ _ => exact ⟨_, sortsOf (wd := "set") (ks := ["number", "word"]) (by decide +kernel), .cons (nu _) (.one (wo _))⟩
  | addP _ _ _ => exact ⟨_, sortsOf (wd := "add") (ks := ["number", "number", "word"]) (by decide +kernel), .cons (nu _) (.cons (nu _) (.one (wo _)))⟩
  | addF _ _ _ => exact ⟨_, sortsOf (wd := "add") (ks := ["number", "number", "word"]) (by decide +kernel), .cons (nu _) (.cons (nu _) (.one (wo _)))⟩
  | sum s _ _ _ =>
    have : ∀ s ∈ sumWords, (s, (["plain", "plain", "plain"] : List Str)) ∈ sortTab := by decide +kernel
    exact ⟨_, sortsOf (this _ s), .cons (pl _) (.cons (pl _) (.one (pl _)))⟩
  | midP _ _ _ => exact ⟨_, sortsOf (wd := "mid") (ks := ["number", "number", "number"]) (by decide +kernel), .cons (nu _) (.cons (nu _) (.one (nu _)))⟩
  | midF _ _ _ => exact ⟨_, sortsOf (wd := "mid") (ks := ["number", "number", "number"]) (by decide +kernel), .cons (nu _) (.cons (nu _) (.one (nu _)))⟩
  | row _ _ => exact ⟨_, sortsOf (wd := "row") (ks := ["row", "number"]) (by decide +kernel), .cons (ro _) (.one (nu _))⟩
  | get _ _ _ => exact ⟨_, sortsOf (wd := "get") (ks := ["plain", "row", "number"]) (by decide +kernel), .cons (pl _) (.cons (ro _) (.one (nu _)))⟩
  | put _ _ _ => exact ⟨_, sortsOf (wd := "put") (ks := ["row", "number", "number"]) (by decide +kernel), .cons (ro _) (.cons (nu _) (.one (nu _)))⟩
  | length _ _ => exact ⟨_, sortsOf (wd := "length") (ks := ["number", "row"]) (by decide +kernel), .cons (nu _) (.one (ro _))⟩
  | ask _ _ _ _ => exact ⟨_, sortsOf (wd := "ask") (ks := ["plain", "word", "word"]) (by decide +kernel), .cons (pl _) (.cons (wo _) (.one (wo _)))⟩
  | tell _ => exact ⟨_, sortsOf (wd := "tell") (ks := ["number"]) (by decide +kernel), .one (nu _)⟩
  | @check s sg t _ _ _ =>
    refine ⟨_, sortsOf (wd := "check") (ks := ["side", "sign", "side"]) (by decide +kernel), ?_⟩
    have := KPs.cons (sd s) (.cons (si (.str sg)) (.one (sd t)))
    rwa [List.nil_append, List.append_nil] at this
  | @ite s sg t l _ _ _ _ =>
    refine ⟨_, sortsOf (wd := "if") (ks := ["side", "sign", "side", "label"]) (by decide +kernel), ?_⟩
    have := KPs.cons (sd s) (.cons (si (.str sg)) (.cons (sd t) (.one (la (.int l)))))
    rwa [List.nil_append, List.append_nil, List.append_nil] at this
  | go _ => exact ⟨_, sortsOf (wd := "go") (ks := ["label"]) (by decide +kernel), .one (la _)⟩
  | @call x o gs _ _ _ =>
    refine ⟨_, sortsOf (wd := "call") (ks := ["plain", "callee", "given"]) (by decide +kernel), ?_⟩
    have := KPs.cons (pl x) (.cons (ca (.str o.name)) (.one (.given gs (g _ _ _ rfl))))
    rwa [List.nil_append, List.append_nil] at this
  | back _ => exact ⟨_, sortsOf (wd := "back") (ks := ["number"]) (by decide +kernel), .one (nu _)⟩
theorem iteY {c : Bool} {A B : Prop} (h : c = true) (a : A) : if c = true then A else B := by rw [if_pos h]; exact a
theorem iteN {c : Bool} {A B : Prop} (h : c = false) (b : B) : if c = true then A else B := by rw [if_neg (by rw [h]; exact Bool.false_ne_true)]; exact b
section
variable {P : Program} {w : World} {K : PySem.W.Frag} [Tabled K] {mg : Str → Option Value} {base : Heap}
abbrev s_names_in : Stmt := topS 4
theorem sc_names_in : FnScope ["act", "names", "sort", "part"] ["act"] (defScope s_names_in) := ⟨rfl, rfl, rfl, by decide +kernel, rfl, by decide +kernel, by decide +kernel⟩
def phNamesIn : Ph := fun ds P => ∃ (h : Hd) (hs : List Hd) (wd : Int) (L : Int → Prop) (a : Act), ds = [a.d] ∧ AFit h hs wd L a ∧ GivenFew a ∧ a.names.length ≤ 1001 ∧ P (strL a.names)
theorem ok_names_in (B : Bs mg) (SO : KTab K w mg "SORTS" sortsD) {f : Addr} {fd : FuncData} (F : Fun K "names_in" "names_in" s_names_in f fd) : FnOk P w K mg base CX0 1 f fd ["act"] (spO K phNamesIn) := by
  refine okO F sc_names_in (fun ds P ⟨h, hs, wd, L, a, e, _⟩ => by rw [e]; rfl)
    (fun cdv A outer s H E hr => (fss_cons (fs_setO (i := 1) sc_names_in.nd rfl (.inl rfl) (fo_lst fa_nil))
      (fss_cons (fs_for (fi_zip true true rfl (by rfl) B.zip (fa_cons (fe_kget rfl SO (by rfl) (fe_ix rfl (fv (pv 0)) fe_int)) (fa_cons (fe_slT rfl (fv (pv 0)) (fp_some fe_int) fp_none) fa_nil))) (fg_tup (n := 2) rfl rfl (fgs_cons (fg_name (i := 2) sc_names_in.nd rfl (.inl rfl)) (fgs_cons (fg_name (i := 3) sc_names_in.nd rfl (.inl rfl)) fgs_nil)))
      (fss_one (fs_if (ft_eq (fv (pv 2)) fe_str)
      (fss_one (fs_expr (fe_extendT rfl (pv 1) (fa_cons (fv (pv 3)) fa_nil))))
      (fss_one (fs_if (ft_in rfl (fv (pv 2)) (fe_tup (fa_cons fe_str (fa_cons fe_str (fa_cons fe_str fa_nil)))))
      (fss_one (fs_expr (fe_append (pv 1) (fa_cons (fv (pv 3)) fa_nil))))
      (fss_one (fs_if (fw_pt (fw_and (ft_eq (fv (pv 2)) fe_str) (fw_and1 (ft_val (fe_isi (tn := "str") rfl (by rfl) B.isinstance (fv (pv 3)) (by rfl) B.str (by decide +kernel))))))
      (fss_one (fs_expr (fe_append (pv 1) (fa_cons (fv (pv 3)) fa_nil))))
      fss_nil)))))) PassesOwn.never rfl)
      (fss_one (fs_retO (fo_var (pv 1))))))) fun ds P h => ?_
  obtain ⟨h, hs, wd, L, a, rfl, af, gf, fw, q⟩ := h
  obtain ⟨ks, e1, kp⟩ := af.sorts gf
  obtain ⟨pre, p0, p1, p2⟩ := kp.pre
  have kl := kp.len
  have fewP : ∀ i, i < ks.length → (pre i).length ≤ 1001 := fun i hi => by
    have mono : ∀ n, i + n ≤ ks.length → (pre i).length ≤ (pre (i + n)).length := fun n => by
      induction n with
      | zero => exact fun _ => Nat.le_refl _
      | succ n ih =>
        intro hn
        obtain ⟨xs, _, e⟩ := p2 (i + n) _ _ (List.getElem?_eq_getElem (by omega : i + n < ks.length)) (List.getElem?_eq_getElem (by omega : i + n < a.parts.length))
        have := ih (by omega)
        rw [show i + (n + 1) = i + n + 1 from rfl, e, List.length_append]
        omega
    have := mono (ks.length - i) (by omega)
    rw [show i + (ks.length - i) = ks.length from by omega, p1] at this
    omega
  refine ⟨by show 0 ≤ sizeLine; decide, ?_⟩
  refine ⟨_, at_pos, _, e1, ?_⟩
  have ct : cutL (.str a.word :: a.parts) (some 1) none = a.parts := cut_tail _
  refine ⟨ks.map .str, a.parts, rfl, by show some (cutL (.str a.word :: a.parts) (some 1) none) = _; rw [ct], fun i om => ∃ u v, om = ⟨[some (.dat a.d), some (.own (strL (pre i))), u, v], 0⟩, ⟨_, _, by rw [p0]; rfl⟩, ?_, ?_⟩
  · rintro i e om hi ⟨u, v, rfl⟩
    have il : i < ks.length := by
      have := (List.getElem?_eq_some_iff.mp
          hi).1
      rw [zipD_len, List.length_map] at this
      omega
    have h1 := List.getElem?_eq_getElem il
    have h2 := List.getElem?_eq_getElem (show i < a.parts.length by omega)
    have h3 := zipD_at (xs := ks.map PyData.str) (ys := a.parts) (i := i) (by rw [List.getElem?_map, h1]; rfl) h2
    rw [h3] at hi
    cases hi
    obtain ⟨xs, k, e⟩ := p2 i _ _ h1 h2
    have few := fewP i il
    revert k
    generalize ks[i] = kk
    generalize a.parts[i]'(by omega) = dd
    intro k
    refine ⟨rfl, ?_⟩
    have ap : ∀ x : Str, xs = [x] → (pre i).length < sizeLine ∧ ∃ u v, (⟨[some (.dat a.d), some (.own (.list ((pre i).map PyData.str ++ [PyData.str x]))), some (.dat (.str kk)), some (.dat dd)], 0⟩ : Om) = ⟨[some (.dat a.d), some (.own (strL (pre (i + 1)))), u, v], 0⟩ := fun x ex => by
      refine ⟨Nat.lt_of_le_of_lt few (by decide), some (.dat (.str kk)), some (.dat dd), ?_⟩
      rw [e, ex]
      unfold strL
      rw [List.map_append]
      rfl
    cases k with
    | given _ hy =>
      refine ⟨⟨_, rfl⟩, ?_, some (.dat (.str "given")), some (.dat (strT xs)), ?_⟩
      · rw [List.length_map, List.length_map]
        exact Nat.le_trans (Nat.add_le_add few hy) (by decide)
      · rw [e]
        unfold strL
        rw [List.map_append]
        rfl
    | one x hk =>
      have t : ∀ k ∈ (["number", "plain", "row"] : List Str), k ≠ "given" ∧ ((["number", "plain", "row"] : List Str).map PyData.str).any (fun d => eqF d (.str k)) = true := by decide +kernel
      obtain ⟨t1, t2⟩ := t _ hk
      refine iteN ?_ ?_
      · exact (decide_eq_false t1)
      refine ⟨by show 3 ≤ sizeLine; decide, ⟨rfl, rfl⟩, ?_⟩
      refine iteY ?_ ?_
      · exact t2
      obtain ⟨a1, a2⟩ := ap x rfl
      exact ⟨⟨_, rfl⟩, by rw [List.length_map]; exact a1, a2⟩
    | sideS x =>
      refine ⟨by show 3 ≤ sizeLine; decide, ⟨rfl, rfl⟩, ?_⟩
      refine ⟨true, by show kitB "str" "str" = some true; decide +kernel, ?_⟩
      obtain ⟨a1, a2⟩ := ap x rfl
      exact ⟨⟨_, rfl⟩, by rw [List.length_map]; exact a1, a2⟩
    | sideW j =>
      refine ⟨by show 3 ≤ sizeLine; decide, ⟨rfl, rfl⟩, ?_⟩
      refine ⟨false, by show kitB "int" "str" = some false; decide +kernel, ?_⟩
      rw [List.append_nil] at e
      exact ⟨_, _, by rw [e]; rfl⟩
    | rest d hk =>
      have t : ∀ k ∈ (["word", "label", "sign", "callee"] : List Str), k ≠ "given" ∧ k ≠ "side" ∧ ((["number", "plain", "row"] : List Str).map PyData.str).any (fun d => eqF d (.str k)) = false := by decide +kernel
      obtain ⟨t1, t2, t3⟩ := t _ hk
      refine iteN ?_ ?_
      · exact (decide_eq_false t1)
      refine ⟨by show 3 ≤ sizeLine; decide, ⟨rfl, rfl⟩, ?_⟩
      refine iteN ?_ ?_
      · exact t3
      refine iteN ?_ ?_
      · exact (decide_eq_false t2)
      rw [List.append_nil] at e
      exact ⟨_, _, by rw [e]; rfl⟩
  · rintro om ⟨u, v, rfl⟩
    rw [zipD_len, List.length_map, ← kl, Nat.min_self, p1]
    exact q
end
end Dr

set_option maxRecDepth 100000
set_option maxHeartbeats 3900000
namespace Dr
open PySem PySem.Spec PyProof.Rows L2 K Lf
theorem names_few {h : Hd} {hs : List Hd} {w : Int} {L : Int → Prop} {a : Act} (ok : HdsOk hs) (f : AFit h hs w L a) : a.names.length ≤ 8 ∧ GivenFew a := by
  have gl : ∀ {h o : Hd} {gs ps : List Str}, Given h o gs ps → gs.length = ps.length := fun g => by
    induction g with
    | nil => rfl
    | plain _ _ _ ih => exact congrArg (· + 1) ih
    | finger _ _ _ ih => exact congrArg (· + 1) ih
    | row _ _ _ ih => exact congrArg (· + 1) ih
  have sl : ∀ s : Side, s.nms.length ≤ 1 := fun s => by cases s <;> exact Nat.le_of_ble_eq_true rfl
  cases f with
  | @check s g t _ _ _ =>
    refine ⟨?_, fun _ _ _ e => nomatch e⟩
    show (s.nms ++ t.nms).length ≤ 8
    rw [List.length_append]
    have := sl s
    have := sl t
    omega
  | @ite s g t l _ _ _ _ =>
    refine ⟨?_, fun _ _ _ e => nomatch e⟩
    show (s.nms ++ t.nms).length ≤ 8
    rw [List.length_append]
    have := sl s
    have := sl t
    omega
  | @call x o gs a b c =>
    have e := gl c
    have k := (ok.ok o b).few
    refine ⟨?_, fun _ _ _ e2 => ?_⟩
    · show gs.length + 1 ≤ 8
      omega
    · cases e2
      omega
  | _ => exact ⟨Nat.le_of_ble_eq_true rfl, fun _ _ _ e => nomatch e⟩
/-- a def that was drawn -/
structure DefFit (w : Int) (d : Df) : Prop where
  ex : ∃ hs h, HdsOk hs ∧ h ∈ hs ∧ DfOf h hs w d
theorem PgFit.df {p : Pg} (f : PgFit p) {d : Df} (hd : d ∈ p.defs) : DefFit p.wide d := by
  obtain ⟨h, hs, a, b, c⟩ := f.of hd
  exact ⟨hs, h, a, b, c⟩
theorem DefFit.letters {w : Int} {d : Df} (f : DefFit w d) : ∀ x ∈ d.raw, x ∈ letters := by
  obtain ⟨hs, h, a, b, c⟩ := f.ex
  exact raw_letters (a.ok h b) c
def Df.at (d : Df) (i : Nat) : List Str := d.params ++ (d.fingers ++ d.rows) ++ (d.steps.take i).flatMap fun s => s.2.names
theorem Df.at_all {d : Df} : d.at d.steps.length = d.raw := by
  unfold Df.at Df.raw
  rw [List.take_length, ← List.append_assoc d.params]
theorem Df.at_next {d : Df} {i : Nat} {s : Stp} (h : d.steps[i]? = some s) : d.at (i + 1) = d.at i ++ s.2.names := by
  unfold Df.at
  rw [take_next h, List.flatMap_append, List.flatMap_cons, List.flatMap_nil, List.append_nil, ← List.append_assoc]
theorem DefFit.few {w : Int} {d : Df} (f : DefFit w d) (i : Nat) : (d.at i).length ≤ 400 := by
  obtain ⟨hs, h, a, b, c⟩ := f.ex
  have ok := a.ok h b
  have lens := ok.lens
  have key : ∀ l : List Stp, (∀ s ∈ l, s.2.names.length ≤ 8) → (l.flatMap fun s => s.2.names).length ≤ 8 * l.length := by
    intro l
    induction l with
    | nil => intro _; exact Nat.le_refl _
    | cons s r ih =>
      intro hl
      have h1 := hl s List.mem_cons_self
      have h2 := ih fun x m => hl x (List.mem_cons_of_mem _ m)
      rw [List.flatMap_cons, List.length_append, List.length_cons]
      omega
  have k := key (d.steps.take i) fun s m => (names_few a (c.steps.acts s (List.mem_of_mem_take m))).1
  have k2 : (d.steps.take i).length ≤ 30 := Nat.le_trans (List.length_take_le' _ _) c.steps.few
  have k3 := ok.few
  unfold Df.at
  rw [List.length_append, List.length_append, List.length_append, c.params, c.fingers, c.rows]
  omega
section
variable {P : Program} {w : World} {K : PySem.W.Frag} [Tabled K] {mg : Str → Option Value} {base : Heap}
abbrev s_names_of : Stmt := topS 6
theorem sc_names_of : FnScope ["definition", "params", "fingers", "rows", "steps", "names", "step"] ["definition"] (defScope s_names_of) := ⟨rfl, rfl, rfl, by decide +kernel, rfl, by decide +kernel, by decide +kernel⟩
def phNamesOf : Ph := fun ds P => ∃ (wd : Int) (d : Df), ds = [d.d] ∧ DefFit wd d ∧ ∀ ys, IsN d ys → P (strL ys)
theorem ok_names_of (B : Bs mg) (c_names_in : C8.Cal P w K mg base 1 "names_in" (spO K phNamesIn) []) {f : Addr} {fd : FuncData} (F : Fun K "names_of" "names_of" s_names_of f fd) : FnOk P w K mg base CX0 2 f fd ["definition"] (spO K phNamesOf) := by
  refine okO F sc_names_of (fun ds P ⟨wd, d, e, _⟩ => by rw [e]; rfl)
    (fun cdv A outer s H E hr => (fss_cons (fs_asg (fe_slT rfl (fv (pv 0)) (fp_some fe_int) fp_none) (fg_tup (n := 4) rfl rfl (fgs_cons (fg_name (i := 1) sc_names_of.nd rfl (.inl rfl)) (fgs_cons (fg_name (i := 2) sc_names_of.nd rfl (.inl rfl)) (fgs_cons (fg_name (i := 3) sc_names_of.nd rfl (.inl rfl)) (fgs_cons (fg_name (i := 4) sc_names_of.nd rfl (.inl rfl)) fgs_nil))))))
      (fss_cons (fs_setO (i := 5) sc_names_of.nd rfl (.inl rfl) (fo_lst (fa_star (fv (pv 1)) (fa_star (fv (pv 2)) (fa_star (fv (pv 3)) fa_nil)))))
      (fss_cons (fs_for (fi_tup rfl (fv (pv 4))) (fg_name (i := 6) sc_names_of.nd rfl (.inl rfl))
      (fss_one (fs_expr (fe_extend (pv 5) (fa_cons (foe (fo_c c_names_in hr (by decide) (by rfl) (fa_cons (fe_ix rfl (fv (pv 6)) fe_int) fa_nil))) fa_nil)))) PassesOwn.never rfl)
      (fss_one (fs_retO (fo_sortSet rfl (by rfl) (by rfl) B.sorted (by rfl) B.set (fa_cons (fv (pv 5)) fa_nil)))))))) fun ds P h => ?_
  obtain ⟨wd, d, rfl, df, q⟩ := h
  obtain ⟨hs, h, hso, hm, c⟩ := df.ex
  have f0 := df.few 0
  have e0 : d.at 0 = d.params ++ (d.fingers ++ d.rows) := by unfold Df.at; simp
  refine ⟨rfl, ?_, fun i om => ∃ u, om = ⟨[some (.dat d.d), some (.dat (strT d.params)), some (.dat (strT d.fingers)), some (.dat (strT d.rows)), some (.dat (.tuple (d.steps.map stpD))), some (.own (strL (d.at i))), u], 0⟩, ⟨none, ?_⟩, ?_, ?_⟩
  · rw [e0] at f0
    show (d.params.map PyData.str ++ (d.fingers.map PyData.str ++ (d.rows.map PyData.str ++ []))).length ≤ sizeLine
    rw [List.append_nil, ← List.map_append, ← List.map_append, List.length_map]
    exact Nat.le_trans f0 (by decide)
  · have : strL (d.at 0) = .list (d.params.map PyData.str ++ (d.fingers.map PyData.str ++ (d.rows.map PyData.str ++ []))) := by
      rw [e0]
      unfold strL
      rw [List.map_append, List.map_append, List.append_nil]
    rw [this]
    rfl
  · rintro i e om hi ⟨u, rfl⟩
    obtain ⟨s, hs', rfl⟩ := mapAt hi
    have af := c.steps.acts s (List.mem_of_getElem? hs')
    obtain ⟨n8, gf⟩ := names_few hso af
    refine ⟨⟨_, rfl⟩, _, at_two, h, hs, wd, _, s.2, rfl, af, gf, by omega, ?_, some (.dat (stpD s)), ?_⟩
    · rw [List.length_map, List.length_map]
      have := df.few i
      exact Nat.le_trans (Nat.add_le_add this n8) (by decide)
    · rw [Df.at_next hs']
      unfold strL
      rw [List.map_append]
      rfl
  · rintro om ⟨u, rfl⟩
    rw [List.length_map, Df.at_all]
    have fw := df.few d.steps.length
    rw [Df.at_all] at fw
    exact ⟨d.raw, rfl, Nat.lt_of_le_of_lt fw (by decide), ⟨letters, by decide, df.letters⟩, fun ys n s m => q ys ⟨n, s, m⟩⟩
end
end Dr

set_option maxRecDepth 100000
set_option maxHeartbeats 3900000
namespace Dr
open PySem PySem.Spec PyProof.Rows L2 K Lf
/-! # how states begin -/
def cel0 (d : Df) (y : Str) : Cel := if y ∈ d.rows then .row [] else .num 0
def initS (d : Df) (ys : List Str) : Sta := ys.map fun y => (y, cel0 d y)
theorem initS_keys {d : Df} {ys : List Str} : (initS d ys).map (·.1) = ys := by
  unfold initS
  rw [List.map_map]
  exact List.map_id _
def puts (s : Sta) (l : List (Str × Cel)) : Sta := l.foldl (fun s p => s.put p.1 p.2) s
theorem puts_next {s : Sta} {l : List (Str × Cel)} {i : Nat} {p : Str × Cel} (h : l[i]? = some p) : puts s (l.take (i + 1)) = (puts s (l.take i)).put p.1 p.2 := by
  unfold puts
  rw [List.take_add_one]
  rw [h, List.foldl_append]
  rfl
theorem puts_keys {s : Sta} : ∀ {l : List (Str × Cel)}, (∀ p ∈ l, p.1 ∈ s.map (·.1)) → (puts s l).map (·.1) = s.map (·.1) := by
  intro l
  induction l generalizing s
      with
  | nil => intro _; rfl
  | cons p r ih =>
    intro h
    have k := Sta.put_keys (c := p.2) (h p List.mem_cons_self)
    show (puts (s.put p.1 p.2) r).map (·.1) = _
    rw [ih fun q m => by rw [k]; exact h q (List.mem_cons_of_mem _ m), k]
theorem puts_mem {s : Sta} : ∀ {l : List (Str × Cel)}, (∀ p ∈ l, p.1 ∈ s.map (·.1)) → ∀ {y : Str} {e : Cel}, (y, e) ∈ puts s l → (y, e) ∈ s ∨ (y, e) ∈ l := by
  intro l
  induction l generalizing s
      with
  | nil => intro _ y e m; exact .inl m
  | cons p r ih =>
    intro h y e m
    have k := Sta.put_keys (c := p.2) (h p List.mem_cons_self)
    rcases ih (s := s.put p.1 p.2) (fun q m => by rw [k]; exact h q (List.mem_cons_of_mem _ m)) m with z | z
    · rcases Sta.put_mem (h p List.mem_cons_self) z with z | ⟨rfl, rfl⟩
      · exact .inl z
      · exact .inr List.mem_cons_self
    · exact .inr (List.mem_cons_of_mem _ z)
theorem Sta.put_new {s : Sta} {x : Str} {c : Cel} (h : x ∉ s.map (·.1)) : s.put x c = s ++ [(x, c)] := by
  unfold Sta.put
  rw [if_neg fun z => h (by
    obtain ⟨p, hp, e⟩ := List.any_eq_true.mp z
    rw [(by simpa using e : x = p.1)]
    exact List.mem_map_of_mem hp)]
theorem initS_next {d : Df} {ys : List Str} {i : Nat} {y : Str} (n : ys.Nodup) (h : ys[i]? = some y) : initS d (ys.take (i + 1)) = (initS d (ys.take i)).put y (cel0 d y) := by
  have ni : y ∉ ys.take i := fun m => by
    obtain ⟨j, hj⟩ := List.getElem?_of_mem m
    obtain ⟨l1, e1⟩ := List.getElem?_eq_some_iff.mp hj
    rw [List.length_take] at l1
    rw [List.getElem?_take_of_lt (by omega)] at hj
    obtain ⟨l2, e2⟩ := List.getElem?_eq_some_iff.mp hj
    obtain ⟨l3, e3⟩ := List.getElem?_eq_some_iff.mp h
    exact List.pairwise_iff_getElem.mp n j i l2 l3 (by omega) (by rw [e2, e3])
  rw [Sta.put_new (by rw [initS_keys]; exact ni), List.take_add_one, h]
  unfold initS
  rw [List.map_append]
  rfl
/-- what is given to the params goes with their kinds -/
def GivC (d : Df) (w : Int) (cs : List Cel) : Prop := ∀ (i : Nat) (p : Str) (c : Cel), d.params[i]? = some p → cs[i]? = some c → (p ∈ d.rows → ∃ xs : List Int, c = Cel.row xs ∧ (xs.length : Int) ≤ w ∧ ∀ i ∈ xs, Wd w i) ∧ (p ∉ d.rows → ∃ j : Int, c = Cel.num j ∧ Wd w j)
noncomputable def beginF (d : Df) (cs : List Cel) : Sta := puts (initS d d.names) (d.params.zip cs)
theorem raw_params {d : Df} {p : Str} (h : p ∈ d.params) : p ∈ d.raw := List.mem_append_left _ (List.mem_append_left _ (List.mem_append_left _ h))
theorem zip_keys {d : Df} {ys : List Str} (h : IsN d ys) {cs : List Cel} : ∀ p ∈ d.params.zip cs, p.1 ∈ (initS d ys).map (·.1) := fun p m => by
  rw [initS_keys]
  exact (h.2.2 _).mpr (raw_params (List.of_mem_zip (a := p.1) (b := p.2) m).1)
theorem beginF_of {d : Df} {w : Int} {ys : List Str} {cs : List Cel} (h : IsN d ys) (g : GivC d w cs) (w0 : 0 ≤ w) : (beginF d cs).Of d w := by
  unfold beginF
  rw [h.is]
  have inits : ∀ x c, (x, c) ∈ initS d ys → c = cel0 d x := fun x c m => by
    obtain ⟨y, _, e⟩ := List.mem_map.mp m
    cases e
    rfl
  have zips : ∀ x c, (x, c) ∈ d.params.zip cs → ∃ i, d.params[i]? = some x ∧ cs[i]? = some c := fun x c m => by
    obtain ⟨i, hi⟩ := List.getElem?_of_mem m
    exact ⟨i, List.getElem?_zip_eq_some.mp hi⟩
  refine ⟨by rw [puts_keys (zip_keys h), initS_keys]; exact h, fun x c m r => ?_, fun x c m r => ?_⟩
  · rcases puts_mem (zip_keys h) m with m | m
    · refine ⟨[], ?_, w0, fun i k => nomatch k⟩
      rw [inits x c m]
      unfold cel0
      rw [if_pos r]
    · obtain ⟨i, a, b⟩ := zips x c m
      exact (g i x c a b).1 r
  · rcases puts_mem (zip_keys h) m with m | m
    · refine ⟨0, ?_, by show -w ≤ 0 ∧ 0 ≤ w; omega⟩
      rw [inits x c m]
      unfold cel0
      rw [if_neg r]
    · obtain ⟨i, a, b⟩ := zips x c m
      exact (g i x c a b).2 r
end Dr

set_option maxRecDepth 100000
set_option maxHeartbeats 3900000
namespace Dr
open PySem PySem.Spec PyProof.Rows L2 K Lf
section
variable {P : Program} {w : World} {K : PySem.W.Frag} [Tabled K] {mg : Str → Option Value} {base : Heap}
abbrev s_beginning : Stmt := topS 14
theorem sc_beginning : FnScope ["program", "name", "given", "definition", "rows", "state", "param", "worth", "each"] ["program", "name", "given"] (defScope s_beginning) := ⟨rfl, rfl, rfl, by decide +kernel, rfl, by decide +kernel, by decide +kernel⟩
/-- the things that are given, in a list or a tuple -/
def givD (m : Bool) (cs : List Cel) : PyData := if m then .tuple (cs.map Cel.d) else .list (cs.map Cel.d)
def phBegin : Ph := fun ds P => ∃ (p : Pg) (d : Df) (m : Bool) (cs : List Cel), ds = [p.d, .str d.name, givD m cs] ∧ Listed p ∧ d ∈ p.defs ∧ DefFit p.wide d ∧ GivC d p.wide cs ∧ (∀ ys, IsN d ys → P (beginF d cs).d)
theorem cel_tup {xs : List Int} : (Cel.row xs).d = .tuple (xs.map .int) := rfl
theorem isn_few {w : Int} {d : Df} (f : DefFit w d) {ys : List Str} (h : IsN d ys) : ys.length ≤ 7 := nodup_letters h.1 fun y m => f.letters y ((h.2.2 y).mp m)
theorem ok_beginning (B : Bs mg) (c_def_at : C8.Cal P w K mg base 1 "def_at" (spP K phDefAt) []) (c_names_of : C8.Cal P w K mg base 2 "names_of" (spO K phNamesOf) []) {dvs : List V} {kws : List (Str × V)} {f : Addr} {fd : FuncData} (F : FunDf K "beginning" "beginning" s_beginning dvs kws f fd) : FnOk P w K mg base CX0 3 f fd ["program", "name", "given"] (spO K phBegin) := by
  refine okOD F sc_beginning (fun ds P ⟨p, d, m, cs, e, _⟩ => by rw [e]; rfl)
    (fun cdv A outer s H E hr => (fss_cons (fs_set (i := 3) sc_beginning.nd rfl (.inl rfl) (fe_c c_def_at hr (by decide) (by rfl) (fa_cons (fv (pv 0)) (fa_cons (fv (pv 1)) fa_nil))))
      (fss_cons (fs_set (i := 4) sc_beginning.nd rfl (.inr rfl) (fe_ix rfl (fv (pv 3)) fe_int))
      (fss_cons (fs_setDcO (i := 5) (own := [("each", 8)]) (by rfl) sc_beginning.nd rfl rfl (sw_dict rfl rfl rfl (by decide +kernel)) (fi_list rfl (foe (fo_c c_names_of hr (by decide) (by rfl) (fa_cons (fv (pv 3)) fa_nil)))) (blkOk_by (own := [("each", 8)]) (N := ["program", "name", "given", "definition", "rows", "state", "param", "worth", "each"]) (sc := defScope s_beginning) (by decide +kernel)) (fun _ _ _ _ _ => (fg_name (i := 8) sc_beginning.nd rfl (.inl rfl) (hf := .inr rfl))) (fun _ _ _ _ _ => fts_nil) (fun _ _ _ _ _ => (fv (pv 8))) (fun _ _ _ _ _ => (fe_if (ft_in rfl (fv (pv 8)) (fv (pv 4))) (fe_tup fa_nil) fe_int)) (by decide))
      (fss_cons (fs_for (fi_zip2 true rfl (by rfl) B.zip (fa_cons (fe_ix rfl (fv (pv 3)) fe_int) (fa_cons (fv (pv 2)) fa_nil))) (fg_tup (n := 2) rfl rfl (fgs_cons (fg_name (i := 6) sc_beginning.nd rfl (.inl rfl)) (fgs_cons (fg_name (i := 7) sc_beginning.nd rfl (.inl rfl)) fgs_nil)))
      (fss_one (fs_subD (fe_if (ft_in rfl (fv (pv 6)) (fv (pv 4))) (fe_tupleOf rfl (by rfl) B.tuple (fv (pv 7))) (fv (pv 7))) (pv 5) (fv (pv 6)) (hu_of hr))) PassesOwn.never rfl)
      (fss_one (fs_retO (fo_var (pv 5))))))))) fun ds P h => ?_
  obtain ⟨p, d, m, cs, rfl, ok, hd, df, gv, q⟩ := h
  refine ⟨p, d, rfl, ok, hd, _, atI_nat (j := 3) rfl, p.wide, d, rfl, df, fun ys hy => ?_⟩
  have few := isn_few df hy
  refine ⟨by rw [List.length_map]; exact Nat.lt_of_le_of_lt few (by decide), fun i acc om => acc = (initS d (ys.take i)).kvs ∧ om = ⟨[some (.dat p.d), some (.dat (.str d.name)), some (.dat (givD m cs)), some (.dat d.d), some (.dat (strT d.rows)), none, none, none, none], 0⟩, ⟨rfl, rfl⟩, ?_, ?_⟩
  · rintro i acc e om hi ⟨rfl, rfl⟩
    obtain ⟨y, hy', rfl⟩ := mapAt hi
    have nx : putD (.inr y) (cel0 d y).d (initS d (ys.take i)).kvs = (initS d (ys.take (i + 1))).kvs := by
      rw [Sta.put_kvs, initS_next hy.1 hy']
    refine ⟨⟨rfl, strs_all _⟩, ?_⟩
    refine ite2 (fun c => ?_) fun c => ?_
    · have c : ((d.rows.map PyData.str).any fun e => eqF e (.str y)) = true := c
      rw [any_strs] at c
      refine ⟨by show 0 ≤ sizeLine; decide, .inr y, rfl, ?_, rfl⟩
      rw [← nx]
      unfold cel0
      rw [if_pos (of_decide_eq_true c)]
      rfl
    · have c : ¬ ((d.rows.map PyData.str).any fun e => eqF e (.str y)) = true := c
      rw [any_strs] at c
      refine ⟨.inr y, rfl, ?_, rfl⟩
      rw [← nx]
      unfold cel0
      rw [if_neg fun z => c (decide_eq_true z)]
      rfl
  · rintro acc om ⟨rfl, rfl⟩
    rw [List.length_map, List.take_length]
    have zk := zip_keys hy (cs := cs)
    have body : ∃ I : Nat → Om → Prop, I 0 ⟨[some (.dat p.d), some (.dat (.str d.name)), some (.dat (givD m cs)), some (.dat d.d), some (.dat (strT d.rows)), some (.own (initS d ys).d), none, none, none], 0⟩ ∧
        (∀ i e om, (zipD (d.params.map .str) (cs.map Cel.d))[i]? = some e → I i om → fgTup 2 (fgCons (fgName 6) (fgCons (fgName 7) fgNil)) e om fun o2 =>
          fSubD 5 (fIf (fT (fOp (fIn false) (fVar 6) (fVar 4))) (fTupOf (fVar 7)) (fVar 7)) (fVar 6) { (endsO P) with nx := I (i + 1), ct := I (i + 1), bk := fRetO (fVarO 5) (endsO P) } o2) ∧
        ∀ om, I (zipD (d.params.map .str) (cs.map Cel.d)).length om → fRetO (fVarO 5) (endsO P) om := by
      refine ⟨fun i om => ∃ u v, om = ⟨[some (.dat p.d), some (.dat (.str d.name)), some (.dat (givD m cs)), some (.dat d.d), some (.dat (strT d.rows)), some (.own (puts (initS d ys) ((d.params.zip cs).take i)).d), u, v, none], 0⟩, ⟨none, none, rfl⟩, ?_, ?_⟩
      · rintro i e om hi ⟨u, v, rfl⟩
        obtain ⟨pr, hp, rfl⟩ : ∃ pr, (d.params.zip cs)[i]? = some pr ∧ e = .tuple [.str pr.1, pr.2.d] := by
          unfold zipD at hi
          rw [List.zip_map, List.map_map] at hi
          obtain ⟨pr, h1, h2⟩ := mapAt hi
          exact ⟨pr, h1, h2⟩
        obtain ⟨pa, c⟩ := pr
        have hz := List.getElem?_zip_eq_some.mp hp
        have nx : (putD (.inr pa) c.d (puts (initS d ys) ((d.params.zip cs).take i)).kvs) = (puts (initS d ys) ((d.params.zip cs).take (i + 1))).kvs := by
          rw [Sta.put_kvs, puts_next hp]
        have fl : (puts (initS d ys) ((d.params.zip cs).take i)).kvs.length < sizeLine := by
          have := congrArg List.length (puts_keys (s := initS d ys) (l := (d.params.zip cs).take i) fun q m => zk q (List.mem_of_mem_take m))
          rw [initS_keys, List.length_map] at this
          unfold Sta.kvs
          rw [List.length_map, this]
          exact Nat.lt_of_le_of_lt few (by decide)
        obtain ⟨g1, g2⟩ := gv i pa c hz.1 hz.2
        refine ⟨rfl, ⟨rfl, strs_all _⟩, ?_⟩
        refine ite2 (fun k => ?_) fun k => ?_
        · have k : ((d.rows.map PyData.str).any fun e => eqF e (.str pa)) = true := k
          rw [any_strs] at k
          obtain ⟨xs, rfl, _⟩ := g1 (of_decide_eq_true k)
          refine ⟨⟨_, rfl⟩, .inr pa, _, rfl, rfl, fl, some (.dat (.str pa)), some (.dat (Cel.row xs).d), ?_⟩
          show (⟨_, _⟩ : Om) = _
          rw [show (puts (initS d ys) ((d.params.zip cs).take (i + 1))).d = .dict _ from rfl, ← nx]
          rfl
        · have k : ¬ ((d.rows.map PyData.str).any fun e => eqF e (.str pa)) = true := k
          rw [any_strs] at k
          refine ⟨⟨_, rfl⟩, .inr pa, _, rfl, rfl, fl, some (.dat (.str pa)), some (.dat c.d), ?_⟩
          show (⟨_, _⟩ : Om) = _
          rw [show (puts (initS d ys) ((d.params.zip cs).take (i + 1))).d = .dict _ from rfl, ← nx]
          rfl
      · rintro om ⟨u, v, rfl⟩
        have e : (d.params.zip cs).take (zipD (d.params.map PyData.str) (cs.map Cel.d)).length = d.params.zip cs := by
          refine List.take_of_length_le ?_
          rw [zipD_len, List.length_map, List.length_map, List.length_zip]
          exact Nat.le_refl _
        rw [e]
        have := q ys hy
        unfold beginF at this
        rw [hy.is] at this
        exact this
    cases m with
    | true =>
      refine .inl ?_
      refine ⟨_, atI_nat (j := 1) rfl, ?_⟩
      exact ⟨_, _, rfl, rfl, body⟩
    | false =>
      refine .inr ?_
      refine ⟨_, atI_nat (j := 1) rfl, ?_⟩
      exact ⟨_, _, rfl, rfl, body⟩
end
end Dr

set_option maxRecDepth 100000
set_option maxHeartbeats 3900000
namespace Dr
open PySem PySem.Spec PyProof.Rows L2 K Lf
theorem filter_one : ∀ {ds : List Df} {d : Df}, (ds.map (·.name)).Nodup → d ∈ ds → (ds.filter fun e => decide (e.name = d.name)) = [d]
  | [], d, _, h => nomatch h
  | e :: r, d, n, h => by
    rw [List.map_cons, List.nodup_cons] at n
    obtain rfl | h := List.mem_cons.mp h
    · rw [List.filter_cons, if_pos (decide_eq_true rfl)]
      congr 1
      refine List.filter_eq_nil_iff.mpr fun e m k => n.1 ?_
      rw [← (of_decide_eq_true k : e.name = d.name)]
      exact List.mem_map_of_mem m
    · rw [List.filter_cons, if_neg fun k => n.1 (by
        rw [(of_decide_eq_true k : e.name = d.name)]
        exact List.mem_map_of_mem h)]
      exact filter_one n.2 h
/-- a part of an act, and its texts, signs aside -/
inductive LP : PyData → List Str → Prop
  | tup (xs : List Str) : xs.length ≤ 1000 → LP (strT xs) xs
  | str {x : Str} : x ∉ signs → LP (.str x) [x]
  | sign {x : Str} : x ∈ signs → LP (.str x) []
  | int (i : Int) : LP (.int i) []
inductive LPs : List PyData → List Str → Prop
  | nil : LPs [] []
  | cons {d : PyData} {xs : List Str} {ds : List PyData} {ys : List Str} : LP d xs → LPs ds ys → LPs (d :: ds) (xs ++ ys)
theorem LPs.pre {ds : List PyData} {ys : List Str} (h : LPs ds ys) : ∃ pre : Nat → List Str, pre 0 = [] ∧ pre ds.length = ys ∧ (∀ i d, ds[i]? = some d → ∃ xs, LP d xs ∧ pre (i + 1) = pre i ++ xs) ∧ ∀ i, (pre i).length ≤ ys.length := by
  induction h with
  | nil => exact ⟨fun _ => [], rfl, rfl, fun i d e => (nomatch e), fun _ => Nat.le_refl _⟩
  | @cons d xs ds ys h t ih =>
    obtain ⟨pre, p0, p1, p2, p3⟩ := ih
    refine ⟨fun i => match i with
      | 0 => []
      | i + 1 => xs ++ pre i, rfl, by show xs ++ pre ds.length = _; rw [p1], fun i d' e2 => ?_, fun i => ?_⟩
    · cases i with
      | zero =>
        cases e2
        exact ⟨xs, h, by show xs ++ pre 0 = [] ++ xs; rw [p0, List.append_nil, List.nil_append]⟩
      | succ i =>
        obtain ⟨zs, a, b⟩ := p2 i d' e2
        exact ⟨zs, a, by show xs ++ pre (i + 1) = xs ++ pre i ++ zs; rw [b, List.append_assoc]⟩
    · cases i with
      | zero => exact Nat.zero_le _
      | succ i =>
        show (xs ++ pre i).length ≤ (xs ++ ys).length
        rw [List.length_append, List.length_append]
        have := p3 i
        omega
theorem LPs.one {d : PyData} {xs : List Str} (h : LP d xs) : LPs [d] (xs ++ []) := .cons h .nil
/-- the texts of an act that the law finds: a call's callee too -/
def Act.texts : Act → List Str
  | .call x f gs => x :: f :: gs
  | a => a.names
theorem nosign {x : Str} (h : x ∈ letters) : x ∉ signs := by
  have : ∀ x ∈ letters, x ∉ signs := by decide +kernel
  exact this x h
theorem callee_in {hs : List Hd} (ok : HdsOk hs) {o : Hd} (ho : o ∈ hs) : o.name ∈ (["main", "f", "g"] : List Str) := by
  obtain ⟨i, hi⟩ := List.getElem?_of_mem ho
  rw [ok.name i o hi]
  unfold hdName
  have h3 := (List.getElem?_eq_some_iff.mp hi).1
  have := ok.few
  have : i = 0 ∨ i = 1 ∨ i = 2 := by omega
  rcases this with rfl | rfl | rfl <;> decide +kernel
theorem AFit.lps {h : Hd} {hs : List Hd} {w : Int} {L : Int → Prop} {a : Act} (f : AFit h hs w L a) (ok : HdsOk hs) (hk : HdOk h) : LPs a.parts a.texts ∧ a.texts.length ≤ 9 := by
  have n8 := names_few ok f
  have al := f.names_all
  have st : ∀ {x : Str}, x ∈ a.names → LP (.str x) [x] := fun m => .str (nosign (hk.letter (al _ m)))
  have i0 : ∀ {x r}, a.names = x :: r → LP (.str x) [x] := fun e => st (by rw [e]; exact List.mem_cons_self)
  have i1 : ∀ {x y r}, a.names = x :: y :: r → LP (.str y) [y] := fun e => st (by rw [e]; exact List.mem_cons_of_mem _ List.mem_cons_self)
  have i2 : ∀ {x y z r}, a.names = x :: y :: z :: r → LP (.str z) [z] := fun e => st (by rw [e]; exact List.mem_cons_of_mem _ (List.mem_cons_of_mem _ List.mem_cons_self))
  have sd : ∀ {s : Side}, SideOk h w s → LP s.d s.nms := fun {s} m => by
    cases m with
    | nm m => exact .str (nosign (hk.letter (all_nums m)))
    | wd m => exact .int _
  cases f with
  | set a _ => exact ⟨.cons (i0 rfl) (.one (.int _)), Nat.le_of_ble_eq_true rfl⟩
  | addP a b _ => exact ⟨.cons (i0 rfl) (.cons (i1 rfl) (.one (.int _))), Nat.le_of_ble_eq_true rfl⟩
  | addF a b _ => exact ⟨.cons (i0 rfl) (.cons (i1 rfl) (.one (.int _))), Nat.le_of_ble_eq_true rfl⟩
  | sum _ a b c => exact ⟨.cons (i0 rfl) (.cons (i1 rfl) (.one (i2 rfl))), Nat.le_of_ble_eq_true rfl⟩
  | midP a b c => exact ⟨.cons (i0 rfl) (.cons (i1 rfl) (.one (i2 rfl))), Nat.le_of_ble_eq_true rfl⟩
  | midF a b c => exact ⟨.cons (i0 rfl) (.cons (i1 rfl) (.one (i2 rfl))), Nat.le_of_ble_eq_true rfl⟩
  | row a b => exact ⟨.cons (i0 rfl) (.one (i1 rfl)), Nat.le_of_ble_eq_true rfl⟩
  | get a b c => exact ⟨.cons (i0 rfl) (.cons (i1 rfl) (.one (i2 rfl))), Nat.le_of_ble_eq_true rfl⟩
  | put a b c => exact ⟨.cons (i0 rfl) (.cons (i1 rfl) (.one (i2 rfl))), Nat.le_of_ble_eq_true rfl⟩
  | length a b => exact ⟨.cons (i0 rfl) (.one (i1 rfl)), Nat.le_of_ble_eq_true rfl⟩
  | ask a _ _ _ => exact ⟨.cons (i0 rfl) (.cons (.int _) (.one (.int _))), Nat.le_of_ble_eq_true rfl⟩
  | tell a => exact ⟨.one (i0 rfl), Nat.le_of_ble_eq_true rfl⟩
  | @check s g t a b c =>
    refine ⟨?_, Nat.le_trans n8.1 (by decide)⟩
    have := LPs.cons (sd a) (.cons (.sign b) (.one (sd c)))
    rwa [List.nil_append, List.append_nil] at this
  | @ite s g t l a b c _ =>
    refine ⟨?_, Nat.le_trans n8.1 (by decide)⟩
    have := LPs.cons (sd a) (.cons (.sign b) (.cons (sd c) (.one (.int l))))
    rwa [List.nil_append, List.append_nil, List.append_nil] at this
  | go _ => exact ⟨.one (.int _), Nat.le_of_ble_eq_true rfl⟩
  | @call x o gs a b c =>
    have l8 : gs.length + 1 ≤ 8 := n8.1
    refine ⟨?_, by show gs.length + 1 + 1 ≤ 9; omega⟩
    have cl : o.name ∉ signs := by
      have : ∀ x ∈ (["main", "f", "g"] : List Str), x ∉ signs := by decide +kernel
      exact this _ (callee_in ok b)
    have := LPs.cons (i0 rfl) (.cons (.str cl) (.one (.tup gs (by omega))))
    rwa [List.append_nil] at this
  | back a => exact ⟨.one (i0 rfl), Nat.le_of_ble_eq_true rfl⟩
theorem AFit.word_call {h : Hd} {hs : List Hd} {w : Int} {L : Int → Prop} {a : Act} (f : AFit h hs w L a) (z : a.word = "call") : ∃ x f gs, a = .call x f gs := by
  cases f with
  | sum m _ _ _ =>
    have sw : ∀ s ∈ sumWords, s ≠ "call" := by decide +kernel
    exact absurd z (sw _ m)
  | call _ _ _ => exact ⟨_, _, _, rfl⟩
  | set => exact absurd (show ("set" : Str) = "call" from z) (by decide +kernel)
  | addP => exact absurd (show ("add" : Str) = "call" from z) (by decide +kernel)
  | addF => exact absurd (show ("add" : Str) = "call" from z) (by decide +kernel)
  | midP => exact absurd (show ("mid" : Str) = "call" from z) (by decide +kernel)
  | midF => exact absurd (show ("mid" : Str) = "call" from z) (by decide +kernel)
  | row => exact absurd (show ("row" : Str) = "call" from z) (by decide +kernel)
  | get => exact absurd (show ("get" : Str) = "call" from z) (by decide +kernel)
  | put => exact absurd (show ("put" : Str) = "call" from z) (by decide +kernel)
  | length => exact absurd (show ("length" : Str) = "call" from z) (by decide +kernel)
  | ask => exact absurd (show ("ask" : Str) = "call" from z) (by decide +kernel)
  | tell => exact absurd (show ("tell" : Str) = "call" from z) (by decide +kernel)
  | check => exact absurd (show ("check" : Str) = "call" from z) (by decide +kernel)
  | ite => exact absurd (show ("if" : Str) = "call" from z) (by decide +kernel)
  | go => exact absurd (show ("go" : Str) = "call" from z) (by decide +kernel)
  | back => exact absurd (show ("back" : Str) = "call" from z) (by decide +kernel)
theorem first_of {x : Str} : ∀ {l : List Str}, x ∈ l → ∃ j, l[j]? = some x ∧ ∀ m : Nat, m < j → l[m]? ≠ some x
  | y :: r, h => by
    by_cases e : y = x
    · exact ⟨0, by rw [e]; rfl, fun m hm => nomatch hm⟩
    · obtain ⟨j, h1, h2⟩ := first_of ((List.mem_cons.mp h).resolve_left fun k => e k.symm)
      refine ⟨j + 1, h1, fun m hm => ?_⟩
      cases m with
      | zero => exact fun k => e (Option.some.inj k)
      | succ m => exact h2 m (by omega)
theorem erased : ∀ {l : List Str} {j : Nat} {y : Str}, l[j]? = some y → (y :: l.eraseIdx j).Perm l
  | a :: r, 0, y, h => by
    obtain rfl := Option.some.inj h
    exact .refl _
  | a :: r, j + 1, y, h => (List.Perm.swap a y _).trans ((erased (l := r) (j := j) h).cons a)
section
variable {P : Program} {w : World} {K : PySem.W.Frag} [Tabled K] {mg : Str → Option Value} {base : Heap}
abbrev s_law_def : Stmt := topS 39
theorem sc_law_def : FnScope ["program", "name", "one"] ["program", "name"] (defScope s_law_def) := ⟨rfl, rfl, rfl, by decide +kernel, rfl, by decide +kernel, by decide +kernel⟩
theorem ok_law_def (B : Bs mg) {f : Addr} {fd : FuncData} (F : Fun K "_law_def" "_law_def" s_law_def f fd) : FnOk P w K mg base CX0 1 f fd ["program", "name"] (spP K phDefAt) := by
  refine okP F sc_law_def (fun ds P ⟨p, d, e, _⟩ => by rw [e]; rfl)
    (fun cdv A outer s H E hr => (fss_one (fs_ret (fe_ix rfl (foe (fo_lc (own := [("one", 2)]) (by rfl) sc_law_def.nd (fi_tup rfl (fe_ix rfl (fv (pv 0)) fe_int)) (blkOk_by (own := [("one", 2)]) (N := ["program", "name", "one"]) (sc := defScope s_law_def) (by decide +kernel)) (fun _ _ _ _ _ => (fg_name (i := 2) sc_law_def.nd rfl (.inl rfl) (hf := .inr rfl))) (fun _ _ _ _ _ => fts_one (ft_eq (fe_ix rfl (fv (pv 2)) fe_int) (fv (pv 1)))) (fun _ _ _ _ _ => (fv (pv 2))) (by decide))) fe_int)))) fun ds P h => ?_
  obtain ⟨p, d, rfl, ok, hd, q⟩ := h
  refine ⟨_, rfl, by rw [List.length_map]; exact Nat.lt_of_le_of_lt ok.few (by decide), fun i acc om => acc = ((p.defs.take i).filter fun e => decide (e.name = d.name)).map Df.d ∧ om = ⟨[some (.dat p.d), some (.dat (.str d.name)), none], 0⟩, ⟨rfl, rfl⟩, ?_, ?_⟩
  · rintro i acc e om hi ⟨rfl, rfl⟩
    obtain ⟨d', hd', rfl⟩ := mapAt hi
    refine ⟨_, rfl, ?_⟩
    have nx : (p.defs.take (i + 1)).filter (fun e => decide (e.name = d.name)) = (p.defs.take i).filter (fun e => decide (e.name = d.name)) ++ if d'.name = d.name then [d'] else [] := by
      rw [take_next hd', List.filter_append, List.filter_cons, List.filter_nil]
      by_cases k : d'.name = d.name
      · rw [if_pos (decide_eq_true k), if_pos k]
      · rw [if_neg fun z => k (of_decide_eq_true z), if_neg k]
    refine ite2 (fun k => ?_) fun k => ?_
    · have k : d'.name = d.name := eqT k
      refine ⟨?_, rfl⟩
      rw [nx, if_pos k, List.map_append]
      rfl
    · have k : ¬ d'.name = d.name := eqN k
      refine ⟨?_, rfl⟩
      rw [nx, if_neg k, List.append_nil]
  · rintro acc om ⟨rfl, rfl⟩
    rw [List.length_map, List.take_length, filter_one ok.names hd]
    exact ⟨_, at_pos, q⟩
abbrev s_law_all_names : Stmt := topS 40
theorem sc_law_all_names : FnScope ["one", "found", "label", "act", "part"] ["one"] (defScope s_law_all_names) := ⟨rfl, rfl, rfl, by decide +kernel, rfl, by decide +kernel, by decide +kernel⟩
theorem ok_law_all_names (B : Bs mg) {f : Addr} {fd : FuncData} (F : Fun K "_law_all_names" "_law_all_names" s_law_all_names f fd) : FnOk P w K mg base CX0 1 f fd ["one"] (spO K phNamesOf) := by
  refine okO F sc_law_all_names (fun ds P ⟨wd, d, e, _⟩ => by rw [e]; rfl)
    (fun cdv A outer s H E hr => (fss_cons (fs_setO (i := 1) sc_law_all_names.nd rfl (.inl rfl) (fo_listOf rfl (by rfl) B.list (fa_cons (fe_catT rfl (fe_catT rfl (fe_ix rfl (fv (pv 0)) fe_int) (fe_ix rfl (fv (pv 0)) fe_int)) (fe_ix rfl (fv (pv 0)) fe_int)) fa_nil)))
      (fss_cons (fs_for (fi_tup rfl (fe_ix rfl (fv (pv 0)) fe_int)) (fg_tup (n := 2) rfl rfl (fgs_cons (fg_name (i := 2) sc_law_all_names.nd rfl (.inl rfl)) (fgs_cons (fg_name (i := 3) sc_law_all_names.nd rfl (.inl rfl)) fgs_nil)))
      (fss_cons (fs_for (fi_tup rfl (fe_slT rfl (fv (pv 3)) (fp_some fe_int) fp_none)) (fg_name (i := 4) sc_law_all_names.nd rfl (.inl rfl))
      (fss_one (fs_if (ft_val (fe_isi (tn := "tuple") rfl (by rfl) B.isinstance (fv (pv 4)) (by rfl) B.tuple (by decide +kernel)))
      (fss_one (fs_setO (i := 1) sc_law_all_names.nd rfl (.inl rfl) (fo_cat (fv (pv 1)) (foe (fo_listOf rfl (by rfl) B.list (fa_cons (fv (pv 4)) fa_nil))))))
      (fss_one (fs_if (fw_pt (fw_and (ft_val (fe_isi (tn := "str") rfl (by rfl) B.isinstance (fv (pv 4)) (by rfl) B.str (by decide +kernel))) (fw_and1 (ft_notIn rfl (fv (pv 4)) (fe_tup (fa_cons fe_str (fa_cons fe_str fa_nil)))))))
      (fss_one (fs_expr (fe_append (pv 1) (fa_cons (fv (pv 4)) fa_nil))))
      fss_nil)))) PassesOwn.never rfl)
      (fss_one (fs_if (ft_eq (fe_ix rfl (fv (pv 3)) fe_int) fe_str)
      (fss_one (fs_expr (fe_remove (pv 1) (fa_cons (fe_ix rfl (fv (pv 3)) fe_int) fa_nil))))
      fss_nil))) PassesOwn.never rfl)
      (fss_one (fs_retO (fo_sortSet rfl (by rfl) (by rfl) B.sorted (by rfl) B.set (fa_cons (fv (pv 1)) fa_nil))))))) fun ds P h => ?_
  obtain ⟨wd, d, rfl, df, q⟩ := h
  obtain ⟨hs, h, hso, hm, c⟩ := df.ex
  have hk := hso.ok h hm
  have f0 := df.few 0
  have e0 : d.at 0 = d.params ++ (d.fingers ++ d.rows) := by unfold Df.at; simp
  rw [e0, List.length_append, List.length_append] at f0
  refine ⟨_, atI_nat (j := 1) rfl, _, atI_nat (j := 2) rfl, ?_, _, atI_nat (j := 3) rfl, ?_, ?_⟩
  · rw [List.length_map, List.length_map]
    exact Nat.le_trans (by omega : d.params.length + d.fingers.length ≤ 400) (by decide)
  · rw [List.length_append, List.length_map, List.length_map, List.length_map]
    exact Nat.le_trans (by omega : d.params.length + d.fingers.length + d.rows.length ≤ 400) (by decide)
  refine ⟨_, atI_nat (j := 4) rfl, fun i om => ∃ l u v x, l.Perm (d.at i) ∧ om = ⟨[some (.dat d.d), some (.own (strL l)), u, v, x], 0⟩, ⟨d.at 0, none, none, none, .refl _, ?_⟩, ?_, ?_⟩
  · have : strL (d.at 0) = .list ((d.params.map PyData.str ++ d.fingers.map PyData.str) ++ d.rows.map PyData.str) := by
      rw [e0]
      unfold strL
      rw [List.map_append, List.map_append, List.append_assoc]
    rw [this]
    rfl
  · rintro i e om hi ⟨l, u, v, x, pm, rfl⟩
    obtain ⟨s, hs', rfl⟩ := mapAt hi
    have af := c.steps.acts s (List.mem_of_getElem? hs')
    obtain ⟨lp, l9⟩ := af.lps hso hk
    obtain ⟨pre, p0, p1, p2, p3⟩ := lp.pre
    have ll := pm.length_eq
    have fi := df.few i
    have ct : cutL (.str s.2.word :: s.2.parts) (some 1) none = s.2.parts := cut_tail _
    refine ⟨rfl, ?_⟩
    show ∃ I : Nat → Om → Prop, _
    refine ⟨fun j om => ∃ x, om = ⟨[some (.dat d.d), some (.own (strL (l ++ pre j))), some (.dat (.int s.1)), some (.dat s.2.d), x], 0⟩, ⟨x, by rw [p0, List.append_nil]; rfl⟩, ?_, ?_⟩
    · rintro j e om hj ⟨x, rfl⟩
      have hj : s.2.parts[j]? = some e := by rw [← hj]; exact (congrArg (fun z : List PyData => z[j]?) ct).symm
      obtain ⟨xs, k, ex⟩ := p2 j e hj
      have pl := p3 j
      have few : (l ++ pre j).length ≤ 500 := by rw [List.length_append]; omega
      cases k with
      | tup ys hy =>
        refine ⟨true, by show kitB "tuple" "tuple" = some true; decide +kernel, ?_⟩
        refine ⟨?_, some (.dat (strT xs)), ?_⟩
        · rw [List.length_map, List.length_map]
          exact Nat.le_trans (Nat.add_le_add few hy) (by decide)
        · rw [ex, ← List.append_assoc]
          unfold strL
          rw [List.map_append (l₁ := l ++ pre j)]
          rfl
      | @str y ny =>
        refine ⟨false, by show kitB "str" "tuple" = some false; decide +kernel, true, by show kitB "str" "str" = some true; decide +kernel, by show 2 ≤ sizeLine; decide, ⟨rfl, rfl⟩, ?_⟩
        have z : ((["<", "<="] : List Str).map PyData.str).any (fun e => eqF e (.str y)) = false := by
          rw [any_strs]
          exact decide_eq_false ny
        refine ite2 (fun _ => ?_) fun k => ?_
        · refine ⟨⟨_, rfl⟩, ?_, some (.dat (.str y)), ?_⟩
          · rw [List.length_map]
            exact Nat.lt_of_le_of_lt few (by decide)
          · rw [ex, ← List.append_assoc]
            unfold strL
            rw [List.map_append (l₁ := l ++ pre j)]
            rfl
        · have k : ¬ (!((["<", "<="] : List Str).map PyData.str).any (fun e => eqF e (.str y))) = true := k
          rw [z] at k
          exact absurd rfl k
      | @sign y hy =>
        refine ⟨false, by show kitB "str" "tuple" = some false; decide +kernel, true, by show kitB "str" "str" = some true; decide +kernel, by show 2 ≤ sizeLine; decide, ⟨rfl, rfl⟩, ?_⟩
        have z : ((["<", "<="] : List Str).map PyData.str).any (fun e => eqF e (.str y)) = true := by
          rw [any_strs]
          exact decide_eq_true hy
        refine ite2 (fun k => ?_) fun _ => ?_
        · have k : (!((["<", "<="] : List Str).map PyData.str).any (fun e => eqF e (.str y))) = true := k
          rw [z] at k
          cases k
        · exact ⟨some (.dat (.str y)), by rw [ex, List.append_nil]; rfl⟩
      | int y =>
        exact ⟨false, by show kitB "int" "tuple" = some false; decide +kernel, false, by show kitB "int" "str" = some false; decide +kernel, some (.dat (.int y)), by rw [ex, List.append_nil]; rfl⟩
    · rintro om ⟨x, rfl⟩
      have e1 : pre (cutL (.str s.2.word :: s.2.parts) (some 1) none).length = s.2.texts := by rw [ct, p1]
      rw [e1]
      refine ⟨_, at_pos, ?_⟩
      by_cases cw : ∃ x f gs, s.2 = .call x f gs
      · obtain ⟨y, g, gs, ea⟩ := cw
        rw [ea]
        have mem : g ∈ l ++ (y :: g :: gs) := List.mem_append_right _ (List.mem_cons_of_mem _ List.mem_cons_self)
        obtain ⟨j, j1, j2⟩ := first_of mem
        refine ⟨⟨_, rfl⟩, _, atI_nat (j := 2) rfl, l ++ (y :: g :: gs), j, rfl, j1, j2, (l ++ (y :: g :: gs)).eraseIdx j, _, _, _, ?_, rfl⟩
        rw [Df.at_next hs', ea]
        have a1 := erased j1
        have a2 : (l ++ (y :: g :: gs)).Perm (g :: (l ++ (y :: gs))) := by
          refine List.Perm.trans (List.Perm.append_left l (List.Perm.swap g y gs)) List.perm_middle
        exact (List.Perm.cons_inv (a1.trans a2)).trans (pm.append_right _)
      · have et : s.2.texts = s.2.names := by
          revert cw
          cases s.2 <;> first
            | (intro _; rfl)
            | (intro cw; exact absurd ⟨_, _, _, rfl⟩ cw)
        have nw : s.2.word ≠ "call" := fun z => cw (af.word_call z)
        refine ite2 (fun k => absurd (eqT k) nw) fun _ => ?_
        refine ⟨l ++ s.2.texts, _, _, _, ?_, rfl⟩
        rw [Df.at_next hs', et]
        exact pm.append_right _
  · rintro om ⟨l, u, v, x, pm, rfl⟩
    rw [List.length_map, Df.at_all] at pm
    have fw := df.few d.steps.length
    rw [Df.at_all] at fw
    refine ⟨l, rfl, by rw [pm.length_eq]; exact Nat.lt_of_le_of_lt fw (by decide), ⟨letters, by decide, fun x m => df.letters x (pm.mem_iff.mp m)⟩, fun ys n s m => q ys ⟨n, s, fun y => (m y).trans pm.mem_iff⟩⟩
end
end Dr

set_option maxRecDepth 100000
set_option maxHeartbeats 3900000
namespace Dr
open PySem PySem.Spec PyProof.Rows L2 K Lf
theorem Sta.put_put {s : Sta} {y : Str} {a b : Cel} (h : y ∉ s.map (·.1)) : (s.put y a).put y b = s.put y b := by
  rw [Sta.put_new h, Sta.put_new h]
  unfold Sta.put
  have any : ((s ++ [(y, a)]).any fun p => y == p.1) = true := List.any_eq_true.mpr ⟨(y, a), List.mem_append_right _ List.mem_cons_self, beq_self_eq_true _⟩
  rw [if_pos any, List.map_append]
  congr 1
  · refine (List.map_congr_left fun p hp => ?_).trans (List.map_id s)
    show (if (y == p.1) = true then (p.1, b) else p) = p
    rw [if_neg fun z => h (by rw [(by simpa using z : y = p.1)]; exact List.mem_map_of_mem hp)]
  · show [if (y == y) = true then (y, b) else (y, a)] = [(y, b)]
    rw [if_pos (beq_self_eq_true _)] <;> skip
theorem nodup_take {ys : List Str} {i : Nat} {y : Str} (n : ys.Nodup) (h : ys[i]? = some y) : y ∉ ys.take i := fun m => by
  obtain ⟨j, hj⟩ := List.getElem?_of_mem m
  obtain ⟨l1, e1⟩ := List.getElem?_eq_some_iff.mp hj
  rw [List.length_take] at l1
  rw [List.getElem?_take_of_lt (by omega)] at hj
  obtain ⟨l2, e2⟩ := List.getElem?_eq_some_iff.mp hj
  obtain ⟨l3, e3⟩ := List.getElem?_eq_some_iff.mp h
  exact List.pairwise_iff_getElem.mp n j i l2 l3 (by omega) (by rw [e2, e3])
theorem sta_few {s : Sta} {ys : List Str} (e : s.map (·.1) = ys) (l : ys.length ≤ 100) : s.kvs.length < sizeLine := by
  unfold Sta.kvs
  rw [List.length_map, ← List.length_map (f := fun p : Str × Cel => p.1), e]
  exact Nat.lt_of_le_of_lt l (by decide)
section
variable {P : Program} {w : World} {K : PySem.W.Frag} [Tabled K] {mg : Str → Option Value} {base : Heap}
abbrev s_law_first_state : Stmt := topS 41
theorem sc_law_first_state : FnScope ["program", "name", "own", "one", "state", "other", "param", "thing"] ["program", "name", "own"] (defScope s_law_first_state) := ⟨rfl, rfl, rfl, by decide +kernel, rfl, by decide +kernel, by decide +kernel⟩
theorem ok_law_first_state (B : Bs mg) (c_def : C8.Cal P w K mg base 1 "_law_def" (spP K phDefAt) []) (c_all_names : C8.Cal P w K mg base 1 "_law_all_names" (spO K phNamesOf) []) {f : Addr} {fd : FuncData} (F : Fun K "_law_first_state" "_law_first_state" s_law_first_state f fd) : FnOk P w K mg base CX0 2 f fd ["program", "name", "own"] (spO K phBegin) := by
  refine okO F sc_law_first_state (fun ds P ⟨p, d, m, cs, e, _⟩ => by rw [e]; rfl)
    (fun cdv A outer s H E hr => (fss_cons (fs_set (i := 3) sc_law_first_state.nd rfl (.inl rfl) (fe_c c_def hr (by decide) (by rfl) (fa_cons (fv (pv 0)) (fa_cons (fv (pv 1)) fa_nil))))
      (fss_cons (fs_setO (i := 4) sc_law_first_state.nd rfl (.inl rfl) fo_dnew)
      (fss_cons (fs_for (fi_list rfl (foe (fo_c c_all_names hr (by decide) (by rfl) (fa_cons (fv (pv 3)) fa_nil)))) (fg_name (i := 5) sc_law_first_state.nd rfl (.inl rfl))
      (fss_cons (fs_subD fe_int (pv 4) (fv (pv 5)) (hu_of hr))
      (fss_one (fs_if (ft_in rfl (fv (pv 5)) (fe_ix rfl (fv (pv 3)) fe_int))
      (fss_one (fs_subD (fe_tup fa_nil) (pv 4) (fv (pv 5)) (hu_of hr)))
      fss_nil))) PassesOwn.never rfl)
      (fss_cons (fs_for (fi_zip2 true rfl (by rfl) B.zip (fa_cons (fe_ix rfl (fv (pv 3)) fe_int) (fa_cons (fv (pv 2)) fa_nil))) (fg_tup (n := 2) rfl rfl (fgs_cons (fg_name (i := 6) sc_law_first_state.nd rfl (.inl rfl)) (fgs_cons (fg_name (i := 7) sc_law_first_state.nd rfl (.inl rfl)) fgs_nil)))
      (fss_one (fs_subD (fv (pv 7)) (pv 4) (fv (pv 6)) (hu_of hr))) PassesOwn.never rfl)
      (fss_one (fs_retO (fo_var (pv 4))))))))) fun ds P h => ?_
  obtain ⟨p, d, m, cs, rfl, ok, hd, df, gv, q⟩ := h
  refine ⟨p, d, rfl, ok, hd, p.wide, d, rfl, df, fun ys hy => ?_⟩
  have few := isn_few df hy
  have ik : ∀ i, (initS d (ys.take i)).map (·.1) = ys.take i := fun i => initS_keys
  have il : ∀ i, (ys.take i).length ≤ 100 := fun i => Nat.le_trans (List.length_take_le' _ _) (by omega)
  refine ⟨fun i om => ∃ u, om = ⟨[some (.dat p.d), some (.dat (.str d.name)), some (.dat (givD m cs)), some (.dat d.d), some (.own (initS d (ys.take i)).d), u, none, none], 0⟩, ⟨none, rfl⟩, ?_, ?_⟩
  · rintro i e om hi ⟨u, rfl⟩
    obtain ⟨y, hy', rfl⟩ := mapAt hi
    have nt := nodup_take hy.1 hy'
    refine ⟨⟨_, rfl⟩, .inr y, _, rfl, rfl, sta_few (ik i) (il i), _, atI_nat (j := 3) rfl, ⟨rfl, strs_all _⟩, ?_⟩
    have e1 : putD (.inr y) (.int 0) (initS d (ys.take i)).kvs = ((initS d (ys.take i)).put y (.num 0)).kvs := Sta.put_kvs _ _ (.num 0)
    refine ite2 (fun k => ?_) fun k => ?_
    · have k : ((d.rows.map PyData.str).any fun e => eqF e (.str y)) = true := k
      rw [any_strs] at k
      refine ⟨by show 0 ≤ sizeLine; decide, ⟨_, rfl⟩, .inr y, _, rfl, rfl, ?_, some (.dat (.str y)), ?_⟩
      · rw [e1]
        refine sta_few (ys := ys.take (i + 1)) ?_ (il _)
        rw [Sta.put_new (by rw [ik]; exact nt), List.map_append, ik, take_next hy']
        rfl
      · have nx : putD (.inr y) (.tuple []) (putD (.inr y) (.int 0) (initS d (ys.take i)).kvs) = (initS d (ys.take (i + 1))).kvs := by
          rw [e1, show (PyData.tuple []) = (Cel.row []).d from rfl, Sta.put_kvs, Sta.put_put (by rw [ik]; exact nt), initS_next hy.1 hy']
          unfold cel0
          rw [if_pos (of_decide_eq_true k)]
        rw [show (initS d (ys.take (i + 1))).d = .dict _ from rfl, ← nx]
        rfl
    · have k : ¬ ((d.rows.map PyData.str).any fun e => eqF e (.str y)) = true := k
      rw [any_strs] at k
      refine ⟨some (.dat (.str y)), ?_⟩
      have nx : putD (.inr y) (.int 0) (initS d (ys.take i)).kvs = (initS d (ys.take (i + 1))).kvs := by
        rw [e1, initS_next hy.1 hy']
        unfold cel0
        rw [if_neg fun z => k (decide_eq_true z)]
      rw [show (initS d (ys.take (i + 1))).d = .dict _ from rfl, ← nx]
      rfl
  · rintro om ⟨u, rfl⟩
    rw [List.length_map, List.take_length]
    have zk := zip_keys hy (cs := cs)
    have body : ∃ I : Nat → Om → Prop, I 0 ⟨[some (.dat p.d), some (.dat (.str d.name)), some (.dat (givD m cs)), some (.dat d.d), some (.own (initS d ys).d), u, none, none], 0⟩ ∧
        (∀ i e om, (zipD (d.params.map .str) (cs.map Cel.d))[i]? = some e → I i om → fgTup 2 (fgCons (fgName 6) (fgCons (fgName 7) fgNil)) e om fun o2 =>
          fSubD 4 (fVar 7) (fVar 6) { (endsO P) with nx := I (i + 1), ct := I (i + 1), bk := fRetO (fVarO 4) (endsO P) } o2) ∧
        ∀ om, I (zipD (d.params.map .str) (cs.map Cel.d)).length om → fRetO (fVarO 4) (endsO P) om := by
      refine ⟨fun i om => ∃ v x, om = ⟨[some (.dat p.d), some (.dat (.str d.name)), some (.dat (givD m cs)), some (.dat d.d), some (.own (puts (initS d ys) ((d.params.zip cs).take i)).d), u, v, x], 0⟩, ⟨none, none, rfl⟩, ?_, ?_⟩
      · rintro i e om hi ⟨v, x, rfl⟩
        obtain ⟨pr, hp, rfl⟩ : ∃ pr, (d.params.zip cs)[i]? = some pr ∧ e = .tuple [.str pr.1, pr.2.d] := by
          unfold zipD at hi
          rw [List.zip_map, List.map_map] at hi
          obtain ⟨pr, h1, h2⟩ := mapAt hi
          exact ⟨pr, h1, h2⟩
        obtain ⟨pa, c⟩ := pr
        have nx : (putD (.inr pa) c.d (puts (initS d ys) ((d.params.zip cs).take i)).kvs) = (puts (initS d ys) ((d.params.zip cs).take (i + 1))).kvs := by
          rw [Sta.put_kvs, puts_next hp]
        refine ⟨rfl, ⟨_, rfl⟩, .inr pa, _, rfl, rfl, sta_few ((puts_keys (s := initS d ys) (l := (d.params.zip cs).take i) fun q m => zk q (List.mem_of_mem_take m)).trans initS_keys) (by omega), some (.dat (.str pa)), some (.dat c.d), ?_⟩
        rw [show (puts (initS d ys) ((d.params.zip cs).take (i + 1))).d = .dict _ from rfl, ← nx]
        rfl
      · rintro om ⟨v, x, rfl⟩
        have e : (d.params.zip cs).take (zipD (d.params.map PyData.str) (cs.map Cel.d)).length = d.params.zip cs := by
          refine List.take_of_length_le ?_
          rw [zipD_len, List.length_map, List.length_map, List.length_zip]
          exact Nat.le_refl _
        rw [e]
        have := q ys hy
        unfold beginF at this
        rw [hy.is] at this
        exact this
    cases m with
    | true =>
      refine .inl ?_
      refine ⟨_, atI_nat (j := 1) rfl, ?_⟩
      exact ⟨_, _, rfl, rfl, body⟩
    | false =>
      refine .inr ?_
      refine ⟨_, atI_nat (j := 1) rfl, ?_⟩
      exact ⟨_, _, rfl, rfl, body⟩
abbrev s_law_a_state : Stmt := topS 48
theorem sc_law_a_state : FnScope ["tape", "program", "one", "state", "name", "many", "turn"] ["tape", "program", "one"] (defScope s_law_a_state) := ⟨rfl, rfl, rfl, by decide +kernel, rfl, by decide +kernel, by decide +kernel⟩
def phAState : PhT := fun ds n P => ∃ (p : Pg) (d : Df), ds = [p.d, d.d] ∧ DefFit p.wide d ∧ 1 ≤ p.wide ∧ p.wide ≤ 31 ∧ n < 800000 ∧ ∀ s : Sta, s.Of d p.wide → ∀ m, m ≤ n + 200 → P s.d m
theorem ok_law_a_state (B : Bs mg) (c_draw : C8.Cal P w K mg base 1 "_law_draw" (spT K phDraw) []) (c_a_word : C8.Cal P w K mg base 3 "_law_a_word" (spT K phWord) []) (c_all_names : C8.Cal P w K mg base 1 "_law_all_names" (spO K phNamesOf) []) {f : Addr} {fd : FuncData} (F : Fun K "_law_a_state" "_law_a_state" s_law_a_state f fd) : FnOk P w K mg base CX0 4 f fd ["tape", "program", "one"] (spT K phAState) := by
  refine okT F sc_law_a_state (fun ds n P ⟨p, d, e, _⟩ => by rw [e]; rfl)
    (fun cdv A outer s H E hr => (fss_cons (fs_setO (i := 3) sc_law_a_state.nd rfl (.inl rfl) fo_dnew)
      (fss_cons (fs_for (fi_list rfl (foe (fo_c c_all_names hr (by decide) (by rfl) (fa_cons (fv (pv 2)) fa_nil)))) (fg_name (i := 4) sc_law_a_state.nd rfl (.inl rfl))
      (fss_cons (fs_subD (fe_ct c_a_word hr (by decide) (by rfl) (pv 0) (fa_cons (fe_ix rfl (fv (pv 1)) fe_int) fa_nil)) (pv 3) (fv (pv 4)) (hu_of hr))
      (fss_one (fs_if (ft_in rfl (fv (pv 4)) (fe_ix rfl (fv (pv 2)) fe_int))
      (fss_cons (fs_set (i := 5) sc_law_a_state.nd rfl (.inl rfl) (fe_ct c_draw hr (by decide) (by rfl) (pv 0) (fa_cons (fe_min2 rfl (by rfl) B.min (fa_cons fe_int (fa_cons (fe_add (fe_ix rfl (fv (pv 1)) fe_int) fe_int) fa_nil))) fa_nil)))
      (fss_one (fs_subD (fe_tupleOf rfl (by rfl) B.tuple (foe (fo_lc (own := [("turn", 6)]) (by rfl) sc_law_a_state.nd (fi_range1 (by rfl) B.range (fa_cons (fv (pv 5)) fa_nil)) (blkOk_by (own := [("turn", 6)]) (N := ["tape", "program", "one", "state", "name", "many", "turn"]) (sc := defScope s_law_a_state) (by decide +kernel)) (fun _ _ _ _ _ => (fg_name (i := 6) sc_law_a_state.nd rfl (.inl rfl) (hf := .inr rfl))) (fun _ _ _ _ _ => fts_nil) (fun _ _ _ _ _ => (fe_ct c_a_word hr (by decide) (by rfl) (pv 0) (fa_cons (fe_ix rfl (fv (pv 1)) fe_int) fa_nil))) (by decide)))) (pv 3) (fv (pv 4)) (hu_of hr))))
      fss_nil))) PassesOwn.never rfl)
      (fss_one (fs_ret (fv (pv 3))))))) fun ds n P h => ?_
  obtain ⟨p, d, rfl, df, w0, w1, hn, q⟩ := h
  refine ⟨p.wide, d, rfl, df, fun ys hy => ?_⟩
  have few := isn_few df hy
  refine ⟨fun i om => ∃ (s : Sta) (m : Nat) (u v : Option Ho), s.map (·.1) = ys.take i ∧ (∀ x c, (x, c) ∈ s → x ∈ d.rows → ∃ xs, c = Cel.row xs ∧ (xs.length : Int) ≤ p.wide ∧ ∀ i ∈ xs, Wd p.wide i) ∧ (∀ x c, (x, c) ∈ s → x ∉ d.rows → ∃ i, c = Cel.num i ∧ Wd p.wide i) ∧ m ≤ n + 20 * i ∧
      om = ⟨[some .tp, some (.dat p.d), some (.dat d.d), some (.own s.d), u, v, none], m⟩, ⟨[], n, none, none, rfl, fun _ _ m => (nomatch m), fun _ _ m => (nomatch m), Nat.le_refl _, rfl⟩, ?_, ?_⟩
  · rintro i e om hi ⟨s, m, u, v, sk, kr, kn, hm, rfl⟩
    obtain ⟨y, hy', rfl⟩ := mapAt hi
    have i7 : i < 7 := by
      have := (List.getElem?_eq_some_iff.mp hy').1
      omega
    have nt : y ∉ s.map (·.1) := by rw [sk]; exact nodup_take hy.1 hy'
    have fl := sta_few (sk) (Nat.le_trans (List.length_take_le' _ _) (by omega) : (ys.take i).length ≤ 100)
    have kk : ∀ c : Cel, (s.put y c).map (·.1) = ys.take (i + 1) := fun c => by
      rw [Sta.put_new nt, List.map_append, sk, take_next hy']
      rfl
    have me : ∀ {c : Cel} {x : Str} {e : Cel}, (x, e) ∈ s.put y c → (x, e) ∈ s ∨ (x = y ∧ e = c) := fun {c x e} m => by
      rw [Sta.put_new nt] at m
      rcases List.mem_append.mp m with m | m
      · exact .inl m
      · cases List.mem_singleton.mp m
        exact .inr ⟨rfl, rfl⟩
    refine ⟨rfl, _, at_pos, p.wide, rfl, by show m < 900000; omega, w0, by omega, fun wi hw => ?_⟩
    refine ⟨⟨_, rfl⟩, .inr y, _, rfl, rfl, fl, _, atI_nat (j := 3) rfl, ⟨rfl, strs_all _⟩, ?_⟩
    have e1 : putD (.inr y) (.int wi) s.kvs = (s.put y (.num wi)).kvs := Sta.put_kvs _ _ (.num wi)
    refine ite2 (fun k => ?_) fun k => ?_
    · have k : ((d.rows.map PyData.str).any fun e => eqF e (.str y)) = true := k
      rw [any_strs] at k
      have k := of_decide_eq_true k
      refine ⟨rfl, _, at_pos, ?_⟩
      refine ⟨_, rfl, by show m + 3 < 1000000; omega, by show 0 < if p.wide + 1 < 5 then p.wide + 1 else 5; split <;> omega, by show (if p.wide + 1 < 5 then p.wide + 1 else 5) < 1073741824; split <;> omega, fun r r0 r1 => ?_⟩
      have r5 : r < 5 ∧ r ≤ p.wide := by
        have r1 : r < if p.wide + 1 < 5 then p.wide + 1 else 5 := r1
        split at r1 <;> omega
      have rl : (rngD 0 r.toNat).length = r.toNat := rngD_len
      refine ⟨⟨by omega, by omega⟩, by rw [rl]; exact Nat.lt_of_lt_of_le (by omega : r.toNat < 100) (by decide), fun j acc om => ∃ (xs : List Int), acc = xs.map .int ∧ xs.length = j ∧ (∀ i ∈ xs, Wd p.wide i) ∧ om = ⟨[some .tp, some (.dat p.d), some (.dat d.d), some (.own (.dict (putD (.inr y) (.int wi) s.kvs))), some (.dat (.str y)), some (.dat (.int r)), none], m + 4 + 3 * j⟩, ⟨[], rfl, rfl, fun _ m => (nomatch m), rfl⟩, ?_, ?_⟩
      · rintro j acc e om hj ⟨xs, rfl, xl, xw, rfl⟩
        have jl : j < r.toNat := by
          have := (List.getElem?_eq_some_iff.mp hj).1
          rwa [rl] at this
        rw [rngD_at jl] at hj
        cases hj
        refine ⟨rfl, _, at_pos, p.wide, rfl, by show m + 4 + 3 * j < 900000; omega, w0, by omega, fun wj hwj => ⟨xs ++ [wj], by rw [List.map_append]; rfl, by rw [List.length_append, xl]; rfl, fun i m => (List.mem_append.mp m).elim (xw i) fun m => by rw [List.mem_singleton.mp m]; exact hwj, ?_⟩⟩
        show (⟨_, _⟩ : Om) = ⟨_, _⟩
        congr 1
      · rintro acc om ⟨xs, rfl, xl, xw, rfl⟩
        rw [rl] at xl
        refine ⟨⟨_, rfl⟩, .inr y, _, rfl, rfl, ?_, s.put y (.row xs), m + 4 + 3 * r.toNat, some (.dat (.str y)), some (.dat (.int r)), kk _, fun x c h1 h2 => ?_, fun x c h1 h2 => ?_, by omega, ?_⟩
        · rw [e1]
          exact sta_few (kk _) (Nat.le_trans (List.length_take_le' _ _) (by omega))
        · rcases me h1 with h1 | ⟨rfl, rfl⟩
          · exact kr x c h1 h2
          · exact ⟨xs, rfl, by omega, xw⟩
        · rcases me h1 with h1 | ⟨rfl, rfl⟩
          · exact kn x c h1 h2
          · exact absurd k h2
        · have nx : putD (.inr y) (.tuple (xs.map .int)) (putD (.inr y) (.int wi) s.kvs) = (s.put y (.row xs)).kvs := by
            rw [e1, show (PyData.tuple (xs.map .int)) = (Cel.row xs).d from rfl, Sta.put_kvs, Sta.put_put nt]
          rw [rl, show (s.put y (.row xs)).d = .dict _ from rfl, ← nx]
          rfl
    · have k : ¬ ((d.rows.map PyData.str).any fun e => eqF e (.str y)) = true := k
      rw [any_strs] at k
      refine ⟨s.put y (.num wi), m + 3, some (.dat (.str y)), v, kk _, fun x c h1 h2 => ?_, fun x c h1 h2 => ?_, by omega, ?_⟩
      · rcases me h1 with h1 | ⟨rfl, rfl⟩
        · exact kr x c h1 h2
        · exact absurd (decide_eq_true h2) k
      · rcases me h1 with h1 | ⟨rfl, rfl⟩
        · exact kn x c h1 h2
        · exact ⟨wi, rfl, hw⟩
      · rw [show (s.put y (.num wi)).d = .dict _ from rfl, ← e1]
        rfl
  · rintro om ⟨s, m, u, v, sk, kr, kn, hm, rfl⟩
    rw [List.length_map, List.take_length] at sk
    rw [List.length_map] at hm
    exact q s ⟨by rw [sk]; exact hy, kr, kn⟩ m (by omega)
end
end Dr

set_option maxRecDepth 100000
set_option maxHeartbeats 3900000
namespace Dr
open PySem PySem.Spec PyProof.Rows L2 K Lf
/-- the def with a name -/
def Pg.defOf (p : Pg) (x : Str) : Df := (p.defs.find? fun d => x == d.name).getD ⟨"", [], [], [], []⟩
theorem defOf_is {p : Pg} (n : (p.defs.map (·.name)).Nodup) {d : Df} (h : d ∈ p.defs) : p.defOf d.name = d := by
  unfold Pg.defOf
  suffices k : ∀ ds : List Df, (ds.map (·.name)).Nodup → d ∈ ds → ds.find? (fun e => d.name == e.name) = some d by
    rw [k p.defs n h]
    rfl
  intro ds
  induction ds with
  | nil => intro _ m; cases m
  | cons e r ih =>
    intro n m
    rw [List.map_cons, List.nodup_cons] at n
    rw [List.find?_cons]
    rcases List.mem_cons.mp m with rfl | m
    · rw [beq_self_eq_true]
    · have ne : (d.name == e.name) = false := by
        refine beq_eq_false_iff_ne.mpr fun z => n.1 ?_
        rw [← z]
        exact List.mem_map_of_mem m
      rw [ne]
      exact ih n.2 m
/-- what a name holds -/
def Sta.cel (s : Sta) (x : Str) : Cel := (s.get x).getD (.num 0)
def nextOf (d : Df) (k : Nat) : Int := match d.steps[k + 1]? with
  | some t => t.1
  | none => 0
def onD (l : Int) (s : Sta) : PyData := .tuple [.str "on", .int l, s.d]
/-- what one step makes -/
noncomputable def stepF (p : Pg) (d : Df) (k : Nat) (s : Sta) (word : Int) : Act → PyData
  | .back y => .tuple [.str "back", .int (s.num y)]
  | .call _ f gs => .tuple [.str "call", .str f, (beginF (p.defOf f) (gs.map s.cel)).d]
  | .go l => onD l s
  | .ite x g y l => if truth s x g y = true then onD l s else onD (nextOf d k) s
  | a => match faultF p.wide s a with
    | some why => .tuple [.str "fault", .str why]
    | none => onD (nextOf d k) (changedF s word a)
theorem Sta.get_cel {s : Sta} {x : Str} {c : Cel} (h : s.get x = some c) : lookK (.inr x) s.kvs = some (s.cel x).d := by
  rw [s.look, h]
  unfold Sta.cel
  rw [h]
  rfl
theorem PgFit.callee {p : Pg} (f : PgFit p) {d : Df} (hd : d ∈ p.defs) : ∃ h hs, HdsOk hs ∧ h ∈ hs ∧ DfOf h hs p.wide d ∧ ∀ o ∈ hs, ∃ e ∈ p.defs, e.name = o.name ∧ e.params = o.params ∧ e.rows = o.rows ∧ DefFit p.wide e := by
  obtain ⟨hs, ds, a, b, c, e, g⟩ := f.ex
  have inn : ∀ x, x ∈ p.defs ↔ x ∈ ds := fun x => by
    rcases g with g | g
    · rw [g]
    · rw [g, List.mem_reverse]
  obtain ⟨i, hi⟩ := List.getElem?_of_mem ((inn d).mp hd)
  have lt := (List.getElem?_eq_some_iff.mp hi).1
  have hh : hs[i]? = some (hs[i]'(by omega)) := List.getElem?_eq_getElem _
  refine ⟨_, hs, a, List.mem_of_getElem? hh, e i _ d hh hi, fun o ho => ?_⟩
  obtain ⟨j, hj⟩ := List.getElem?_of_mem ho
  have lj := (List.getElem?_eq_some_iff.mp hj).1
  have hd2 : ds[j]? = some (ds[j]'(by omega)) := List.getElem?_eq_getElem _
  have q := e j o _ hj hd2
  exact ⟨_, (inn _).mpr (List.mem_of_getElem? hd2), q.name, q.params, q.rows, ⟨hs, o, a, ho, q⟩⟩
/-- what is given goes with the params -/
theorem given_cels {h o : Hd} {d e : Df} {w : Int} {s : Sta} (st : s.Of d w) (hd : h.rows = d.rows) (hk : HdOk h) (ok : HdOk o) (er : e.rows = o.rows) : ∀ {gs ps : List Str}, Given h o gs ps → (∀ x ∈ gs, x ∈ d.raw) → ∀ (i : Nat) (p : Str) (c : Cel), ps[i]? = some p → (gs.map s.cel)[i]? = some c → (p ∈ e.rows → ∃ xs : List Int, c = Cel.row xs ∧ (xs.length : Int) ≤ w ∧ ∀ i ∈ xs, Wd w i) ∧ (p ∉ e.rows → ∃ j : Int, c = Cel.num j ∧ Wd w j) := by
  have numc : ∀ x, x ∈ h.nums → x ∈ d.raw → ∃ j : Int, s.cel x = Cel.num j ∧ Wd w j := fun x m r => by
    obtain ⟨c, e1⟩ := Sta.get_of (st.has r)
    have nr : x ∉ d.rows := by
      rw [← hd]
      rcases List.mem_append.mp m with m | m
      · exact ((hk.apart (x := x)).1 m).2
      · exact (hk.apart (x := x)).2 m
    obtain ⟨i, rfl, a⟩ := st.num x c (Sta.get_mem e1) nr
    exact ⟨i, by unfold Sta.cel; rw [e1]; rfl, a⟩
  have rowc : ∀ x, x ∈ h.rows → x ∈ d.raw → ∃ xs : List Int, s.cel x = Cel.row xs ∧ (xs.length : Int) ≤ w ∧ ∀ i ∈ xs, Wd w i := fun x m r => by
    obtain ⟨c, e1⟩ := Sta.get_of (st.has r)
    obtain ⟨xs, rfl, a, b⟩ := st.row x c (Sta.get_mem e1) (by rw [← hd]; exact m)
    exact ⟨xs, by unfold Sta.cel; rw [e1]; rfl, a, b⟩
  intro gs ps g
  induction g with
  | nil => intro _ i p c h1; cases h1
  | @plain x p' gs ps a b _ ih =>
    intro m i p c h1 h2
    cases i with
    | zero =>
      cases h1
      cases h2
      exact ⟨fun z => absurd (by rw [← er]; exact z) ((ok.apart (x := p')).1 a).2, fun _ => numc x b (m x List.mem_cons_self)⟩
    | succ i => exact ih (fun y z => m y (List.mem_cons_of_mem _ z)) i p c h1 h2
  | @finger x p' gs ps a b _ ih =>
    intro m i p c h1 h2
    cases i with
    | zero =>
      cases h1
      cases h2
      exact ⟨fun z => absurd (by rw [← er]; exact z) ((ok.apart (x := p')).2 a), fun _ => numc x (nums_fing b) (m x List.mem_cons_self)⟩
    | succ i => exact ih (fun y z => m y (List.mem_cons_of_mem _ z)) i p c h1 h2
  | @row x p' gs ps a b _ ih =>
    intro m i p c h1 h2
    cases i with
    | zero =>
      cases h1
      cases h2
      exact ⟨fun _ => rowc x b (m x List.mem_cons_self), fun z => absurd (by rw [er]; exact a) z⟩
    | succ i => exact ih (fun y z => m y (List.mem_cons_of_mem _ z)) i p c h1 h2
theorem immK_sta (s : Sta) : immK s.kvs = true := by
  unfold immK Sta.kvs
  rw [List.all_map]
  refine List.all_eq_true.mpr fun p _ => ?_
  show immD p.2.d = true
  cases p.2 with
  | num i => rfl
  | row xs =>
    show immAll (xs.map .int) = true
    induction xs with
    | nil => rfl
    | cons a r ih => show (true && immAll (r.map .int)) = true; rw [ih]; rfl
theorem simple_sta (s : Sta) : simpleD s.kvs := by
  cases s with
  | nil => exact .inl rfl
  | cons p r => exact .inr ⟨.inr p.1, _, _, rfl⟩
theorem AFit.word_back {h : Hd} {hs : List Hd} {w : Int} {L : Int → Prop} {a : Act} (f : AFit h hs w L a) (z : a.word = "back") : ∃ y, a = .back y := by
  cases f with
  | sum m _ _ _ =>
    have sw : ∀ s ∈ sumWords, s ≠ "back" := by decide +kernel
    exact absurd z (sw _ m)
  | set => exact absurd (show ("set" : Str) = "back" from z) (by decide +kernel)
  | addP => exact absurd (show ("add" : Str) = "back" from z) (by decide +kernel)
  | addF => exact absurd (show ("add" : Str) = "back" from z) (by decide +kernel)
  | midP => exact absurd (show ("mid" : Str) = "back" from z) (by decide +kernel)
  | midF => exact absurd (show ("mid" : Str) = "back" from z) (by decide +kernel)
  | row => exact absurd (show ("row" : Str) = "back" from z) (by decide +kernel)
  | get => exact absurd (show ("get" : Str) = "back" from z) (by decide +kernel)
  | put => exact absurd (show ("put" : Str) = "back" from z) (by decide +kernel)
  | length => exact absurd (show ("length" : Str) = "back" from z) (by decide +kernel)
  | ask => exact absurd (show ("ask" : Str) = "back" from z) (by decide +kernel)
  | tell => exact absurd (show ("tell" : Str) = "back" from z) (by decide +kernel)
  | check => exact absurd (show ("check" : Str) = "back" from z) (by decide +kernel)
  | ite => exact absurd (show ("if" : Str) = "back" from z) (by decide +kernel)
  | go => exact absurd (show ("go" : Str) = "back" from z) (by decide +kernel)
  | call => exact absurd (show ("call" : Str) = "back" from z) (by decide +kernel)
  | back => exact ⟨_, rfl⟩
theorem AFit.word_go {h : Hd} {hs : List Hd} {w : Int} {L : Int → Prop} {a : Act} (f : AFit h hs w L a) (z : a.word = "go") : ∃ l, a = .go l := by
  cases f with
  | sum m _ _ _ =>
    have sw : ∀ s ∈ sumWords, s ≠ "go" := by decide +kernel
    exact absurd z (sw _ m)
  | set => exact absurd (show ("set" : Str) = "go" from z) (by decide +kernel)
  | addP => exact absurd (show ("add" : Str) = "go" from z) (by decide +kernel)
  | addF => exact absurd (show ("add" : Str) = "go" from z) (by decide +kernel)
  | midP => exact absurd (show ("mid" : Str) = "go" from z) (by decide +kernel)
  | midF => exact absurd (show ("mid" : Str) = "go" from z) (by decide +kernel)
  | row => exact absurd (show ("row" : Str) = "go" from z) (by decide +kernel)
  | get => exact absurd (show ("get" : Str) = "go" from z) (by decide +kernel)
  | put => exact absurd (show ("put" : Str) = "go" from z) (by decide +kernel)
  | length => exact absurd (show ("length" : Str) = "go" from z) (by decide +kernel)
  | ask => exact absurd (show ("ask" : Str) = "go" from z) (by decide +kernel)
  | tell => exact absurd (show ("tell" : Str) = "go" from z) (by decide +kernel)
  | check => exact absurd (show ("check" : Str) = "go" from z) (by decide +kernel)
  | ite => exact absurd (show ("if" : Str) = "go" from z) (by decide +kernel)
  | go => exact ⟨_, rfl⟩
  | call => exact absurd (show ("call" : Str) = "go" from z) (by decide +kernel)
  | back => exact absurd (show ("back" : Str) = "go" from z) (by decide +kernel)
theorem AFit.word_ite {h : Hd} {hs : List Hd} {w : Int} {L : Int → Prop} {a : Act} (f : AFit h hs w L a) (z : a.word = "if") : ∃ x g y l, a = .ite x g y l := by
  cases f with
  | sum m _ _ _ =>
    have sw : ∀ s ∈ sumWords, s ≠ "if" := by decide +kernel
    exact absurd z (sw _ m)
  | set => exact absurd (show ("set" : Str) = "if" from z) (by decide +kernel)
  | addP => exact absurd (show ("add" : Str) = "if" from z) (by decide +kernel)
  | addF => exact absurd (show ("add" : Str) = "if" from z) (by decide +kernel)
  | midP => exact absurd (show ("mid" : Str) = "if" from z) (by decide +kernel)
  | midF => exact absurd (show ("mid" : Str) = "if" from z) (by decide +kernel)
  | row => exact absurd (show ("row" : Str) = "if" from z) (by decide +kernel)
  | get => exact absurd (show ("get" : Str) = "if" from z) (by decide +kernel)
  | put => exact absurd (show ("put" : Str) = "if" from z) (by decide +kernel)
  | length => exact absurd (show ("length" : Str) = "if" from z) (by decide +kernel)
  | ask => exact absurd (show ("ask" : Str) = "if" from z) (by decide +kernel)
  | tell => exact absurd (show ("tell" : Str) = "if" from z) (by decide +kernel)
  | check => exact absurd (show ("check" : Str) = "if" from z) (by decide +kernel)
  | ite => exact ⟨_, _, _, _, rfl⟩
  | go => exact absurd (show ("go" : Str) = "if" from z) (by decide +kernel)
  | call => exact absurd (show ("call" : Str) = "if" from z) (by decide +kernel)
  | back => exact absurd (show ("back" : Str) = "if" from z) (by decide +kernel)
/-- an act that goes on to the next label -/
structure Onw (s : Sta) (a : Act) : Prop where
  nb : a.word ≠ "back"
  nc : a.word ≠ "call"
  ng : a.word ≠ "go"
  ni : ∀ x g y l, a = .ite x g y l → truth s x g y = false
theorem stepF_on {p : Pg} {d : Df} {k : Nat} {s : Sta} {word : Int} {a : Act} (o : Onw s a) : stepF p d k s word a = match faultF p.wide s a with
    | some why => .tuple [.str "fault", .str why]
    | none => onD (nextOf d k) (changedF s word a) := by
  cases a with
  | back => exact absurd rfl o.nb
  | call => exact absurd rfl o.nc
  | go => exact absurd rfl o.ng
  | ite x g y l =>
    show (if truth s x g y = true then onD l s else onD (nextOf d k) s) = onD (nextOf d k) s
    rw [if_neg (by rw [o.ni x g y l rfl]; exact Bool.false_ne_true)]
  | _ => rfl
/-- a place of a program, a state of its def -/
structure At (p : Pg) (d : Df) (k : Nat) (st : Stp) (s : Sta) : Prop where
  fit : PgFit p
  df : d ∈ p.defs
  at' : d.steps[k]? = some st
  sta : s.Of d p.wide
section
variable {P : Program} {w : World} {K : PySem.W.Frag} [Tabled K] {mg : Str → Option Value} {base : Heap}
abbrev s_one_step : Stmt := topS 15
theorem sc_one_step : FnScope ["program", "place", "state", "word", "act", "why", "name"] ["program", "place", "state", "word"] (defScope s_one_step) := ⟨rfl, rfl, rfl, by decide +kernel, rfl, by decide +kernel, by decide +kernel⟩
def phStep : Ph := fun ds P => ∃ (p : Pg) (d : Df) (k : Nat) (st : Stp) (s : Sta) (word : Int), ds = [p.d, plD (d.name, st.1), s.d, .int word] ∧ At p d k st s ∧ P (stepF p d k s word st.2)
theorem ok_one_step (B : Bs mg) (c_act_at : C8.Cal P w K mg base 2 "act_at" (spP K phActAt) []) (c_beginning : C8.Cal P w K mg base 3 "beginning" (spO K phBegin) []) (c_is_true : C8.Cal P w K mg base 1 "_is_true" (spP K phTrue) []) (c_fault : C8.Cal P w K mg base 3 "_fault" (spP K phFault) [])
    (c_next_place : C8.Cal P w K mg base 2 "next_place" (spP K phNext) []) (c_changed : C8.Cal P w K mg base 4 "_changed" (spO K phChanged) []) {dvs : List V} {kws : List (Str × V)} {f : Addr} {fd : FuncData} (F : FunDf K "one_step" "one_step" s_one_step dvs kws f fd) : FnOk P w K mg base CX0 5 f fd ["program", "place", "state", "word"] (spF K phStep) := by
  refine okFD F sc_one_step (fun ds P ⟨p, d, k, st, s, wo, e, _⟩ => by rw [e]; rfl)
    (fun cdv A outer s H E hr => (fss_cons (fs_set (i := 4) sc_one_step.nd rfl (.inl rfl) (fe_c c_act_at hr (by decide) (by rfl) (fa_cons (fv (pv 0)) (fa_cons (fv (pv 1)) fa_nil))))
      (fss_cons (fs_if (ft_eq (fe_ix rfl (fv (pv 4)) fe_int) fe_str)
      (fss_one (fs_ret (fe_tup (fa_cons fe_str (fa_cons (fe_dget (hu_of hr) (fv (pv 2)) (fe_ix rfl (fv (pv 4)) fe_int)) fa_nil)))))
      fss_nil)
      (fss_cons (fs_if (ft_eq (fe_ix rfl (fv (pv 4)) fe_int) fe_str)
      (fss_one (fs_ret3F fe_str (fe_ix rfl (fv (pv 4)) fe_int) (fo_c c_beginning hr (by decide) (by rfl) (fa_cons (fv (pv 0)) (fa_cons (fe_ix rfl (fv (pv 4)) fe_int) (fa_cons (foe (fo_lc (own := [("name", 6)]) (by rfl) sc_one_step.nd (fi_tup rfl (fe_ix rfl (fv (pv 4)) fe_int)) (blkOk_by (own := [("name", 6)]) (N := ["program", "place", "state", "word", "act", "why", "name"]) (sc := defScope s_one_step) (by decide +kernel)) (fun _ _ _ _ _ => (fg_name (i := 6) sc_one_step.nd rfl (.inl rfl) (hf := .inr rfl))) (fun _ _ _ _ _ => fts_nil) (fun _ _ _ _ _ => (fe_dget (hu_of hr) (fv (pv 2)) (fv (pv 6)))) (by decide))) fa_nil))))))
      fss_nil)
      (fss_cut (fs_if (fw_pt (fw_or (ft_eq (fe_ix rfl (fv (pv 4)) fe_int) fe_str) (fw_or1 (fw_pt (fw_and (ft_eq (fe_ix rfl (fv (pv 4)) fe_int) fe_str) (fw_and1 (ft_val (fe_c c_is_true hr (by decide) (by rfl) (fa_cons (fv (pv 4)) (fa_cons (fv (pv 2)) fa_nil))))))))))
      (fss_one (fs_ret3F fe_str (fe_ix rfl (fv (pv 4)) (fe_neg fe_int)) (fo_dictOf (by rfl) B.dict (fa_cons (fv (pv 2)) fa_nil))))
      fss_nil)
      (fss_cons (fs_set (i := 5) sc_one_step.nd rfl (.inl rfl) (fe_c c_fault hr (by decide) (by rfl) (fa_cons (fe_ix rfl (fv (pv 0)) fe_int) (fa_cons (fv (pv 4)) (fa_cons (fv (pv 2)) fa_nil)))))
      (fss_cons (fs_if (ft_isNot (fv (pv 5)) fe_non)
      (fss_one (fs_ret (fe_tup (fa_cons fe_str (fa_cons (fv (pv 5)) fa_nil)))))
      fss_nil)
      (fss_one (fs_ret3F fe_str (fe_ix rfl (fe_c c_next_place hr (by decide) (by rfl) (fa_cons (fv (pv 0)) (fa_cons (fv (pv 1)) fa_nil))) fe_int) (fo_c c_changed hr (by decide) (by rfl) (fa_cons (fv (pv 4)) (fa_cons (fv (pv 2)) (fa_cons (fv (pv 3)) fa_nil))))))))))))) fun ds P h => ?_
  obtain ⟨p, d, k, ⟨l, a⟩, s, word, rfl, ⟨fit, hd, hk, sta⟩, q⟩ := h
  have ok := fit.listed
  have stm : (l, a) ∈ d.steps := List.mem_of_getElem? hk
  obtain ⟨h, hs, hso, hm, c, calls⟩ := fit.callee hd
  have hok := hso.ok h hm
  have w0 := fit.w0
  have w1 := fit.w1
  have af0 : AFit h hs p.wide (fun l => l ∈ d.steps.map (·.1)) a := c.steps.acts _ stm
  have sf := sta.fit hok c (by omega)
  have inR : ∀ x ∈ a.names, x ∈ d.raw := fun x m => raw_step stm m
  have inU : ∀ x ∈ a.names, x ∈ s.map (·.1) := fun x m => sta.has (inR x m)
  have af := af0.cut inU
  have q : P (stepF p d k s word a) := q
  refine ⟨p, d, (l, a), rfl, ok, hd, stm, ?_⟩
  refine ⟨_, at_pos, ?_⟩
  refine ite2 (fun e => ?_) fun e => ?_
  · obtain ⟨y, rfl⟩ := af.word_back (eqT e)
    cases af with
    | back m => exact ⟨_, at_two, _, sf.numAt m, by show 2 ≤ sizeLine; decide, rfl, q⟩
  have nb : ¬ a.word = "back" := eqN e
  refine ⟨_, at_pos, ?_⟩
  refine ite2 (fun e => ?_) fun e => ?_
  · obtain ⟨x, f, gs, rfl⟩ := af.word_call (eqT e)
    cases af0 with
    | @call x o gs a1 a2 a3 =>
      obtain ⟨e, he, en, ep, er, edf⟩ := calls o a2
      have gl := (given_in hok a3).2
      have gc : GivC e p.wide (gs.map s.cel) := fun i pp cc h1 h2 => given_cels sta c.rows.symm hok (hso.ok o a2) er a3 (fun y m => inR y (List.mem_cons_of_mem _ m)) i pp cc (by rw [← ep]; exact h1) h2
      have q : P (.tuple [.str "call", .str o.name, (beginF (p.defOf o.name) (gs.map s.cel)).d]) := q
      rw [← en, defOf_is ok.names he] at q
      refine ⟨_, atI_nat (j := 2) rfl, _, atI_nat (j := 2) rfl, _, atI_nat (j := 3) rfl, ?_, fun i acc om => acc = ((gs.take i).map s.cel).map Cel.d ∧ om = ⟨[some (.dat p.d), some (.dat (plD (d.name, l))), some (.dat s.d), some (.dat (.int word)), some (.dat (Act.call x o.name gs).d), none, none], 0⟩, ⟨rfl, rfl⟩, ?_, ?_⟩
      · rw [List.length_map, gl]
        exact Nat.lt_of_le_of_lt (hso.ok o a2).few (by decide)
      · rintro i acc e om hi ⟨rfl, rfl⟩
        obtain ⟨y, hy, rfl⟩ := mapAt hi
        obtain ⟨cc, hc⟩ := Sta.get_of (inU y (List.mem_cons_of_mem _ (List.mem_of_getElem? hy)))
        refine ⟨_, Sta.get_cel hc, ?_, rfl⟩
        rw [take_next hy]
        simp only [List.map_append]
        rfl
      · rintro acc om ⟨rfl, rfl⟩
        rw [List.length_map, List.take_length]
        exact ⟨p, e, false, gs.map s.cel, by rw [en]; rfl, ok, he, edf, gc, fun ys hy => ⟨rfl, rfl, ⟨_, rfl, immK_sta _⟩, by rw [en] at q; exact q⟩⟩
  have nc : ¬ a.word = "call" := eqN e
  refine ⟨fun om => om = ⟨[some (.dat p.d), some (.dat (plD (d.name, l))), some (.dat s.d), some (.dat (.int word)), some (.dat a.d), none, none], 0⟩ ∧ Onw s a, ?_, ?_⟩
  · have on : ∀ l', a.goes = some l' → P (onD l' s) → ∃ e, atI (.str a.word :: a.parts) (-1) = some e ∧ (simpleD s.kvs ∧ immD (.str "on") = true ∧ immD e = true ∧ (∃ kvs, s.d = .dict kvs ∧ immK kvs = true) ∧ P (.tuple [.str "on", e, s.d])) := fun l' g q => by
      obtain ⟨e1, _⟩ := Act.goes_d g
      have e2 : (.str a.word :: a.parts : List PyData) = a.head ++ [.int l'] := by
        have : a.d = .tuple (.str a.word :: a.parts) := rfl
        rw [this] at e1
        exact (PyData.tuple.inj e1)
      rw [e2]
      exact ⟨_, atI_last, simple_sta s, rfl, rfl, ⟨_, rfl, immK_sta s⟩, q⟩
    refine ⟨_, at_pos, ?_⟩
    refine ite2 (fun e => ?_) fun e => ?_
    · obtain ⟨l', rfl⟩ := af.word_go (eqT e)
      exact on l' rfl q
    have ng : ¬ a.word = "go" := eqN e
    refine ⟨_, at_pos, ?_⟩
    refine ite2 (fun e => ?_) fun e => ?_
    · obtain ⟨x, g, y, l', rfl⟩ := af.word_ite (eqT e)
      cases af with
      | ite a1 a2 a3 a4 =>
        refine ⟨_, s, p.wide, _, x, y, g, rfl, .ite, a1, a3, a2, sf, ?_⟩
        have q : P (if truth s x g y = true then onD l' s else onD (nextOf d k) s) := q
        refine ite2 (fun t => ?_) fun t => ?_
        · rw [if_pos t] at q
          exact on l' rfl q
        · refine ⟨rfl, nb, nc, ng, fun x' g' y' l'' e => ?_⟩
          cases e
          exact (Bool.not_eq_true _).mp t
    · exact ⟨rfl, nb, nc, ng, fun x g y l' z => absurd (show a.word = "if" by rw [z]; rfl) (eqN e)⟩
  · rintro om ⟨rfl, onw⟩
    rw [stepF_on onw] at q
    refine ⟨_, at_pos, p.wide, _, hs, _, s, a, rfl, af, sf, ?_⟩
    cases ff : faultF p.wide s a with
    | some why =>
      rw [ff] at q
      exact ⟨by show 2 ≤ sizeLine; decide, rfl, q⟩
    | none =>
      rw [ff] at q
      have nx : ∃ t, d.steps[k + 1]? = some t := by
        obtain ⟨z, hz, ez⟩ := c.steps.last
        by_cases kl : k + 1 < d.steps.length
        · exact ⟨_, List.getElem?_eq_getElem kl⟩
        · exfalso
          have kk := (List.getElem?_eq_some_iff.mp hk).1
          rw [List.getLast?_eq_getElem?, show d.steps.length - 1 = k by omega, hk] at hz
          cases hz
          rcases ez with ⟨y, rfl⟩ | ⟨y, rfl⟩
          · exact onw.nb rfl
          · exact onw.ng rfl
      obtain ⟨t, ht⟩ := nx
      have e1 : nextOf d k = t.1 := by unfold nextOf; rw [ht]
      rw [e1] at q
      refine ⟨p, d, k, (l, a), rfl, ok, hd, hk, ?_⟩
      rw [ht]
      have few : s.length ≤ 1000 := by
        have := nodup_letters sta.keys.1 fun y m => raw_letters hok c y ((sta.keys.2.2 y).mp m)
        rw [List.length_map] at this
        omega
      refine ⟨_, at_two, p.wide, _, hs, _, s, word, a, rfl, af, sf, few, ff, by omega, by omega, fun m => ?_, rfl, rfl, ⟨_, rfl, immK_sta _⟩, q⟩
      simp only [List.mem_cons, List.not_mem_nil, or_false] at m
      rcases m with m | m | m
      · exact onw.ng m
      · exact onw.nc m
      · exact onw.nb m
end
end Dr

set_option maxRecDepth 100000
set_option maxHeartbeats 3900000
namespace Dr
open PySem PySem.Spec PyProof.Rows L2 K Lf
/-- the state's words are of the width -/
def Sta.In (h : Hd) (w : Int) (s : Sta) : Prop := ∀ x ∈ h.nums, Wd w (s.num x)
theorem Sta.Of.inn {h : Hd} {hs : List Hd} {w : Int} {d : Df} {s : Sta} (o : s.Of d w) (ok : HdOk h) (f : DfOf h hs w d) : s.In (h.cut (s.map (·.1))) w := fun x m => by
  obtain ⟨m, u⟩ := cut_back m
  obtain ⟨c, e⟩ := Sta.get_of u
  have nr : x ∉ d.rows := by
    rw [f.rows]
    rcases List.mem_append.mp m with m | m
    · exact ((ok.apart (x := x)).1 m).2
    · exact (ok.apart (x := x)).2 m
  obtain ⟨i, rfl, a⟩ := o.num x c (Sta.get_mem e) nr
  unfold Sta.num
  rw [e]
  exact a
/-- what get and put make, or none -/
def cellsF (s : Sta) (a : Act) : PyData := match spotF s (match a with
    | .get _ r _ => r
    | .put r _ _ => r
    | _ => "") (match a with
    | .get _ _ i => i
    | .put _ i _ => i
    | _ => "") with
  | some _ => .none
  | none => match madeF s 0 a with
    | some c => .tuple [.str a.target, c.d]
    | none => .none
inductive GetPut (h : Hd) : Act → Prop
  | get {x a i} : a ∈ h.rows → i ∈ h.nums → GetPut h (.get x a i)
  | put {a i y} : a ∈ h.rows → i ∈ h.nums → y ∈ h.nums → GetPut h (.put a i y)
section
variable {P : Program} {w : World} {K : PySem.W.Frag} [Tabled K] {mg : Str → Option Value} {base : Heap}
abbrev s_law_cells : Stmt := topS 44
theorem sc_law_cells : FnScope ["act", "state", "row", "at"] ["act", "state"] (defScope s_law_cells) := ⟨rfl, rfl, rfl, by decide +kernel, rfl, by decide +kernel, by decide +kernel⟩
def phCells : Ph := fun ds P => ∃ (h : Hd) (s : Sta) (a : Act), ds = [a.d, s.d] ∧ GetPut h a ∧ s.Fit h ∧ P (cellsF s a)
theorem spot_some {s : Sta} {a i : Str} (h : s.num i < 0 ∨ ((s.rowOf a).length : Int) ≤ s.num i) : spotF s a i = some ("place" : Str) := by
  unfold spotF
  by_cases c : (0 : Int) ≤ s.num i
  · rw [if_pos (decide_eq_true c), if_neg (fun z => by have := of_decide_eq_true z; omega)]
  · rw [if_neg (fun z => c (of_decide_eq_true z)), if_neg Bool.false_ne_true]
theorem spot_none {s : Sta} {a i : Str} (h : 0 ≤ s.num i) (k : s.num i < ((s.rowOf a).length : Int)) : spotF s a i = none := by
  unfold spotF
  rw [if_pos (decide_eq_true h), if_pos (decide_eq_true k)]
theorem row_at {s : Sta} {a i : Str} (h : 0 ≤ s.num i) (k : s.num i < ((s.rowOf a).length : Int)) : atI ((s.rowOf a).map PyData.int) (s.num i) = some (.int ((s.rowOf a).getD (s.num i).toNat 0)) := by
  have e : s.num i = ((s.num i).toNat : Int) := by omega
  rw [e]
  refine atI_nat ?_
  have lt : (s.num i).toNat < (s.rowOf a).length := by omega
  rw [List.getElem?_map, Int.toNat_natCast, List.getElem?_eq_getElem lt, List.getD_eq_getElem?_getD, List.getElem?_eq_getElem lt]
  rfl
theorem row_put {s : Sta} {a i : Str} {v : Int} (h : 0 ≤ s.num i) (k : s.num i < ((s.rowOf a).length : Int)) : cutL ((s.rowOf a).map PyData.int) none (some (s.num i)) ++ [PyData.int v] ++ cutL ((s.rowOf a).map PyData.int) (some (s.num i + 1)) none = ((s.rowOf a).set (s.num i).toNat v).map .int := by
  have en : s.num i = ((s.num i).toNat : Int) := by omega
  have lt : (s.num i).toNat < (s.rowOf a).length := by omega
  have c1 : cutL ((s.rowOf a).map PyData.int) none (some (s.num i)) = ((s.rowOf a).take (s.num i).toNat).map .int := by rw [en, cut_to, List.map_take, Int.toNat_natCast]
  have c2 : cutL ((s.rowOf a).map PyData.int) (some (s.num i + 1)) none = ((s.rowOf a).drop ((s.num i).toNat + 1)).map .int := by
    rw [en, show (((s.num i).toNat : Int) + 1) = (((s.num i).toNat + 1 : Nat) : Int) from rfl, cut_from, List.map_drop, Int.toNat_natCast]
  rw [c1, c2, List.set_eq_take_append_cons_drop, if_pos lt, List.map_append, List.map_cons, List.append_assoc]
  rfl
theorem cut_short {xs : List PyData} {lo hi : Option Int} : (cutL xs lo hi).length ≤ xs.length := by
  unfold cutL
  exact Nat.le_trans (List.length_take_le' _ _) (by rw [List.length_drop]; exact Nat.sub_le _ _)
theorem ok_law_cells (B : Bs mg) {f : Addr} {fd : FuncData} (F : Fun K "_law_cells" "_law_cells" s_law_cells f fd) : FnOk P w K mg base CX0 1 f fd ["act", "state"] (spP K phCells) := by
  refine okP F sc_law_cells (fun ds P ⟨h, s, a, e, _⟩ => by rw [e]; rfl)
    (fun cdv A outer s H E hr => (fss_cons (fs_par (i := 2) (j := 3) rfl sc_law_cells.nd rfl rfl (by decide) rfl rfl (fa_cons (fe_ix rfl (fv (pv 0)) fe_int) (fa_cons (fe_dget (hu_of hr) (fv (pv 1)) (fe_ix rfl (fv (pv 0)) fe_int)) fa_nil)) (by rfl))
      (fss_cons (fs_if (ft_eq (fe_ix rfl (fv (pv 0)) fe_int) fe_str)
      (fss_one (fs_par (i := 2) (j := 3) rfl sc_law_cells.nd rfl rfl (by decide) rfl rfl (fa_cons (fe_ix rfl (fv (pv 0)) fe_int) (fa_cons (fe_dget (hu_of hr) (fv (pv 1)) (fe_ix rfl (fv (pv 0)) fe_int)) fa_nil)) (by rfl)))
      fss_nil)
      (fss_cons (fs_if (fw_pt (fw_or (ft_lt (fv (pv 3)) fe_int) (fw_or1 (ft_ge (fv (pv 3)) (fe_len rfl (by rfl) B.len (fa_cons (fe_dget (hu_of hr) (fv (pv 1)) (fv (pv 2))) fa_nil))))))
      (fss_one (fs_ret fe_non))
      fss_nil)
      (fss_cons (fs_if (ft_eq (fe_ix rfl (fv (pv 0)) fe_int) fe_str)
      (fss_one (fs_ret (fe_tup (fa_cons (fe_ix rfl (fv (pv 0)) fe_int) (fa_cons (fe_ix rfl (fe_dget (hu_of hr) (fv (pv 1)) (fv (pv 2))) (fv (pv 3))) fa_nil)))))
      fss_nil)
      (fss_one (fs_ret (fe_tup (fa_cons (fv (pv 2)) (fa_cons (fe_catT rfl (fe_catT rfl (fe_slT rfl (fe_dget (hu_of hr) (fv (pv 1)) (fv (pv 2))) fp_none (fp_some (fv (pv 3)))) (fe_tup (fa_cons (fe_dget (hu_of hr) (fv (pv 1)) (fe_ix rfl (fv (pv 0)) fe_int)) fa_nil))) (fe_slT rfl (fe_dget (hu_of hr) (fv (pv 1)) (fv (pv 2))) (fp_some (fe_add (fv (pv 3)) fe_int)) fp_none)) fa_nil)))))))))) fun ds P h => ?_
  obtain ⟨h, s, a, rfl, gp, fit, q⟩ := h
  cases gp with
  | @get x r i a1 a2 =>
    have sh := fit.short r
    refine ⟨_, atI_nat (j := 2) rfl, _, atI_nat (j := 3) rfl, _, fit.numAt a2, _, at_pos, ?_⟩
    have q : P (match spotF s r i with
      | some _ => .none
      | none => .tuple [.str x, .int ((s.rowOf r).getD (s.num i).toNat 0)]) := q
    refine ite2 (fun c => ?_) fun c => ?_
    · rw [spot_some (.inl (of_decide_eq_true c))] at q
      exact q
    have c : 0 ≤ s.num i := by
      have : ¬ s.num i < 0 := fun z => c (decide_eq_true z)
      omega
    refine ⟨_, fit.rowAt a1, ?_⟩
    refine ite2 (fun c2 => ?_) fun c2 => ?_
    · have c2 : (((s.rowOf r).map PyData.int).length : Int) ≤ s.num i := of_decide_eq_true c2
      rw [List.length_map] at c2
      rw [spot_some (.inr c2)] at q
      exact q
    have c2 : s.num i < ((s.rowOf r).length : Int) := by
      have : ¬ (((s.rowOf r).map PyData.int).length : Int) ≤ s.num i := fun z => c2 (decide_eq_true z)
      rw [List.length_map] at this
      omega
    rw [spot_none c c2] at q
    exact ⟨_, at_pos, _, atI_nat (j := 1) rfl, _, fit.rowAt a1, _, row_at c c2, by show 2 ≤ sizeLine; decide, q⟩
  | @put r i y a1 a2 a3 =>
    have sh := fit.short r
    refine ⟨_, atI_nat (j := 2) rfl, _, atI_nat (j := 3) rfl, _, fit.numAt a3, _, at_pos, _, atI_nat (j := 1) rfl, _, atI_nat (j := 2) rfl, _, fit.numAt a2, ?_⟩
    have q : P (match spotF s r i with
      | some _ => .none
      | none => .tuple [.str r, .tuple (((s.rowOf r).set (s.num i).toNat (s.num y)).map .int)]) := q
    refine ite2 (fun c => ?_) fun c => ?_
    · rw [spot_some (.inl (of_decide_eq_true c))] at q
      exact q
    have c : 0 ≤ s.num i := by
      have : ¬ s.num i < 0 := fun z => c (decide_eq_true z)
      omega
    refine ⟨_, fit.rowAt a1, ?_⟩
    refine ite2 (fun c2 => ?_) fun c2 => ?_
    · have c2 : (((s.rowOf r).map PyData.int).length : Int) ≤ s.num i := of_decide_eq_true c2
      rw [List.length_map] at c2
      rw [spot_some (.inr c2)] at q
      exact q
    have c2 : s.num i < ((s.rowOf r).length : Int) := by
      have : ¬ (((s.rowOf r).map PyData.int).length : Int) ≤ s.num i := fun z => c2 (decide_eq_true z)
      rw [List.length_map] at this
      omega
    rw [spot_none c c2] at q
    refine ⟨_, at_pos, _, fit.rowAt a1, _, atI_nat (j := 3) rfl, _, fit.numAt a3, by show 1 ≤ sizeLine; decide, ?_, _, fit.rowAt a1, ?_, by show 2 ≤ sizeLine; decide, ?_⟩
    · exact Nat.le_trans (Nat.add_le_add (Nat.le_trans cut_short (by rw [List.length_map]; exact sh)) (Nat.le_refl _)) (by show 1000 + 1 ≤ sizeLine; decide)
    · rw [List.length_append]
      exact Nat.le_trans (Nat.add_le_add (Nat.add_le_add_right (Nat.le_trans cut_short (by rw [List.length_map]; exact sh)) 1) (Nat.le_trans cut_short (by rw [List.length_map]; exact sh))) (by decide)
    · rw [row_put c c2]
      exact q
end
end Dr

set_option maxRecDepth 100000
set_option maxHeartbeats 3900000
namespace Dr
open PySem PySem.Spec PyProof.Rows L2 K Lf
/-- what an act changes, by the law: a name and its worth, none, or why it fails -/
def changeF (wd : Int) (s : Sta) (word : Int) (a : Act) : PyData := match faultF wd s a with
  | some x => .str x
  | none => match madeF s word a with
    | some c => .tuple [.str a.target, c.d]
    | none => .tuple [.none, .none]
theorem spot_is {s : Sta} {a i z : Str} (e : spotF s a i = some z) : z = "place" := by
  by_cases c : 0 ≤ s.num i
  · by_cases c2 : s.num i < ((s.rowOf a).length : Int)
    · rw [spot_none c c2] at e
      cases e
    · rw [spot_some (.inr (by omega))] at e
      exact (Option.some.inj e).symm
  · rw [spot_some (.inl (by omega))] at e
    exact (Option.some.inj e).symm
theorem flat_one (n : Nat) : (List.replicate n ([PyData.int 0] : List PyData)).flatten = (List.replicate n (0 : Int)).map .int := rep_row n
theorem great_if {Q : PyData → Prop} {wd r : Int} {x : PyData} (q : Q (match great wd r with
    | some x => .str x
    | none => x)) : if decide (wd < r) = true then Q (.str "great") else if decide (r < 0 - wd) = true then Q (.str "great") else Q x := by
  unfold great at q
  by_cases c1 : wd < r
  · rw [if_pos (decide_eq_true c1)]
    rw [if_neg (by rw [decide_eq_false (by omega : ¬ r ≤ wd), Bool.and_false]; exact Bool.false_ne_true)] at q
    exact q
  rw [if_neg fun z => c1 (of_decide_eq_true z)]
  by_cases c2 : r < 0 - wd
  · rw [if_pos (decide_eq_true c2)]
    rw [if_neg (by rw [decide_eq_false (by omega : ¬ -wd ≤ r), Bool.false_and]; exact Bool.false_ne_true)] at q
    exact q
  rw [if_neg fun z => c2 (of_decide_eq_true z)]
  rw [if_pos (by rw [decide_eq_true (by omega : -wd ≤ r), decide_eq_true (by omega : r ≤ wd)]; rfl)] at q
  exact q
theorem mid_in {wd i j : Int} (a : Wd wd i) (b : Wd wd j) : great wd ((i + j).fdiv 2) = none := by
  have e := Int.fdiv_eq_ediv_of_nonneg (i + j) (by decide : (0 : Int) ≤ 2)
  obtain ⟨a1, a2⟩ := a
  obtain ⟨b1, b2⟩ := b
  unfold great
  rw [e, if_pos (by rw [decide_eq_true (by omega), decide_eq_true (by omega)]; rfl)]
section
variable {P : Program} {w : World} {K : PySem.W.Frag} [Tabled K] {mg : Str → Option Value} {base : Heap}
abbrev s_law_change : Stmt := topS 45
theorem sc_law_change : FnScope ["act", "state", "handed", "wide", "kind", "found", "share", "left", "room"] ["act", "state", "handed", "wide"] (defScope s_law_change) := ⟨rfl, rfl, rfl, by decide +kernel, rfl, by decide +kernel, by decide +kernel⟩
def phChange : Ph := fun ds P => ∃ (wd : Int) (h : Hd) (hs : List Hd) (L : Int → Prop) (s : Sta) (word : Int) (a : Act), ds = [a.d, s.d, .int word, .int wd] ∧ AFit h hs wd L a ∧ s.Fit h ∧ s.In h wd ∧ 0 ≤ wd ∧ wd ≤ 1000 ∧ a.word ≠ "back" ∧ a.word ≠ "call" ∧ P (changeF wd s word a)
theorem ok_law_change (B : Bs mg) (c_sum : C8.Cal P w K mg base 1 "_law_sum" (spP K phLawSum) []) (c_cells : C8.Cal P w K mg base 1 "_law_cells" (spP K phCells) []) (c_is_so : C8.Cal P w K mg base 1 "_law_is_so" (spP K phTrue) []) {f : Addr} {fd : FuncData} (F : Fun K "_law_change" "_law_change" s_law_change f fd) : FnOk P w K mg base CX0 2 f fd ["act", "state", "handed", "wide"] (spP K phChange) := by
  refine okP F sc_law_change (fun ds P ⟨wd, h, hs, L, s, wo, a, e, _⟩ => by rw [e]; rfl)
    (fun cdv A outer s H E hr => (fss_cons (fs_set (i := 4) sc_law_change.nd rfl (.inl rfl) (fe_ix rfl (fv (pv 0)) fe_int))
      (fss_cons (fs_if (ft_in rfl (fv (pv 4)) (fe_tup (fa_cons fe_str (fa_cons fe_str (fa_cons fe_str (fa_cons fe_str (fa_cons fe_str fa_nil)))))))
      (fss_cons (fs_set (i := 5) sc_law_change.nd rfl (.inl rfl) (fe_c c_sum hr (by decide) (by rfl) (fa_cons (fv (pv 0)) (fa_cons (fv (pv 1)) fa_nil))))
      (fss_cons (fs_if (fw_pt (fw_or (ft_gt (fv (pv 5)) (fv (pv 3))) (fw_or1 (ft_lt (fv (pv 5)) (fe_sub fe_int (fv (pv 3)))))))
      (fss_one (fs_ret fe_str))
      fss_nil)
      (fss_one (fs_ret (fe_tup (fa_cons (fe_ix rfl (fv (pv 0)) fe_int) (fa_cons (fv (pv 5)) fa_nil)))))))
      fss_nil)
      (fss_cons (fs_if (ft_in rfl (fv (pv 4)) (fe_tup (fa_cons fe_str (fa_cons fe_str fa_nil))))
      (fss_cons (fs_if (ft_eq (fe_dget (hu_of hr) (fv (pv 1)) (fe_ix rfl (fv (pv 0)) fe_int)) fe_int)
      (fss_one (fs_ret fe_str))
      fss_nil)
      (fss_cons (fs_set (i := 6) sc_law_change.nd rfl (.inl rfl) (fe_div (fe_dget (hu_of hr) (fv (pv 1)) (fe_ix rfl (fv (pv 0)) fe_int)) (fe_dget (hu_of hr) (fv (pv 1)) (fe_ix rfl (fv (pv 0)) fe_int))))
      (fss_cons (fs_set (i := 7) sc_law_change.nd rfl (.inl rfl) (fe_sub (fe_dget (hu_of hr) (fv (pv 1)) (fe_ix rfl (fv (pv 0)) fe_int)) (fe_mul (fv (pv 6)) (fe_dget (hu_of hr) (fv (pv 1)) (fe_ix rfl (fv (pv 0)) fe_int)))))
      (fss_one (fs_ret (fe_tup (fa_cons (fe_ix rfl (fv (pv 0)) fe_int) (fa_cons (fe_ix rfl (foe (fo_lst (fa_cons (fv (pv 6)) (fa_cons (fv (pv 7)) fa_nil)))) (fe_intOf (by rfl) B.int (fa_cons (fe_eq (fv (pv 4)) fe_str) fa_nil))) fa_nil))))))))
      fss_nil)
      (fss_cons (fs_if (ft_eq (fv (pv 4)) fe_str)
      (fss_one (fs_ret (fe_tup (fa_cons (fe_ix rfl (fv (pv 0)) fe_int) (fa_cons (fe_ix rfl (fv (pv 0)) fe_int) fa_nil)))))
      fss_nil)
      (fss_cons (fs_if (ft_eq (fv (pv 4)) fe_str)
      (fss_one (fs_ret (fe_tup (fa_cons (fe_ix rfl (fv (pv 0)) fe_int) (fa_cons (fe_len rfl (by rfl) B.len (fa_cons (fe_dget (hu_of hr) (fv (pv 1)) (fe_ix rfl (fv (pv 0)) fe_int)) fa_nil)) fa_nil)))))
      fss_nil)
      (fss_cons (fs_if (ft_eq (fv (pv 4)) fe_str)
      (fss_cons (fs_set (i := 8) sc_law_change.nd rfl (.inl rfl) (fe_add (fe_sub (fe_ix rfl (fv (pv 0)) fe_int) (fe_ix rfl (fv (pv 0)) fe_int)) fe_int))
      (fss_one (fs_ret (fe_tup (fa_cons (fe_ix rfl (fv (pv 0)) fe_int) (fa_cons (fe_add (fe_ix rfl (fv (pv 0)) fe_int) (fe_mod (fe_sub (fv (pv 2)) (fe_ix rfl (fv (pv 0)) fe_int)) (fv (pv 8)))) fa_nil))))))
      fss_nil)
      (fss_cons (fs_if (ft_eq (fv (pv 4)) fe_str)
      (fss_cons (fs_if (ft_lt (fe_dget (hu_of hr) (fv (pv 1)) (fe_ix rfl (fv (pv 0)) fe_int)) fe_int)
      (fss_one (fs_ret fe_str))
      fss_nil)
      (fss_one (fs_ret (fe_tup (fa_cons (fe_ix rfl (fv (pv 0)) fe_int) (fa_cons (fe_tupleOf rfl (by rfl) B.tuple (foe (fo_rep (foe (fo_lst (fa_cons fe_int fa_nil))) (fe_dget (hu_of hr) (fv (pv 1)) (fe_ix rfl (fv (pv 0)) fe_int))))) fa_nil))))))
      fss_nil)
      (fss_cons (fs_if (ft_in rfl (fv (pv 4)) (fe_tup (fa_cons fe_str (fa_cons fe_str fa_nil))))
      (fss_one (fs_ret (fe_orT rfl (fe_c c_cells hr (by decide) (by rfl) (fa_cons (fv (pv 0)) (fa_cons (fv (pv 1)) fa_nil))) (fe_one fe_str))))
      fss_nil)
      (fss_cons (fs_if (fw_pt (fw_and (ft_eq (fv (pv 4)) fe_str) (fw_and1 (ft_not (ft_val (fe_c c_is_so hr (by decide) (by rfl) (fa_cons (fv (pv 0)) (fa_cons (fv (pv 1)) fa_nil))))))))
      (fss_one (fs_ret fe_str))
      fss_nil)
      (fss_one (fs_ret (fe_tup (fa_cons fe_non (fa_cons fe_non fa_nil))))))))))))))) fun ds P h => ?_
  obtain ⟨wd, h, hs, L, s, word, a, rfl, af, fit, inn, w0, w1, nb, nc, q⟩ := h
  refine ⟨_, at_pos, by show 5 ≤ sizeLine; decide, ⟨rfl, rfl⟩, ?_⟩
  have e5 : ∀ x : Str, (([PyData.str "add", .str "plus", .str "minus", .str "times", .str "mid"] : List PyData).any fun e => eqF e (.str x)) = decide (x ∈ (["add", "plus", "minus", "times", "mid"] : List Str)) := fun x => any_strs x ["add", "plus", "minus", "times", "mid"]
  have sums : ∀ {x : Str} {r : Int}, LawSum h s a r → a.target = x → faultF wd s a = great wd r → madeF s word a = some (.num r) → P (match great wd r with
      | some x => .str x
      | none => .tuple [.str x, .int r]) := fun {x r} _ e1 e2 e3 => by
    unfold changeF at q
    rw [e2, e3, e1] at q
    exact q
  cases af with
  | @addP x y k a1 a2 a3 =>
    refine ⟨h, s, _, _, rfl, .add a2, fit, ?_⟩
    have g := great_if (sums (.add a2) rfl rfl rfl)
    refine ite2 (fun c => ?_) fun c => ?_
    · rw [if_pos c] at g
      exact g
    rw [if_neg c] at g
    refine ite2 (fun c => ?_) fun c => ?_
    · rw [if_pos c] at g
      exact g
    rw [if_neg c] at g
    exact ⟨_, atI_nat (j := 1) rfl, by show 2 ≤ sizeLine; decide, g⟩
  | @addF x y k a1 a2 a3 =>
    refine ⟨h, s, _, _, rfl, .add (nums_fing a2), fit, ?_⟩
    have g := great_if (sums (.add (nums_fing a2)) rfl rfl rfl)
    refine ite2 (fun c => ?_) fun c => ?_
    · rw [if_pos c] at g
      exact g
    rw [if_neg c] at g
    refine ite2 (fun c => ?_) fun c => ?_
    · rw [if_pos c] at g
      exact g
    rw [if_neg c] at g
    exact ⟨_, atI_nat (j := 1) rfl, by show 2 ≤ sizeLine; decide, g⟩
  | @midP x y z a1 a2 a3 =>
    have g0 := mid_in (inn _ (nums_plain a2)) (inn _ (nums_plain a3))
    refine ⟨h, s, _, _, rfl, .mid (nums_plain a2) (nums_plain a3), fit, ?_⟩
    have g := great_if (wd := wd) (Q := P) (r := (s.num y + s.num z).fdiv 2) (x := .tuple [.str x, .int ((s.num y + s.num z).fdiv 2)]) (by rw [g0]; exact q)
    refine ite2 (fun c => ?_) fun c => ?_
    · rw [if_pos c] at g
      exact g
    rw [if_neg c] at g
    refine ite2 (fun c => ?_) fun c => ?_
    · rw [if_pos c] at g
      exact g
    rw [if_neg c] at g
    exact ⟨_, atI_nat (j := 1) rfl, by show 2 ≤ sizeLine; decide, g⟩
  | @midF x y z a1 a2 a3 =>
    have g0 := mid_in (inn _ (nums_fing a2)) (inn _ (nums_fing a3))
    refine ⟨h, s, _, _, rfl, .mid (nums_fing a2) (nums_fing a3), fit, ?_⟩
    have g := great_if (wd := wd) (Q := P) (r := (s.num y + s.num z).fdiv 2) (x := .tuple [.str x, .int ((s.num y + s.num z).fdiv 2)]) (by rw [g0]; exact q)
    refine ite2 (fun c => ?_) fun c => ?_
    · rw [if_pos c] at g
      exact g
    rw [if_neg c] at g
    refine ite2 (fun c => ?_) fun c => ?_
    · rw [if_pos c] at g
      exact g
    rw [if_neg c] at g
    exact ⟨_, atI_nat (j := 1) rfl, by show 2 ≤ sizeLine; decide, g⟩
  | @sum sw x y z hw a1 a2 a3 =>
    have hw2 := hw
    simp only [sumWords, List.mem_cons, List.not_mem_nil, or_false] at hw2
    have fast : ∀ {wd' : Str}, sw = wd' → wd' ∈ (["plus", "minus", "times"] : List Str) → faultF wd s (.sum sw x y z) = great wd (arith sw (s.num y) (s.num z)) := fun e m => by
      subst e
      have : ∀ s ∈ (["plus", "minus", "times"] : List Str), ¬ (s = "over" ∨ s = "rest") := by decide +kernel
      exact if_neg (this _ m)
    have nums : s.num z ≠ 0 → (s.num y - (s.num y).fdiv (s.num z) * s.num z) = (s.num y).fmod (s.num z) := fun _ => by
      have := Int.mul_fdiv_add_fmod (s.num y) (s.num z)
      rw [Int.mul_comm] at this
      omega
    have my := fit.small y
    have mz := fit.small z
    have zero : ∀ wd', sw = wd' → (wd' = "over" ∨ wd' = "rest") → faultF wd s (.sum sw x y z) = if s.num z = 0 then some ("nought" : Str) else none := fun wd' e k => by
      subst e
      exact if_pos k
    have over : ∀ wd', sw = wd' → (wd' = "over" ∨ wd' = "rest") → s.num z = 0 → P (.str "nought") := fun wd' e k z => by
      unfold changeF at q
      rw [zero wd' e k, if_pos z] at q
      exact q
    have rest : ∀ wd', sw = wd' → (wd' = "over" ∨ wd' = "rest") → s.num z ≠ 0 → P (.tuple [.str x, .int (arith sw (s.num y) (s.num z))]) := fun wd' e k z => by
      unfold changeF at q
      rw [zero wd' e k, if_neg z] at q
      exact q
    rcases hw2 with rfl | rfl | rfl | rfl | rfl
    · refine ⟨h, s, _, _, rfl, .sum (by decide +kernel) (nums_plain a2) (nums_plain a3), fit, ?_⟩
      have g := great_if (sums (.sum (wd := "plus") (by decide +kernel) (nums_plain a2) (nums_plain a3)) rfl (fast rfl (by decide +kernel)) rfl)
      refine ite2 (fun c => ?_) fun c => ?_
      · rw [if_pos c] at g
        exact g
      rw [if_neg c] at g
      refine ite2 (fun c => ?_) fun c => ?_
      · rw [if_pos c] at g
        exact g
      rw [if_neg c] at g
      exact ⟨_, atI_nat (j := 1) rfl, by show 2 ≤ sizeLine; decide, g⟩
    · refine ⟨h, s, _, _, rfl, .sum (by decide +kernel) (nums_plain a2) (nums_plain a3), fit, ?_⟩
      have g := great_if (sums (.sum (wd := "minus") (by decide +kernel) (nums_plain a2) (nums_plain a3)) rfl (fast rfl (by decide +kernel)) rfl)
      refine ite2 (fun c => ?_) fun c => ?_
      · rw [if_pos c] at g
        exact g
      rw [if_neg c] at g
      refine ite2 (fun c => ?_) fun c => ?_
      · rw [if_pos c] at g
        exact g
      rw [if_neg c] at g
      exact ⟨_, atI_nat (j := 1) rfl, by show 2 ≤ sizeLine; decide, g⟩
    · refine ⟨h, s, _, _, rfl, .sum (by decide +kernel) (nums_plain a2) (nums_plain a3), fit, ?_⟩
      have g := great_if (sums (.sum (wd := "times") (by decide +kernel) (nums_plain a2) (nums_plain a3)) rfl (fast rfl (by decide +kernel)) rfl)
      refine ite2 (fun c => ?_) fun c => ?_
      · rw [if_pos c] at g
        exact g
      rw [if_neg c] at g
      refine ite2 (fun c => ?_) fun c => ?_
      · rw [if_pos c] at g
        exact g
      rw [if_neg c] at g
      exact ⟨_, atI_nat (j := 1) rfl, by show 2 ≤ sizeLine; decide, g⟩
    · refine ⟨by show 2 ≤ sizeLine; decide, ⟨rfl, rfl⟩, _, atI_nat (j := 3) rfl, _, fit.numAt (nums_plain a3), ?_⟩
      refine ite2 (fun c => ?_) fun c => ?_
      · exact over _ rfl (by decide +kernel) (of_decide_eq_true c)
      have nz : s.num z ≠ 0 := fun k => c (decide_eq_true k)
      have r := rest _ rfl (by decide +kernel) nz
      refine ⟨_, atI_nat (j := 2) rfl, _, fit.numAt (nums_plain a2), _, atI_nat (j := 3) rfl, _, fit.numAt (nums_plain a3), ⟨nz, ?_⟩, ?_⟩
      · omega
      refine ⟨_, atI_nat (j := 2) rfl, _, fit.numAt (nums_plain a2), _, atI_nat (j := 3) rfl, _, fit.numAt (nums_plain a3), ?_, ?_⟩
      · exact .inr ⟨by omega, by omega⟩
      refine ⟨_, atI_nat (j := 1) rfl, by show 2 ≤ sizeLine; decide, _, at_pos, by show 2 ≤ sizeLine; decide, ?_⟩
      show P (.tuple [.str x, .int ((s.num y).fdiv (s.num z))])
      exact r
    · refine ⟨by show 2 ≤ sizeLine; decide, ⟨rfl, rfl⟩, _, atI_nat (j := 3) rfl, _, fit.numAt (nums_plain a3), ?_⟩
      refine ite2 (fun c => ?_) fun c => ?_
      · exact over _ rfl (by decide +kernel) (of_decide_eq_true c)
      have nz : s.num z ≠ 0 := fun k => c (decide_eq_true k)
      have r := rest _ rfl (by decide +kernel) nz
      refine ⟨_, atI_nat (j := 2) rfl, _, fit.numAt (nums_plain a2), _, atI_nat (j := 3) rfl, _, fit.numAt (nums_plain a3), ⟨nz, ?_⟩, ?_⟩
      · omega
      refine ⟨_, atI_nat (j := 2) rfl, _, fit.numAt (nums_plain a2), _, atI_nat (j := 3) rfl, _, fit.numAt (nums_plain a3), ?_, ?_⟩
      · exact .inr ⟨by omega, by omega⟩
      refine ⟨_, atI_nat (j := 1) rfl, by show 2 ≤ sizeLine; decide, _, at_two, by show 2 ≤ sizeLine; decide, ?_⟩
      have r : P (.tuple [.str x, .int ((s.num y).fmod (s.num z))]) := r
      rw [← nums nz] at r
      exact r
  | @set x k a1 a2 => exact ⟨by show 2 ≤ sizeLine; decide, ⟨rfl, rfl⟩, _, atI_nat (j := 1) rfl, _, atI_nat (j := 2) rfl, by show 2 ≤ sizeLine; decide, q⟩
  | @length x r a1 a2 =>
    have q : P (.tuple [.str x, .int (((s.rowOf r).length : Nat) : Int)]) := q
    rw [← List.length_map (as := s.rowOf r) PyData.int] at q
    exact ⟨by show 2 ≤ sizeLine; decide, ⟨rfl, rfl⟩, _, atI_nat (j := 1) rfl, _, atI_nat (j := 2) rfl, _, fit.rowAt a2, by show 2 ≤ sizeLine; decide, q⟩
  | @ask x lo hi a1 a2 a3 a4 => exact ⟨by show 2 ≤ sizeLine; decide, ⟨rfl, rfl⟩, _, atI_nat (j := 3) rfl, _, atI_nat (j := 2) rfl, _, atI_nat (j := 1) rfl, _, atI_nat (j := 2) rfl, _, atI_nat (j := 2) rfl, by show _ ≠ (0 : Int); omega, by show 2 ≤ sizeLine; decide, q⟩
  | @row r y a1 a2 =>
    have l := fit.less y
    refine ⟨by show 2 ≤ sizeLine; decide, ⟨rfl, rfl⟩, _, atI_nat (j := 2) rfl, _, fit.numAt a2, ?_⟩
    have q : P (match (if s.num y < 0 then some ("size" : Str) else none) with
      | some x => .str x
      | none => .tuple [.str r, .tuple ((List.replicate (s.num y).toNat (0 : Int)).map .int)]) := q
    refine ite2 (fun c => ?_) fun c => ?_
    · rw [if_pos (of_decide_eq_true c)] at q
      exact q
    · rw [if_neg fun z => c (decide_eq_true z)] at q
      rw [← flat_one] at q
      refine ⟨_, atI_nat (j := 1) rfl, by show 1 ≤ sizeLine; decide, _, atI_nat (j := 2) rfl, _, fit.numAt a2, by omega, by omega, ?_, by show 2 ≤ sizeLine; decide, q⟩
      exact Nat.le_trans (Nat.mul_le_mul_left 1 (by omega : (s.num y).toNat ≤ 1000)) (by decide)
  | @get x r i a1 a2 a3 =>
    refine ⟨by show 2 ≤ sizeLine; decide, ⟨rfl, rfl⟩, by show 2 ≤ sizeLine; decide, ⟨rfl, rfl⟩, h, s, _, rfl, .get a2 a3, fit, ?_⟩
    cases e : spotF s r i with
    | some z =>
      have ez : z = "place" := spot_is e
      subst ez
      have c : cellsF s (.get x r i) = .none := by
        unfold cellsF
        rw [e]
      rw [c]
      refine ⟨false, rfl, ?_⟩
      have : changeF wd s word (.get x r i) = .str "place" := by
        unfold changeF
        rw [show faultF wd s (.get x r i) = spotF s r i from rfl, e]
      rw [this] at q
      exact q
    | none =>
      have c : cellsF s (.get x r i) = changeF wd s word (.get x r i) := by
        unfold cellsF changeF
        rw [e, show faultF wd s (.get x r i) = spotF s r i from rfl, e]
        rfl
      rw [c]
      refine ⟨true, ?_, ?_⟩
      · unfold changeF
        rw [show faultF wd s (.get x r i) = spotF s r i from rfl, e]
        rfl
      · exact q
  | @put r i y a1 a2 a3 =>
    refine ⟨by show 2 ≤ sizeLine; decide, ⟨rfl, rfl⟩, by show 2 ≤ sizeLine; decide, ⟨rfl, rfl⟩, h, s, _, rfl, .put a1 a2 a3, fit, ?_⟩
    cases e : spotF s r i with
    | some z =>
      have ez : z = "place" := spot_is e
      subst ez
      have c : cellsF s (.put r i y) = .none := by
        unfold cellsF
        rw [e]
      rw [c]
      refine ⟨false, rfl, ?_⟩
      have : changeF wd s word (.put r i y) = .str "place" := by
        unfold changeF
        rw [show faultF wd s (.put r i y) = spotF s r i from rfl, e]
      rw [this] at q
      exact q
    | none =>
      have c : cellsF s (.put r i y) = changeF wd s word (.put r i y) := by
        unfold cellsF changeF
        rw [e, show faultF wd s (.put r i y) = spotF s r i from rfl, e]
        rfl
      rw [c]
      refine ⟨true, ?_, ?_⟩
      · unfold changeF
        rw [show faultF wd s (.put r i y) = spotF s r i from rfl, e]
        rfl
      · exact q
  | @check x g y a1 a2 a3 =>
    refine ⟨by show 2 ≤ sizeLine; decide, ⟨rfl, rfl⟩, by show 2 ≤ sizeLine; decide, ⟨rfl, rfl⟩, h, s, wd, _, x, y, g, rfl, .check, a1, a3, a2, fit, ?_⟩
    have q : P (match (if truth s x g y = true then none else some ("check" : Str)) with
      | some x => .str x
      | none => .tuple [.none, .none]) := q
    refine ite2 (fun c => ?_) fun c => ?_
    · have c : ¬ truth s x g y = true := fun z => by
        rw [z] at c
        cases c
      rw [if_neg c] at q
      exact q
    · have c : truth s x g y = true := by
        cases e : truth s x g y with
        | true => rfl
        | false => rw [e] at c; exact absurd rfl c
      rw [if_pos c] at q
      exact ⟨by show 2 ≤ sizeLine; decide, q⟩
  | tell => exact ⟨by show 2 ≤ sizeLine; decide, ⟨rfl, rfl⟩, by show 2 ≤ sizeLine; decide, ⟨rfl, rfl⟩, by show 2 ≤ sizeLine; decide, q⟩
  | ite => exact ⟨by show 2 ≤ sizeLine; decide, ⟨rfl, rfl⟩, by show 2 ≤ sizeLine; decide, ⟨rfl, rfl⟩, by show 2 ≤ sizeLine; decide, q⟩
  | go => exact ⟨by show 2 ≤ sizeLine; decide, ⟨rfl, rfl⟩, by show 2 ≤ sizeLine; decide, ⟨rfl, rfl⟩, by show 2 ≤ sizeLine; decide, q⟩
  | call => exact absurd rfl nc
  | back => exact absurd rfl nb
end
end Dr

set_option maxRecDepth 100000
set_option maxHeartbeats 3900000
namespace Dr
open PySem PySem.Spec PyProof.Rows L2 K Lf
theorem change_cases (wd : Int) (s : Sta) (word : Int) (a : Act) : (∃ why, faultF wd s a = some why ∧ changeF wd s word a = .str why) ∨ (faultF wd s a = none ∧ ∃ c, madeF s word a = some c ∧ changeF wd s word a = .tuple [.str a.target, c.d]) ∨ (faultF wd s a = none ∧ madeF s word a = none ∧ changeF wd s word a = .tuple [.none, .none]) := by
  unfold changeF
  cases e : faultF wd s a with
  | some w => exact .inl ⟨w, rfl, rfl⟩
  | none =>
    cases m : madeF s word a with
    | some c => exact .inr (.inl ⟨rfl, c, rfl, rfl⟩)
    | none => exact .inr (.inr ⟨rfl, rfl, rfl⟩)
theorem DfOf.next {h : Hd} {hs : List Hd} {w : Int} {d : Df} (c : DfOf h hs w d) {k : Nat} {l : Int} {a : Act} (hk : d.steps[k]? = some (l, a)) (nb : a.word ≠ "back") (ng : a.word ≠ "go") : ∃ t, d.steps[k + 1]? = some t := by
  obtain ⟨z, hz, ez⟩ := c.steps.last
  by_cases kl : k + 1 < d.steps.length
  · exact ⟨_, List.getElem?_eq_getElem kl⟩
  · exfalso
    have kk := (List.getElem?_eq_some_iff.mp hk).1
    rw [List.getLast?_eq_getElem?, show d.steps.length - 1 = k by omega, hk] at hz
    cases hz
    rcases ez with ⟨y, rfl⟩ | ⟨y, rfl⟩
    · exact nb rfl
    · exact ng rfl
section
variable {P : Program} {w : World} {K : PySem.W.Frag} [Tabled K] {mg : Str → Option Value} {base : Heap}
abbrev s_law_due : Stmt := topS 46
theorem sc_law_due : FnScope ["program", "place", "state", "handed", "one", "act", "labels", "at", "change", "after", "label", "name"] ["program", "place", "state", "handed"] (defScope s_law_due) := ⟨rfl, rfl, rfl, by decide +kernel, rfl, by decide +kernel, by decide +kernel⟩
theorem ok_law_due (B : Bs mg) (c_def : C8.Cal P w K mg base 1 "_law_def" (spP K phDefAt) []) (c_first_state : C8.Cal P w K mg base 2 "_law_first_state" (spO K phBegin) []) (c_change : C8.Cal P w K mg base 2 "_law_change" (spP K phChange) []) (c_is_so : C8.Cal P w K mg base 1 "_law_is_so" (spP K phTrue) []) {f : Addr} {fd : FuncData} (F : Fun K "_law_due" "_law_due" s_law_due f fd) : FnOk P w K mg base CX0 3 f fd ["program", "place", "state", "handed"] (spP K phStep) := by
  refine okP F sc_law_due (fun ds P ⟨p, d, k, st, s, wo, e, _⟩ => by rw [e]; rfl)
    (fun cdv A outer s H E hr => (fss_cons (fs_set (i := 4) sc_law_due.nd rfl (.inl rfl) (fe_c c_def hr (by decide) (by rfl) (fa_cons (fv (pv 0)) (fa_cons (fe_ix rfl (fv (pv 1)) fe_int) fa_nil))))
      (fss_cons (fs_setLc (i := 6) (own := [("label", 10), ("act", 5)]) (by rfl) sc_law_due.nd rfl rfl (sw_true rfl rfl rfl (by decide +kernel)) (fi_tup rfl (fe_ix rfl (fv (pv 4)) fe_int)) (blkOk_by (own := [("label", 10), ("act", 5)]) (N := ["program", "place", "state", "handed", "one", "act", "labels", "at", "change", "after", "label", "name"]) (sc := defScope s_law_due) (by decide +kernel)) (fun _ _ _ _ _ => (fg_tup (n := 2) rfl rfl (fgs_cons (fg_name (i := 10) sc_law_due.nd rfl (.inl rfl) (hf := .inr rfl)) (fgs_cons (fg_name (i := 5) sc_law_due.nd rfl (.inl rfl) (hf := .inr rfl)) fgs_nil)))) (fun _ _ _ _ _ => fts_nil) (fun _ _ _ _ _ => (fv (pv 10))) (by decide))
      (fss_cons (fs_set (i := 7) sc_law_due.nd rfl (.inl rfl) (fe_index rfl (fv (pv 6)) (fa_cons (fe_ix rfl (fv (pv 1)) fe_int) fa_nil)))
      (fss_cons (fs_set (i := 5) sc_law_due.nd rfl (.inl rfl) (fe_ix rfl (fe_ix rfl (fe_ix rfl (fv (pv 4)) fe_int) (fv (pv 7))) fe_int))
      (fss_cons (fs_if (ft_eq (fe_ix rfl (fv (pv 5)) fe_int) fe_str)
      (fss_one (fs_ret (fe_tup (fa_cons fe_str (fa_cons (fe_dget (hu_of hr) (fv (pv 2)) (fe_ix rfl (fv (pv 5)) fe_int)) fa_nil)))))
      fss_nil)
      (fss_cons (fs_if (ft_eq (fe_ix rfl (fv (pv 5)) fe_int) fe_str)
      (fss_one (fs_ret (fe_tup (fa_cons fe_str (fa_cons (fe_ix rfl (fv (pv 5)) fe_int) (fa_cons (foe (fo_c c_first_state hr (by decide) (by rfl) (fa_cons (fv (pv 0)) (fa_cons (fe_ix rfl (fv (pv 5)) fe_int) (fa_cons (foe (fo_lc (own := [("name", 11)]) (by rfl) sc_law_due.nd (fi_tup rfl (fe_ix rfl (fv (pv 5)) fe_int)) (blkOk_by (own := [("name", 11)]) (N := ["program", "place", "state", "handed", "one", "act", "labels", "at", "change", "after", "label", "name"]) (sc := defScope s_law_due) (by decide +kernel)) (fun _ _ _ _ _ => (fg_name (i := 11) sc_law_due.nd rfl (.inl rfl) (hf := .inr rfl))) (fun _ _ _ _ _ => fts_nil) (fun _ _ _ _ _ => (fe_dget (hu_of hr) (fv (pv 2)) (fv (pv 11)))) (by decide))) fa_nil))))) fa_nil))))))
      fss_nil)
      (fss_cons (fs_set (i := 8) sc_law_due.nd rfl (.inl rfl) (fe_c c_change hr (by decide) (by rfl) (fa_cons (fv (pv 5)) (fa_cons (fv (pv 2)) (fa_cons (fv (pv 3)) (fa_cons (fe_ix rfl (fv (pv 0)) fe_int) fa_nil))))))
      (fss_cons (fs_if (ft_val (fe_isi (tn := "str") rfl (by rfl) B.isinstance (fv (pv 8)) (by rfl) B.str (by decide +kernel)))
      (fss_one (fs_ret (fe_tup (fa_cons fe_str (fa_cons (fv (pv 8)) fa_nil)))))
      fss_nil)
      (fss_cons (fs_setO (i := 9) sc_law_due.nd rfl (.inl rfl) (fo_dictOf (by rfl) B.dict (fa_cons (fv (pv 2)) fa_nil)))
      (fss_cons (fs_if (ft_isNot (fe_ix rfl (fv (pv 8)) fe_int) fe_non)
      (fss_one (fs_subD (fe_ix rfl (fv (pv 8)) fe_int) (pv 9) (fe_ix rfl (fv (pv 8)) fe_int) (hu_of hr)))
      fss_nil)
      (fss_cons (fs_if (fw_pt (fw_or (ft_eq (fe_ix rfl (fv (pv 5)) fe_int) fe_str) (fw_or1 (fw_pt (fw_and (ft_eq (fe_ix rfl (fv (pv 5)) fe_int) fe_str) (fw_and1 (ft_val (fe_c c_is_so hr (by decide) (by rfl) (fa_cons (fv (pv 5)) (fa_cons (fv (pv 2)) fa_nil))))))))))
      (fss_one (fs_ret (fe_tup (fa_cons fe_str (fa_cons (fe_ix rfl (fv (pv 5)) (fe_neg fe_int)) (fa_cons (fv (pv 9)) fa_nil))))))
      fss_nil)
      (fss_one (fs_ret (fe_tup (fa_cons fe_str (fa_cons (fe_ix rfl (fv (pv 6)) (fe_add (fv (pv 7)) fe_int)) (fa_cons (fv (pv 9)) fa_nil)))))))))))))))))) fun ds P h => ?_
  obtain ⟨p, d, k, ⟨l, a⟩, s, word, rfl, ⟨fit, hd, hk, sta⟩, q⟩ := h
  have ok := fit.listed
  have stm : (l, a) ∈ d.steps := List.mem_of_getElem? hk
  obtain ⟨h, hs, hso, hm, c, calls⟩ := fit.callee hd
  have hok := hso.ok h hm
  have w0 := fit.w0
  have w1 := fit.w1
  have af0 : AFit h hs p.wide (fun l => l ∈ d.steps.map (·.1)) a := c.steps.acts _ stm
  have sf := sta.fit hok c (by omega)
  have inn := sta.inn hok c
  have inR : ∀ x ∈ a.names, x ∈ d.raw := fun x m => raw_step stm m
  have inU : ∀ x ∈ a.names, x ∈ s.map (·.1) := fun x m => sta.has (inR x m)
  have af := af0.cut inU
  have q : P (stepF p d k s word a) := q
  have nk : (d.steps.map (·.1))[k]? = some l := by rw [List.getElem?_map, hk]; rfl
  obtain ⟨f1, f2, f3, f4, f5⟩ := at_int (ok.labs d hd) nk
  refine ⟨_, at_pos, p, d, rfl, ok, hd, _, atI_nat (j := 4) rfl, by rw [List.length_map]; exact Nat.lt_of_le_of_lt (ok.short d hd) (by decide), fun i acc om => acc = ((d.steps.take i).map (·.1)).map .int ∧ om = ⟨[some (.dat p.d), some (.dat (plD (d.name, l))), some (.dat s.d), some (.dat (.int word)), some (.dat d.d), none, none, none, none, none, none, none], 0⟩, ⟨rfl, rfl⟩, ?_, ?_⟩
  · rintro i acc e om hi ⟨rfl, rfl⟩
    obtain ⟨z, hz, rfl⟩ := mapAt hi
    refine ⟨rfl, ?_, rfl⟩
    rw [take_next hz, List.map_append, List.map_append]
    rfl
  rintro acc om ⟨rfl, rfl⟩
  rw [List.length_map, List.take_length]
  refine ⟨⟨_, rfl⟩, _, at_two, f1, f2, k, _, f3, f4, f5, _, atI_nat (j := 4) rfl, stpD (l, a), atI_nat (by rw [List.getElem?_map, hk]; rfl), _, at_two, ?_⟩
  refine ⟨_, at_pos, ?_⟩
  refine ite2 (fun e => ?_) fun e => ?_
  · obtain ⟨y, rfl⟩ := af.word_back (eqT e)
    cases af with
    | back m => exact ⟨_, at_two, _, sf.numAt m, by show 2 ≤ sizeLine; decide, q⟩
  have nb : ¬ a.word = "back" := eqN e
  refine ⟨_, at_pos, ?_⟩
  refine ite2 (fun e => ?_) fun e => ?_
  · obtain ⟨x, f, gs, rfl⟩ := af.word_call (eqT e)
    cases af0 with
    | @call x o gs a1 a2 a3 =>
      obtain ⟨e, he, en, ep, er, edf⟩ := calls o a2
      have gl := (given_in hok a3).2
      have gc : GivC e p.wide (gs.map s.cel) := fun i pp cc h1 h2 => given_cels sta c.rows.symm hok (hso.ok o a2) er a3 (fun y m => inR y (List.mem_cons_of_mem _ m)) i pp cc (by rw [← ep]; exact h1) h2
      have q : P (.tuple [.str "call", .str o.name, (beginF (p.defOf o.name) (gs.map s.cel)).d]) := q
      rw [← en, defOf_is ok.names he] at q
      refine ⟨_, atI_nat (j := 2) rfl, _, atI_nat (j := 2) rfl, _, atI_nat (j := 3) rfl, ?_, fun i acc om => acc = ((gs.take i).map s.cel).map Cel.d ∧ om = ⟨[some (.dat p.d), some (.dat (plD (d.name, l))), some (.dat s.d), some (.dat (.int word)), some (.dat d.d), some (.dat (Act.call x o.name gs).d), some (.dat (.list ((d.steps.map (·.1)).map .int))), some (.dat (.int (k : Nat))), none, none, none, none], 0⟩, ⟨rfl, rfl⟩, ?_, ?_⟩
      · rw [List.length_map, gl]
        exact Nat.lt_of_le_of_lt (hso.ok o a2).few (by decide)
      · rintro i acc e om hi ⟨rfl, rfl⟩
        obtain ⟨y, hy, rfl⟩ := mapAt hi
        obtain ⟨cc, hc⟩ := Sta.get_of (inU y (List.mem_cons_of_mem _ (List.mem_of_getElem? hy)))
        refine ⟨_, Sta.get_cel hc, ?_, rfl⟩
        rw [take_next hy]
        simp only [List.map_append]
        rfl
      · rintro acc om ⟨rfl, rfl⟩
        rw [List.length_map, List.take_length]
        exact ⟨p, e, false, gs.map s.cel, by rw [en]; rfl, ok, he, edf, gc, fun ys hy => ⟨by show 3 ≤ sizeLine; decide, by rw [en] at q; exact q⟩⟩
  have nc : ¬ a.word = "call" := eqN e
  refine ⟨_, at_pos, p.wide, _, hs, _, s, word, a, rfl, af, sf, inn, by omega, by omega, nb, nc, ?_⟩
  have fl : s.kvs.length < sizeLine := by
    have := nodup_letters sta.keys.1 fun y m => raw_letters hok c y ((sta.keys.2.2 y).mp m)
    exact sta_few rfl (by omega)
  have nextL : a.word ≠ "go" → atI ((d.steps.map (·.1)).map PyData.int) (((k + 1 : Nat) : Int)) = some (.int (nextOf d k)) := fun ng => by
    obtain ⟨t, ht⟩ := c.next hk nb ng
    refine atI_nat ?_
    rw [List.getElem?_map, List.getElem?_map, ht]
    unfold nextOf
    rw [ht]
    rfl
  rcases change_cases p.wide s word a with ⟨why, ff, cf⟩ | ⟨ff, cc, mf, cf⟩ | ⟨ff, mf, cf⟩
  · rw [cf]
    have onw : Onw s a := ⟨nb, nc, fun z => (by obtain ⟨l', rfl⟩ := af.word_go z; cases ff), fun x g y l' z => (by subst z; cases ff)⟩
    rw [stepF_on onw, ff] at q
    exact ⟨true, by show kitB "str" "str" = some true; decide +kernel, by show 2 ≤ sizeLine; decide, q⟩
  · rw [cf]
    have onw : Onw s a := ⟨nb, nc, fun z => (by obtain ⟨l', rfl⟩ := af.word_go z; cases mf), fun x g y l' z => (by subst z; cases mf)⟩
    have ni : a.word ≠ "if" := fun z => by obtain ⟨x, g, y, l', rfl⟩ := af.word_ite z; cases mf
    rw [stepF_on onw, ff] at q
    have e1 : changedF s word a = s.put a.target cc := by unfold changedF; rw [mf]
    rw [e1] at q
    refine ⟨false, by show kitB "tuple" "str" = some false; decide +kernel, simple_sta s, _, at_pos, _, at_two, ⟨_, rfl⟩, _, at_pos, .inr a.target, _, rfl, rfl, fl, _, at_pos, ?_⟩
    refine ite2 (fun e => absurd (eqT e) onw.ng) fun _ => ?_
    refine ⟨_, at_pos, ?_⟩
    refine ite2 (fun e => absurd (eqT e) ni) fun _ => ?_
    refine ⟨_, nextL onw.ng, by show 3 ≤ sizeLine; decide, ?_⟩
    rw [Sta.put_kvs]
    exact q
  · rw [cf]
    refine ⟨false, by show kitB "tuple" "str" = some false; decide +kernel, simple_sta s, _, at_pos, _, at_pos, ?_⟩
    have on : ∀ l', a.goes = some l' → P (onD l' s) → ∃ e, atI (.str a.word :: a.parts) (-1) = some e ∧ (3 ≤ sizeLine ∧ P (.tuple [.str "on", e, s.d])) := fun l' g q => by
      obtain ⟨e1, _⟩ := Act.goes_d g
      have e2 : (.str a.word :: a.parts : List PyData) = a.head ++ [.int l'] := by
        have : a.d = .tuple (.str a.word :: a.parts) := rfl
        rw [this] at e1
        exact (PyData.tuple.inj e1)
      rw [e2]
      exact ⟨_, atI_last, by decide, q⟩
    refine ite2 (fun e => ?_) fun e => ?_
    · obtain ⟨l', rfl⟩ := af.word_go (eqT e)
      exact on l' rfl q
    have ng : ¬ a.word = "go" := eqN e
    have tl : Onw s a → ∃ e, atI ((d.steps.map (·.1)).map PyData.int) (((k + 1 : Nat) : Int)) = some e ∧ (3 ≤ sizeLine ∧ P (.tuple [.str "on", e, s.d])) := fun onw => by
      rw [stepF_on onw, ff] at q
      have e1 : changedF s word a = s := by unfold changedF; rw [mf]
      rw [e1] at q
      exact ⟨_, nextL ng, by decide, q⟩
    refine ⟨_, at_pos, ?_⟩
    refine ite2 (fun e => ?_) fun e => ?_
    · obtain ⟨x, g, y, l', rfl⟩ := af.word_ite (eqT e)
      cases af with
      | ite a1 a2 a3 a4 =>
        refine ⟨_, s, p.wide, _, x, y, g, rfl, .ite, a1, a3, a2, sf, ?_⟩
        refine ite2 (fun t => ?_) fun t => ?_
        · have q : P (if truth s x g y = true then onD l' s else onD (nextOf d k) s) := q
          rw [if_pos t] at q
          exact on l' rfl q
        · refine tl ⟨nb, nc, ng, fun x' g' y' l'' e => ?_⟩
          cases e
          exact (Bool.not_eq_true _).mp t
    · exact tl ⟨nb, nc, ng, fun x g y l' z => absurd (show a.word = "if" by rw [z]; rfl) (eqN e)⟩
end
end Dr

set_option maxRecDepth 100000
set_option maxHeartbeats 3900000
namespace Dr
open PySem PySem.Spec PyProof.Rows L2 K Lf
/-! # programs shown beside states -/
theorem all2 {P : PyData → Prop} {a b : PyData} (x : P a) (y : P b) : ∀ d ∈ [a, b], P d := List.forall_mem_cons.mpr ⟨x, List.forall_mem_cons.mpr ⟨y, fun _ m => (nomatch m)⟩⟩
theorem all3 {P : PyData → Prop} {a b c : PyData} (x : P a) (y : P b) (z : P c) : ∀ d ∈ [a, b, c], P d := List.forall_mem_cons.mpr ⟨x, all2 y z⟩
/-- shown, and no list in it -/
structure So (k n : Nat) (d : PyData) : Prop where
  sw : Sw k n d
  nl : listD d = false
theorem So.mono {k n k' n' : Nat} {d : PyData} (h : So k n d) (a : k ≤ k') (b : n ≤ n') : So k' n' d := ⟨h.sw.mono a b, h.nl⟩
theorem so_int {i : Int} (h : SmI i) : So 0 13 (.int i) := ⟨Sw.int h, rfl⟩
theorem so_str {x : Str} (h : x ∈ nmList) : So 0 13 (.str x) := ⟨Sw.str h, rfl⟩
theorem listAll_of : ∀ {ds : List PyData}, (∀ d ∈ ds, listD d = false) → listAll ds = false
  | [], _ => rfl
  | d :: r, h => by
    show (listD d || listAll r) = false
    rw [h d List.mem_cons_self, listAll_of fun x m => h x (List.mem_cons_of_mem _ m)]
    rfl
theorem listKv_of : ∀ {ds : List (PyData × PyData)}, (∀ p ∈ ds, listD p.2 = false) → listKv ds = false
  | [], _ => rfl
  | (k, d) :: r, h => by
    show (listD d || listKv r) = false
    rw [h (k, d) List.mem_cons_self, listKv_of fun x m => h x (List.mem_cons_of_mem _ m)]
    rfl
theorem So.tup {k n m : Nat} {ds : List PyData} (h : ∀ d ∈ ds, So k n d) (l : ds.length ≤ m) : So (k + 1) ((n + 2) * m + 3) (.tuple ds) :=
  ⟨(Sw.tup fun d z => (h d z).sw).mono (Nat.le_refl _) (Nat.add_le_add_right (Nat.mul_le_mul_left _ l) 3), listAll_of fun d z => (h d z).nl⟩
theorem so_strs {xs : List Str} (h : ∀ x ∈ xs, x ∈ nmList) (l : xs.length ≤ 7) : So 1 120 (strT xs) :=
  (So.tup (k := 0) (n := 13) (m := 7) (fun d m => by obtain ⟨x, hx, rfl⟩ := List.mem_map.mp m; exact so_str (h x hx)) (by rw [List.length_map]; exact l)).mono (Nat.le_refl _) (by decide)
theorem act_so {h : Hd} {hs : List Hd} {w : Int} {L : Int → Prop} {a : Act} (ok : HdOk h) (hn : ∀ o ∈ hs, o.name ∈ nmList ∧ o.params.length ≤ 7) (hw : w ≤ 1000) (lab : ∀ l, L l → SmI l) (f : AFit h hs w L a) : So 2 620 a.d := by
  have q : ∀ {x : Str}, x ∈ nmList → So 1 120 (.str x) := fun m => (so_str m).mono (by decide) (by decide)
  have n : ∀ {x}, x ∈ h.nums → So 1 120 (.str x) := fun m => q (nmL (ok.numIn m))
  have p : ∀ {x}, x ∈ h.plain → So 1 120 (.str x) := fun m => n (nums_plain m)
  have g : ∀ {x}, x ∈ h.fingers → So 1 120 (.str x) := fun m => n (nums_fing m)
  have r : ∀ {x}, x ∈ h.rows → So 1 120 (.str x) := fun m => q (nmL (ok.kinds.2.2 m))
  have i : ∀ {k}, Wd w k → So 1 120 (.int k) := fun m => (so_int (m.sm hw)).mono (by decide) (by decide)
  have s : ∀ {s}, SideOk h w s → So 1 120 s.d := fun m => by
    cases m with
    | nm m => exact n m
    | wd m => exact i m
  have sg : ∀ {x}, x ∈ signs → So 1 120 (.str x) := fun {x} m => q (by
    have : ∀ x ∈ signs, x ∈ nmList := by decide +kernel
    exact this x m)
  have li : ∀ {l}, L l → So 1 120 (.int l) := fun m => (so_int (lab _ m)).mono (by decide) (by decide)
  have fin : ∀ (word : Str) (ps : List PyData), word ∈ nmList → ps.length ≤ 4 → (∀ d ∈ ps, So 1 120 d) → So 2 620 (.tuple (.str word :: ps)) := fun word ps h1 h2 h3 =>
    (So.tup (k := 1) (n := 120) (m := 5) (List.forall_mem_cons.mpr ⟨q h1, h3⟩) (by rw [List.length_cons]; omega)).mono (Nat.le_refl _) (by decide)
  have f1 : ∀ {a : PyData}, So 1 120 a → ∀ d ∈ [a], So 1 120 d := fun x => List.forall_mem_cons.mpr ⟨x, fun _ m => (nomatch m)⟩
  have f4 : ∀ {a b c d : PyData}, So 1 120 a → So 1 120 b → So 1 120 c → So 1 120 d → ∀ e ∈ [a, b, c, d], So 1 120 e := fun a b c d => List.forall_mem_cons.mpr ⟨a, all3 b c d⟩
  cases f with
  | set a b => exact fin _ _ (by show ("set" : Str) ∈ nmList; decide +kernel) (by show 2 ≤ 4; decide) (all2 (n a) (i b))
  | addP a b c => exact fin _ _ (by show ("add" : Str) ∈ nmList; decide +kernel) (by show 3 ≤ 4; decide) (all3 (p a) (n b) (i c))
  | addF a b c => exact fin _ _ (by show ("add" : Str) ∈ nmList; decide +kernel) (by show 3 ≤ 4; decide) (all3 (g a) (g b) (i c))
  | sum w a b c => exact fin _ _ (by
      have : ∀ x ∈ sumWords, x ∈ nmList := by decide +kernel
      exact this _ w) (by show 3 ≤ 4; decide) (all3 (p a) (p b) (p c))
  | midP a b c => exact fin _ _ (by show ("mid" : Str) ∈ nmList; decide +kernel) (by show 3 ≤ 4; decide) (all3 (p a) (p b) (p c))
  | midF a b c => exact fin _ _ (by show ("mid" : Str) ∈ nmList; decide +kernel) (by show 3 ≤ 4; decide) (all3 (g a) (g b) (g c))
  | row a b => exact fin _ _ (by show ("row" : Str) ∈ nmList; decide +kernel) (by show 2 ≤ 4; decide) (all2 (r a) (n b))
  | get a b c => exact fin _ _ (by show ("get" : Str) ∈ nmList; decide +kernel) (by show 3 ≤ 4; decide) (all3 (p a) (r b) (n c))
  | put a b c => exact fin _ _ (by show ("put" : Str) ∈ nmList; decide +kernel) (by show 3 ≤ 4; decide) (all3 (r a) (n b) (n c))
  | length a b => exact fin _ _ (by show ("length" : Str) ∈ nmList; decide +kernel) (by show 2 ≤ 4; decide) (all2 (n a) (r b))
  | ask a b c d => exact fin _ _ (by show ("ask" : Str) ∈ nmList; decide +kernel) (by show 3 ≤ 4; decide) (all3 (p a) (i b) (i c))
  | tell a => exact fin _ _ (by show ("tell" : Str) ∈ nmList; decide +kernel) (by show 1 ≤ 4; decide) (f1 (n a))
  | check a b c => exact fin _ _ (by show ("check" : Str) ∈ nmList; decide +kernel) (by show 3 ≤ 4; decide) (all3 (s a) (sg b) (s c))
  | ite a b c l => exact fin _ _ (by show ("if" : Str) ∈ nmList; decide +kernel) (by show 4 ≤ 4; decide) (f4 (s a) (sg b) (s c) (li l))
  | go l => exact fin _ _ (by show ("go" : Str) ∈ nmList; decide +kernel) (by show 1 ≤ 4; decide) (f1 (li l))
  | call a b c =>
    obtain ⟨g1, g2⟩ := given_in ok c
    have h7 := (hn _ b).2
    exact fin _ _ (by show ("call" : Str) ∈ nmList; decide +kernel) (by show 3 ≤ 4; decide) (all3 (p a) (q (hn _ b).1) (so_strs g1 (by omega)))
  | back a => exact fin _ _ (by show ("back" : Str) ∈ nmList; decide +kernel) (by show 1 ≤ 4; decide) (f1 (n a))
theorem lab_sm {st : List Stp} (h : ∀ s ∈ st, 0 ≤ s.1 ∧ s.1 ≤ 9999) : ∀ l, l ∈ st.map (·.1) → SmI l := fun l m => by
  obtain ⟨t, ht, rfl⟩ := List.mem_map.mp m
  have := h t ht
  exact SmI.of (w := 9999) (by decide) (by omega) (by omega)
theorem df_so {h : Hd} {hs : List Hd} {w : Int} {d : Df} (hso : HdsOk hs) (hm : h ∈ hs) (hw : w ≤ 1000) (f : DfOf h hs w d) : So 5 200000 d.d := by
  have ok := hso.ok h hm
  obtain ⟨n1, n2⟩ := hd_in hso h hm
  have lens := ok.lens
  have st : So 4 38000 (.tuple (d.steps.map stpD)) := (So.tup (k := 3) (n := 1260) (m := 30) (fun x m => by
    obtain ⟨s, hs', rfl⟩ := List.mem_map.mp m
    have a := act_so ok (hd_in hso) hw (lab_sm f.steps.lab) (f.steps.acts s hs')
    have i := (so_int (lab_sm f.steps.lab s.1 (List.mem_map_of_mem hs'))).mono (k' := 2) (n' := 620) (by decide) (by decide)
    exact (So.tup (k := 2) (n := 620) (m := 2) (all2 i a) (Nat.le_refl _)).mono (Nat.le_refl _) (by decide)) (by rw [List.length_map]; exact f.steps.few)).mono (Nat.le_refl _) (by decide)
  have ns : ∀ {xs : List Str}, (∀ x ∈ xs, x ∈ letters) → xs.length ≤ 7 → So 4 38000 (strT xs) := fun h l => (so_strs (fun x m => nmL (h x m)) l).mono (by decide) (by decide)
  have ps : So 4 38000 (strT d.params) := by rw [f.params]; exact ns (fun x hx => ok.letter (ok.params.2 x hx)) n2
  have fs : So 4 38000 (strT d.fingers) := by rw [f.fingers]; exact ns (fun x hx => ok.kinds.2.1 hx) (by omega)
  have rs : So 4 38000 (strT d.rows) := by rw [f.rows]; exact ns (fun x hx => ok.kinds.2.2 hx) (by omega)
  have nn : So 4 38000 (.str d.name) := by rw [f.name]; exact (so_str n1).mono (by decide) (by decide)
  exact (So.tup (k := 4) (n := 38000) (m := 5) (List.forall_mem_cons.mpr ⟨nn, List.forall_mem_cons.mpr ⟨ps, all3 fs rs st⟩⟩) (Nat.le_refl _)).mono (Nat.le_refl _) (by decide)
theorem PgFit.so {p : Pg} (f : PgFit p) : So 7 1300000 p.d := by
  have w1 := f.w1
  have w0 := f.w0
  have ds : So 6 620000 (.tuple (p.defs.map Df.d)) := (So.tup (k := 5) (n := 200000) (m := 3) (fun x m => by
    obtain ⟨d, hd, rfl⟩ := List.mem_map.mp m
    obtain ⟨h, hs, a, b, c⟩ := f.of hd
    exact df_so a b (by omega) c) (by rw [List.length_map]; exact f.few)).mono (Nat.le_refl _) (by decide)
  have i : So 6 620000 (.int p.wide) := (so_int (SmI.of (w := 31) (by decide) (by omega) (by omega))).mono (by decide) (by decide)
  exact (So.tup (k := 6) (n := 620000) (m := 2) (all2 i ds) (Nat.le_refl _)).mono (Nat.le_refl _) (by decide)
theorem Sta.list (s : Sta) : listD s.d = false := by
  refine listKv_of fun p m => ?_
  obtain ⟨q, _, rfl⟩ := List.mem_map.mp m
  show listD q.2.d = false
  cases q.2 with
  | num i => rfl
  | row xs => exact listAll_of fun d z => by obtain ⟨i, _, rfl⟩ := List.mem_map.mp z; rfl
/-- what is told can be looked at as the law does -/
structure Good (d : PyData) : Prop where
  like : ∃ n, n ≤ 20 ∧ LikeC n d
  con : contD d = true
  so : So 28 3000000 d
  nt : Nt d
end Dr

set_option maxRecDepth 100000
set_option maxHeartbeats 3900000
namespace Dr
open PySem PySem.Spec PyProof.Rows L2 K Lf
/-! # what a step tells is good -/
theorem flat_str {n : Nat} {x : Str} (h : x ∈ nmList) : Like n (.str x) := by
  have f := nm h
  exact .flat rfl (shaped_of f.lay (Nat.le_trans f.dep (by decide)))
theorem flat_int {n : Nat} {i : Int} : Like n (.int i) := .flat rfl (shaped_of rfl (Nat.zero_le _))
theorem Sta.Of.good {h : Hd} {hs : List Hd} {w : Int} {d : Df} {s : Sta} (o : s.Of d w) (ok : HdOk h) (f : DfOf h hs w d) (hw : w ≤ 40) : Like 1 s.d ∧ So 2 5000 s.d ∧ Nt s.d :=
  ⟨Sta.kvs_like o.keys.1, ⟨(o.sw ok f hw).1, s.list⟩, (o.sw ok f hw).2⟩
theorem good3 {a b c : PyData} (x : Like 1 a ∧ So 2 5000 a ∧ Nt a) (y : Like 1 b ∧ So 2 5000 b ∧ Nt b) (z : Like 1 c ∧ So 2 5000 c ∧ Nt c) : Good (.tuple [a, b, c]) :=
  ⟨⟨1, by decide, .tup (all3 x.1 y.1 z.1)⟩, rfl, (So.tup (k := 2) (n := 5000) (m := 3) (all3 x.2.1 y.2.1 z.2.1) (Nat.le_refl _)).mono (by decide) (by decide), K.cf_tup (all3 x.2.2 y.2.2 z.2.2)⟩
theorem good2 {a b : PyData} (x : Like 1 a ∧ So 2 5000 a ∧ Nt a) (y : Like 1 b ∧ So 2 5000 b ∧ Nt b) : Good (.tuple [a, b]) :=
  ⟨⟨1, by decide, .tup (all2 x.1 y.1)⟩, rfl, (So.tup (k := 2) (n := 5000) (m := 2) (all2 x.2.1 y.2.1) (Nat.le_refl _)).mono (by decide) (by decide), K.cf_tup (all2 x.2.2 y.2.2)⟩
theorem g_str {x : Str} (h : x ∈ nmList) : Like 1 (.str x) ∧ So 2 5000 (.str x) ∧ Nt (.str x) := ⟨flat_str h, (so_str h).mono (by decide) (by decide), nt_str h⟩
theorem g_int {i : Int} (h : SmI i) : Like 1 (.int i) ∧ So 2 5000 (.int i) ∧ Nt (.int i) := ⟨flat_int, (so_int h).mono (by decide) (by decide), nt_int i⟩
/-! # states go on being states -/
theorem great_wd {wd r : Int} (h : great wd r = none) : Wd wd r := by
  unfold great at h
  by_cases c : (decide (-wd ≤ r) && decide (r ≤ wd)) = true
  · rw [Bool.and_eq_true] at c
    exact ⟨of_decide_eq_true c.1, of_decide_eq_true c.2⟩
  · rw [if_neg c] at h
    cases h
theorem Sta.Of.put {d : Df} {w : Int} {s : Sta} (o : s.Of d w) {x : Str} {c : Cel} (hx : x ∈ d.raw) (hr : x ∈ d.rows → ∃ xs, c = .row xs ∧ (xs.length : Int) ≤ w ∧ ∀ i ∈ xs, Wd w i) (hn : x ∉ d.rows → ∃ i, c = .num i ∧ Wd w i) : (s.put x c).Of d w := by
  have k := o.has hx
  refine ⟨by rw [Sta.put_keys k]; exact o.keys, fun y e m r => ?_, fun y e m r => ?_⟩
  · rcases Sta.put_mem k m with m | ⟨rfl, rfl⟩
    · exact o.row y e m r
    · exact hr r
  · rcases Sta.put_mem k m with m | ⟨rfl, rfl⟩
    · exact o.num y e m r
    · exact hn r
theorem Sta.Of.rowIn {d : Df} {w : Int} {s : Sta} (o : s.Of d w) {x : Str} (hx : x ∈ d.raw) (hr : x ∈ d.rows) : ((s.rowOf x).length : Int) ≤ w ∧ ∀ i ∈ s.rowOf x, Wd w i := by
  obtain ⟨c, e⟩ := Sta.get_of (o.has hx)
  obtain ⟨xs, rfl, a, b⟩ := o.row x c (Sta.get_mem e) hr
  unfold Sta.rowOf
  rw [e]
  exact ⟨a, b⟩
theorem getD_in {xs : List Int} {w : Int} {k : Nat} (h : ∀ i ∈ xs, Wd w i) (w0 : 0 ≤ w) : Wd w (xs.getD k 0) := by
  rw [List.getD_eq_getElem?_getD] <;> skip
  cases e : xs[k]? with
  | none => show -w ≤ 0 ∧ 0 ≤ w; omega
  | some i => exact h i (List.mem_of_getElem? e)
theorem fdiv_wd {w i j : Int} (a : Wd w i) : Wd w (i.fdiv j) := by
  have := Int.natAbs_fdiv_le_natAbs i j
  obtain ⟨a1, a2⟩ := a
  show -w ≤ _ ∧ _ ≤ w
  omega
theorem fmod_wd {w i j : Int} (b : Wd w j) (nz : j ≠ 0) : Wd w (i.fmod j) := by
  obtain ⟨b1, b2⟩ := b
  show -w ≤ _ ∧ _ ≤ w
  rcases Int.lt_or_gt_of_ne nz with h | h
  · have h1 : 0 ≤ (-i).fmod (-j) := Int.fmod_nonneg_of_pos _ (by omega)
    have h2 : (-i).fmod (-j) < -j := Int.fmod_lt_of_pos _ (by omega)
    rw [Int.neg_fmod_neg] at h1 h2
    omega
  · have h1 := Int.fmod_nonneg_of_pos i h
    have h2 := Int.fmod_lt_of_pos i h
    omega
theorem changed_of {h : Hd} {hs : List Hd} {w : Int} {d : Df} {s : Sta} {L : Int → Prop} {a : Act} {word : Int} (o : s.Of d w) (ok : HdOk h) (f : DfOf h hs w d) (af : AFit h hs w L a) (inR : ∀ x ∈ a.names, x ∈ d.raw) (ff : faultF w s a = none) (w0 : 0 ≤ w) (hw : Wd w word) : (changedF s word a).Of d w := by
  have rows : ∀ {x}, x ∈ h.rows → x ∈ d.rows := fun m => by rw [f.rows]; exact m
  have nr : ∀ {x}, x ∈ h.nums → x ∉ d.rows := fun {x} m => by
    rw [f.rows]
    rcases List.mem_append.mp m with m | m
    · exact ((ok.apart (x := x)).1 m).2
    · exact (ok.apart (x := x)).2 m
  have num : ∀ {x}, x ∈ h.nums → x ∈ d.raw → Wd w (s.num x) := fun {x} m r => by
    obtain ⟨c, e⟩ := Sta.get_of (o.has r)
    obtain ⟨i, rfl, a⟩ := o.num x c (Sta.get_mem e) (nr m)
    unfold Sta.num
    rw [e]
    exact a
  have putN : ∀ {x : Str} {i : Int}, x ∈ h.nums → x ∈ d.raw → Wd w i → (s.put x (.num i)).Of d w := fun m r k => o.put r (fun z => absurd z (nr m)) fun _ => ⟨_, rfl, k⟩
  have putR : ∀ {x : Str} {xs : List Int}, x ∈ h.rows → x ∈ d.raw → (xs.length : Int) ≤ w → (∀ i ∈ xs, Wd w i) → (s.put x (.row xs)).Of d w := fun m r k l => o.put r (fun _ => ⟨_, rfl, k, l⟩) fun z => absurd (rows m) z
  have i0 : ∀ {x r}, a.names = x :: r → x ∈ d.raw := fun e => inR _ (by rw [e]; exact List.mem_cons_self)
  have i1 : ∀ {x y r}, a.names = x :: y :: r → y ∈ d.raw := fun e => inR _ (by rw [e]; exact List.mem_cons_of_mem _ List.mem_cons_self)
  have i2 : ∀ {x y z r}, a.names = x :: y :: z :: r → z ∈ d.raw := fun e => inR _ (by rw [e]; exact List.mem_cons_of_mem _ (List.mem_cons_of_mem _ List.mem_cons_self))
  have midW : ∀ {i j : Int}, Wd w i → Wd w j → Wd w ((i + j).fdiv 2) := fun a b => great_wd (mid_in a b)
  cases af with
  | set a b => exact putN a (i0 rfl) b
  | addP a b c => exact putN (nums_plain a) (i0 rfl) (great_wd ff)
  | addF a b c => exact putN (nums_fing a) (i0 rfl) (great_wd ff)
  | @sum wd x y z hs' a b c =>
    refine putN (nums_plain a) (i0 rfl) ?_
    have my := num (nums_plain b) (i1 rfl)
    have mz := num (nums_plain c) (i2 rfl)
    have ff : (if wd = "over" ∨ wd = "rest" then (if s.num z = 0 then some ("nought" : Str) else none) else great w (arith wd (s.num y) (s.num z))) = none := ff
    by_cases k : wd = "over" ∨ wd = "rest"
    · rw [if_pos k] at ff
      have nz : s.num z ≠ 0 := fun e => by rw [if_pos e] at ff; cases ff
      have d1 : ∀ s ∈ (["over", "rest"] : List Str), s ≠ "plus" ∧ s ≠ "minus" ∧ s ≠ "times" := by decide +kernel
      rcases k with rfl | rfl
      · exact fdiv_wd my
      · exact fmod_wd mz nz
    · rw [if_neg k] at ff
      exact great_wd ff
  | midP a b c => exact putN (nums_plain a) (i0 rfl) (midW (num (nums_plain b) (i1 rfl)) (num (nums_plain c) (i2 rfl)))
  | midF a b c => exact putN (nums_fing a) (i0 rfl) (midW (num (nums_fing b) (i1 rfl)) (num (nums_fing c) (i2 rfl)))
  | @row r y a b =>
    have my := num b (i1 rfl)
    refine putR a (i0 rfl) ?_ fun i m => ?_
    · rw [List.length_replicate]
      obtain ⟨m1, m2⟩ := my
      omega
    · rw [List.eq_of_mem_replicate m]
      show -w ≤ 0 ∧ 0 ≤ w
      omega
  | get a b c => exact putN (nums_plain a) (i0 rfl) (getD_in (o.rowIn (i1 rfl) (rows b)).2 w0)
  | put a b c =>
    obtain ⟨r1, r2⟩ := o.rowIn (i0 rfl) (rows a)
    refine putR a (i0 rfl) (by rw [List.length_set]; exact r1) fun i m => ?_
    rcases List.mem_or_eq_of_mem_set m with m | rfl
    · exact r2 i m
    · exact num c (i2 rfl)
  | length a b =>
    have r1 := (o.rowIn (i1 rfl) (rows b)).1
    exact putN a (i0 rfl) (by show -w ≤ _ ∧ _ ≤ w; omega)
  | @ask x lo hi a b c e =>
    refine putN (nums_plain a) (i0 rfl) ?_
    have h1 := Int.fmod_nonneg_of_pos (word - lo) (by omega : 0 < hi - lo + 1)
    have h2 := Int.fmod_lt_of_pos (word - lo) (by omega : 0 < hi - lo + 1)
    obtain ⟨b1, b2⟩ := b
    obtain ⟨c1, c2⟩ := c
    show -w ≤ _ ∧ _ ≤ w
    omega
  | _ => exact o
theorem why_nm {w : Int} {s : Sta} {a : Act} {why : Str} (h : faultF w s a = some why) : why ∈ nmList := by
  have gr : ∀ {r}, great w r = some why → why ∈ nmList := fun {r} e => by
    unfold great at e
    split at e
    · cases e
    · cases e; decide +kernel
  have sp : ∀ {a i}, spotF s a i = some why → why ∈ nmList := fun e => by rw [spot_is e]; decide +kernel
  cases a with
  | add x y k => exact gr h
  | sum wd x y z =>
    have h : (if wd = "over" ∨ wd = "rest" then (if s.num z = 0 then some ("nought" : Str) else none) else great w (arith wd (s.num y) (s.num z))) = some why := h
    split at h
    · split at h
      · cases h; decide +kernel
      · cases h
    · exact gr h
  | row r y =>
    have h : (if s.num y < 0 then some ("size" : Str) else none) = some why := h
    split at h
    · cases h; decide +kernel
    · cases h
  | get x r i => exact sp h
  | put r i y => exact sp h
  | check x g y =>
    have h : (if truth s x g y = true then none else some ("check" : Str)) = some why := h
    split at h
    · cases h
    · cases h; decide +kernel
  | _ => cases h
def lettersS : List Str := ["a", "b", "p", "q", "x", "y", "z"]
theorem sorted_of : ∀ {l : List Str}, l.Pairwise (fun x y => ¬ (y.cps.toList < x.cps.toList)) → sortedS l = true
  | [], _ => rfl
  | [x], _ => rfl
  | x :: y :: r, h => by
    have h1 := (List.pairwise_cons.mp h).1 y List.mem_cons_self
    have h2 := sorted_of (List.pairwise_cons.mp h).2
    show (!ltCps y.cps.toList x.cps.toList && risingS y r) = true
    rw [ltCps_eq, decide_eq_false h1]
    exact h2
theorem isn_ex {w : Int} {e : Df} (f : DefFit w e) : ∃ ys, IsN e ys := by
  have n : lettersS.Nodup := by decide +kernel
  have pw : lettersS.Pairwise (fun x y => ¬ (y.cps.toList < x.cps.toList)) := by decide +kernel
  have al : ∀ x ∈ letters, x ∈ lettersS := by decide +kernel
  refine ⟨lettersS.filter (· ∈ e.raw), n.filter _, sorted_of (pw.filter _), fun y => ?_⟩
  rw [List.mem_filter]
  exact ⟨fun m => of_decide_eq_true m.2, fun m => ⟨al y (f.letters y m), decide_eq_true m⟩⟩
theorem step_good {p : Pg} {d : Df} {k : Nat} {st : Stp} {s : Sta} {word : Int} (a : At p d k st s) (hw : Wd p.wide word) : Good (stepF p d k s word st.2) ∧ ((∃ x y, stepF p d k s word st.2 = .tuple [.str x, y] ∧ x ∉ (["on", "call"] : List Str) ∧ x ∈ nmList) ∨ ∃ x y z, stepF p d k s word st.2 = .tuple [.str x, y, Sta.d z] ∧ x ∈ (["on", "call"] : List Str)) := by
  obtain ⟨fit, hd, hk, sta⟩ := a
  obtain ⟨l, a⟩ := st
  have ok := fit.listed
  have stm : (l, a) ∈ d.steps := List.mem_of_getElem? hk
  obtain ⟨h, hs, hso, hm, c, calls⟩ := fit.callee hd
  have hok := hso.ok h hm
  have w0 := fit.w0
  have w1 := fit.w1
  have af : AFit h hs p.wide (fun l => l ∈ d.steps.map (·.1)) a := c.steps.acts _ stm
  have inR : ∀ x ∈ a.names, x ∈ d.raw := fun x m => raw_step stm m
  have lab : ∀ l, l ∈ d.steps.map (·.1) → SmI l := lab_sm c.steps.lab
  have on : ∀ {l' : Int} {s' : Sta}, SmI l' → s'.Of d p.wide → Good (onD l' s') := fun a b => good3 (g_str (by decide +kernel)) (g_int a) (b.good hok c (by omega))
  have nx : SmI (nextOf d k) := by
    unfold nextOf
    cases e : d.steps[k + 1]? with
    | none => exact SmI.of (w := 9) (by decide) (by decide) (by decide)
    | some t => exact lab _ (List.mem_map_of_mem (List.mem_of_getElem? e))
  have onr : ∀ (l' : Int) (s' : Sta), ∃ x y z, onD l' s' = .tuple [.str x, y, Sta.d z] ∧ x ∈ (["on", "call"] : List Str) := fun l' s' => ⟨_, _, _, rfl, by decide +kernel⟩
  show Good (stepF p d k s word a) ∧ ((∃ x y, stepF p d k s word a = .tuple [.str x, y] ∧ x ∉ (["on", "call"] : List Str) ∧ x ∈ nmList) ∨ ∃ x y z, stepF p d k s word a = .tuple [.str x, y, Sta.d z] ∧ x ∈ (["on", "call"] : List Str))
  have gen : Onw s a → Good (stepF p d k s word a) ∧ ((∃ x y, stepF p d k s word a = .tuple [.str x, y] ∧ x ∉ (["on", "call"] : List Str) ∧ x ∈ nmList) ∨ ∃ x y z, stepF p d k s word a = .tuple [.str x, y, Sta.d z] ∧ x ∈ (["on", "call"] : List Str)) := fun onw => by
    rw [stepF_on onw]
    cases ff : faultF p.wide s a with
    | some why => exact ⟨good2 (g_str (by decide +kernel)) (g_str (why_nm ff)), .inl ⟨_, _, rfl, by decide +kernel, by decide +kernel⟩⟩
    | none => exact ⟨on nx (changed_of sta hok c af inR ff (by omega) hw), .inr (onr _ _)⟩
  by_cases cb : a.word = "back"
  · obtain ⟨y, rfl⟩ := af.word_back cb
    cases af with
    | back m =>
      obtain ⟨cc, e⟩ := Sta.get_of (sta.has (inR y List.mem_cons_self))
      have nr : y ∉ d.rows := by
        rw [c.rows]
        rcases List.mem_append.mp m with m | m
        · exact ((hok.apart (x := y)).1 m).2
        · exact (hok.apart (x := y)).2 m
      obtain ⟨i, rfl, b⟩ := sta.num y cc (Sta.get_mem e) nr
      have : s.num y = i := by unfold Sta.num; rw [e]
      refine ⟨good2 (g_str (by decide +kernel)) (g_int ?_), .inl ⟨_, _, rfl, by decide +kernel, by decide +kernel⟩⟩
      rw [this]
      exact b.sm (by omega)
  by_cases cc : a.word = "call"
  · obtain ⟨x, f, gs, rfl⟩ := af.word_call cc
    cases af with
    | @call x o gs a1 a2 a3 =>
      obtain ⟨e, he, en, ep, er, edf⟩ := calls o a2
      have gc : GivC e p.wide (gs.map s.cel) := fun i pp cc h1 h2 => given_cels sta c.rows.symm hok (hso.ok o a2) er a3 (fun y m => inR y (List.mem_cons_of_mem _ m)) i pp cc (by rw [← ep]; exact h1) h2
      obtain ⟨hs2, h2, ho2, hm2, c2⟩ := edf.ex
      have nmo : o.name ∈ nmList := (hd_in hso o a2).1
      obtain ⟨ys, hy⟩ := isn_ex edf
      have of := beginF_of hy gc (by omega)
      refine ⟨?_, .inr ⟨_, _, _, rfl, by decide +kernel⟩⟩
      show Good (.tuple [.str "call", .str o.name, (beginF (p.defOf o.name) (gs.map s.cel)).d])
      rw [← en, defOf_is ok.names he, en]
      exact good3 (g_str (by decide +kernel)) (g_str nmo) (of.good (ho2.ok h2 hm2) c2 (by omega))
  by_cases cg : a.word = "go"
  · obtain ⟨l', rfl⟩ := af.word_go cg
    cases af with
    | go m => exact ⟨on (lab _ m) sta, .inr (onr _ _)⟩
  by_cases ci : a.word = "if"
  · obtain ⟨x, g, y, l', rfl⟩ := af.word_ite ci
    by_cases t : truth s x g y = true
    · cases af with
      | ite a1 a2 a3 m =>
        have e : stepF p d k s word (.ite x g y l') = onD l' s := if_pos t
        rw [e]
        exact ⟨on (lab _ m) sta, .inr (onr _ _)⟩
    · exact gen ⟨cb, cc, cg, fun x' g' y' l'' e => by cases e; exact (Bool.not_eq_true _).mp t⟩
  · exact gen ⟨cb, cc, cg, fun x g y l' z => absurd (show a.word = "if" by rw [z]; rfl) ci⟩
end Dr

set_option maxRecDepth 100000
set_option maxHeartbeats 3900000
namespace Dr
open PySem PySem.Spec PyProof.Rows L2 K Lf
def noOwnL (o : List (Option Ho)) : Bool := o.all fun x => match x with
  | some (.own _) => false
  | _ => true
theorem noOwn_of {o : Om} (h : noOwnL o.vs = true) : noOwn o := fun j e z => by
  have := List.all_eq_true.mp h _ (List.mem_of_getElem? z)
  cases this
theorem kw_app {K : PySem.W.Frag} : ∀ (G : Hp) (vs ws : List V) (ds es : List PyData), RpAll K G vs ds → RpAll K G ws es → RpAll K G ((fun us ws => us ++ ws : List V → List V → List V) vs ws) ((fun us ws => us ++ ws : List PyData → List PyData → List PyData) ds es) := fun _ _ _ _ _ a b => a.append b
theorem dfl_word {K : PySem.W.Frag} : ∀ G : Hp, RpAll K G [V.int 0] [PyData.int 0] := fun G => .cons (.int 0) .nil
section
variable {P : Program} {w : World} {K : PySem.W.Frag} [Tabled K] {mg : Str → Option Value} {base : Heap}
abbrev s_law_same : Stmt := topS 47
theorem sc_law_same : FnScope ["told", "due"] ["told", "due"] (defScope s_law_same) := ⟨rfl, rfl, rfl, by decide +kernel, rfl, by decide +kernel, by decide +kernel⟩
def phSame : Ph := fun ds P => ∃ d : PyData, ds = [d, d] ∧ Good d ∧ P (.bool true)
theorem ok_law_same (B : Bs mg) {f : Addr} {fd : FuncData} (F : Fun K "_law_same" "_law_same" s_law_same f fd) : FnG P w K mg base CX0 1 f fd ["told", "due"] (spP K phSame) := by
  refine okPG F sc_law_same (fun ds P ⟨d, e, _⟩ => by rw [e]; rfl)
    (fun cdv A outer s H E hq hr => (fss_one (fs_ret (fe_and (fe_eqL (hu128 hr) rfl (fv (pv 0)) (fv (pv 1))) (fe_and (fe_notInS fe_str (fe_reprW rfl hq hr.units (by rfl) B.repr (fa_cons (fv (pv 0)) fa_nil))) (fe_one (fe_notInS fe_str (fe_reprW rfl hq hr.units (by rfl) B.repr (fa_cons (fv (pv 0)) fa_nil))))))))) fun ds P h => ?_
  obtain ⟨d, rfl, g, q⟩ := h
  obtain ⟨n, hn, l⟩ := g.like
  refine ⟨rfl, ⟨n, by omega, l⟩, ?_⟩
  refine ⟨g.con, g.so.nl, g.so.sw.sh, Nat.le_trans g.so.sw.dp (by decide), Nat.le_trans g.so.sw.ln (by decide), ?_⟩
  refine ite2 (fun _ => ?_) fun h => absurd (by rw [g.nt.true_out]; rfl) h
  refine ⟨g.con, g.so.nl, g.so.sw.sh, Nat.le_trans g.so.sw.dp (by decide), Nat.le_trans g.so.sw.ln (by decide), ?_⟩
  show P (.bool (!(!(Builtin.Str.occurrences d.shown "False" 0 d.shown.length 1).isEmpty)))
  rw [g.nt.false_out]
  exact q
abbrev s_law_right : Stmt := topS 49
theorem sc_law_right : FnScope ["tape", "program", "one", "place", "state", "handed", "kept", "due", "told"] ["tape", "program", "one", "place"] (defScope s_law_right) := ⟨rfl, rfl, rfl, by decide +kernel, rfl, by decide +kernel, by decide +kernel⟩
def phRight : PhT := fun ds n P => ∃ (p : Pg) (d : Df) (k : Nat) (st : Stp), ds = [p.d, d.d, plD (d.name, st.1)] ∧ PgFit p ∧ d ∈ p.defs ∧ d.steps[k]? = some st ∧ n < 700000 ∧ ∀ m, m ≤ n + 300 → P (.bool true) m
theorem ok_law_right (B : Bs mg) (c_a_state : C8.Cal P w K mg base 4 "_law_a_state" (spT K phAState) []) (c_a_word : C8.Cal P w K mg base 3 "_law_a_word" (spT K phWord) []) (c_due : C8.Cal P w K mg base 3 "_law_due" (spP K phStep) []) (c_same : CalG P w K mg base 1 "_law_same" (spP K phSame))
    (c_one_step_word : CalN P w K mg base 5 "one_step" (spF K phStep) 3 ["word"] (fun us ws => us ++ ws)) (c_one_step_3 : C8.Cal P w K mg base 5 "one_step" (spF K phStep) [.int 0]) {f : Addr} {fd : FuncData} (F : Fun K "_law_right" "_law_right" s_law_right f fd) : FnG P w K mg base CX0 6 f fd ["tape", "program", "one", "place"] (spT K phRight) := by
  refine okTG F sc_law_right (fun ds n P ⟨p, d, k, st, e, _⟩ => by rw [e]; rfl)
    (fun cdv A outer s H E hq hr => (fss_cons (fs_set (i := 4) sc_law_right.nd rfl (.inl rfl) (fe_ct c_a_state hr (by decide) (by rfl) (pv 0) (fa_cons (fv (pv 1)) (fa_cons (fv (pv 2)) fa_nil))))
      (fss_cons (fs_set (i := 5) sc_law_right.nd rfl (.inl rfl) (fe_ct c_a_word hr (by decide) (by rfl) (pv 0) (fa_cons (fe_ix rfl (fv (pv 1)) fe_int) fa_nil)))
      (fss_cons (fs_set (i := 6) sc_law_right.nd rfl (.inl rfl) (fe_reprW rfl hq hr.units (by rfl) B.repr (fa_cons (fe_tup (fa_cons (fv (pv 1)) (fa_cons (fv (pv 3)) (fa_cons (fv (pv 4)) fa_nil)))) fa_nil)))
      (fss_cons (fs_set (i := 7) sc_law_right.nd rfl (.inl rfl) (fe_c c_due hr (by decide) (by rfl) (fa_cons (fv (pv 1)) (fa_cons (fv (pv 3)) (fa_cons (fv (pv 4)) (fa_cons (fv (pv 5)) fa_nil))))))
      (fss_told (i := 8) rfl sc_law_right.nd rfl (.inl rfl) (ff_cK kw_app c_one_step_word hr (by decide) (by rfl) (fa_cons (fv (pv 1)) (fa_cons (fv (pv 3)) (fa_cons (fv (pv 4)) fa_nil))) (fks_cons (fv (pv 5)) fks_nil)) (fw_pt (fw_or (ft_not (ft_val (fe_cG c_same hq hr (by decide) (by rfl) (fa_cons (fv (pv 8)) (fa_cons (fv (pv 7)) fa_nil))))) (fw_or1 (ft_ne (fe_reprW rfl hq hr.units (by rfl) B.repr (fa_cons (fe_tup (fa_cons (fv (pv 1)) (fa_cons (fv (pv 3)) (fa_cons (fv (pv 4)) fa_nil)))) fa_nil)) (fv (pv 6)))))) (ft_in rfl (fe_ix rfl (fv (pv 7)) fe_int) (fe_tup (fa_cons fe_str (fa_cons fe_str fa_nil)))) (pv 8)
      (fss_cons (fs_if (fw_pt (fw_or (ft_not (ft_val (fe_cG c_same hq hr (by decide) (by rfl) (fa_cons (ffe (ff_cK kw_app c_one_step_word hr (by decide) (by rfl) (fa_cons (fv (pv 1)) (fa_cons (fv (pv 3)) (fa_cons (fv (pv 4)) fa_nil))) (fks_cons (fv (pv 5)) fks_nil))) (fa_cons (fv (pv 7)) fa_nil))))) (fw_or1 (ft_ne (fe_reprW rfl hq hr.units (by rfl) B.repr (fa_cons (fe_tup (fa_cons (fv (pv 1)) (fa_cons (fv (pv 3)) (fa_cons (fv (pv 4)) fa_nil)))) fa_nil)) (fv (pv 6))))))
      (fss_one (fs_ret fe_bl))
      fss_nil)
      (fss_one (fs_ret (fe_cG c_same hq hr (by decide) (by rfl) (fa_cons (ffe (ff_cD dfl_word c_one_step_3 hr (by decide) (by rfl) (fa_cons (fv (pv 1)) (fa_cons (fv (pv 3)) (fa_cons (fv (pv 4)) fa_nil))))) (fa_cons (fe_c c_due hr (by decide) (by rfl) (fa_cons (fv (pv 1)) (fa_cons (fv (pv 3)) (fa_cons (fv (pv 4)) (fa_cons fe_int fa_nil))))) fa_nil)))))))))))) fun ds n P h => ?_
  obtain ⟨p, d, k, st, rfl, fit, hd, hk, hn, q⟩ := h
  have w0 := fit.w0
  have w1 := fit.w1
  obtain ⟨h, hs, hso, hm, c, calls⟩ := fit.callee hd
  have hok := hso.ok h hm
  refine ⟨rfl, p, d, rfl, fit.df hd, w0, w1, by show n < 800000; omega, fun s sOf m hm' => ?_⟩
  have hm' : m ≤ n + 200 := hm'
  refine ⟨rfl, _, at_pos, p.wide, rfl, by show m < 900000; omega, w0, by omega, fun word hw => ?_⟩
  have at' : At p d k st s := ⟨fit, hd, hk, sOf⟩
  obtain ⟨gd, sh⟩ := step_good at' hw
  obtain ⟨gd0, _⟩ := step_good (word := 0) at' (by show -p.wide ≤ 0 ∧ 0 ≤ p.wide; omega)
  have so3 : So 8 4000000 (.tuple [p.d, plD (d.name, st.1), s.d]) := by
    have pl : So 7 1300000 (plD (d.name, st.1)) := (So.tup (k := 0) (n := 13) (m := 2) (all2 (so_str (by rw [c.name]; exact (hd_in hso h hm).1)) (so_int (lab_sm c.steps.lab st.1 (List.mem_map_of_mem (List.mem_of_getElem? hk))))) (Nat.le_refl _)).mono (by decide) (by decide)
    exact (So.tup (k := 7) (n := 1300000) (m := 3) (all3 fit.so pl ((sOf.good hok c (by omega)).2.1.mono (by decide) (by decide))) (Nat.le_refl _)).mono (Nat.le_refl _) (by decide)
  have s1 := so3.sw.sh
  have s2 := Nat.le_trans so3.sw.dp (by decide : 8 ≤ 30)
  have s3 := Nat.le_trans so3.sw.ln (by decide : 4000000 ≤ sizeLine)
  refine ⟨by show 3 ≤ sizeLine; decide, rfl, so3.nl, s1, s2, s3, ?_⟩
  obtain ⟨x, rest, ex, hx⟩ : ∃ x rest, stepF p d k s word st.2 = .tuple (.str x :: rest) ∧ (x ∈ (["on", "call"] : List Str) → ∃ y z, rest = [y, Sta.d z]) := by
    rcases sh with ⟨x, y, e, nx, _⟩ | ⟨x, y, z, e, hx⟩
    · exact ⟨x, _, e, fun m => absurd m nx⟩
    · exact ⟨x, _, e, fun _ => ⟨y, z, rfl⟩⟩
  have ca : ∀ {Q : PyData → Prop}, Q (.tuple (.str x :: rest)) → Q (stepF p d k s word st.2) := fun h => by rw [ex]; exact h
  refine ⟨p, d, k, st, s, word, rfl, at', ?_⟩
  rw [ex] at gd ⊢
  refine ⟨⟨noOwn_of rfl, by show 8 < 9; decide⟩, rfl, rfl, p, d, k, st, s, word, rfl, at', ?_⟩
  rw [ex]
  refine ⟨_, rfl, gd, ?_⟩
  refine ⟨by show 3 ≤ sizeLine; decide, rfl, so3.nl, s1, s2, s3, ?_⟩
  refine ite2 (fun z => absurd z (by simp)) fun _ => ?_
  refine ⟨_, at_pos, by show 2 ≤ sizeLine; decide, ⟨rfl, rfl⟩, ?_⟩
  refine ⟨fun z => ?_, ?_⟩
  · have z : ((["on", "call"] : List Str).map PyData.str).any (fun e => eqF e (.str x)) = true := z
    rw [any_strs] at z
    obtain ⟨y, zz, rfl⟩ := hx (of_decide_eq_true z)
    exact ⟨_, _, _, rfl, simple_sta zz⟩
  refine ⟨rfl, rfl, p, d, k, st, s, word, rfl, at', ?_⟩
  rw [ex]
  refine ⟨_, rfl, gd, ?_⟩
  refine ⟨by show 3 ≤ sizeLine; decide, rfl, so3.nl, s1, s2, s3, ?_⟩
  refine ite2 (fun z => absurd z (by simp)) fun _ => ?_
  refine ⟨p, d, k, st, s, 0, rfl, at', p, d, k, st, s, 0, rfl, at', _, rfl, gd0, ?_⟩
  exact q _ (by show m + 3 ≤ n + 300; omega)
end
end Dr

set_option maxRecDepth 100000
set_option maxHeartbeats 3900000
namespace Dr
open PySem PySem.Spec PyProof.Rows L2 K Lf
section
variable {P : Program} {w : World} {K : PySem.W.Frag} [Tabled K] {mg : Str → Option Value} {base : Heap}
abbrev s_law : Stmt := topS 50
theorem sc_law : FnScope ["script", "k", "tape", "program", "one", "label", "act", "turn"] ["script"] (defScope s_law) := ⟨rfl, rfl, rfl, by decide +kernel, rfl, by decide +kernel, by decide +kernel⟩
theorem ok_law (B : Bs mg) (c_tape : C8.Cal P w K mg base 1 "_law_tape" (spTp K) []) (c_program : C8.Cal P w K mg base 8 "_law_program" (spT K phProgram) []) (c_right : CalG P w K mg base 6 "_law_right" (spT K phRight)) {f : Addr} {fd : FuncData} (F : Fun K "law" "law" s_law f fd) : FnG P w K mg base CX0 9 f fd ["script"] (spLaw K) := by
  refine okLaw F sc_law
    (fun cdv A outer s H E hq hr => (fss_consN (fs_forN (fi_range1 (by rfl) B.range (fa_cons (fe_max2 rfl (by rfl) B.max (fa_cons fe_int (fa_cons (fe_min2 rfl (by rfl) B.min (fa_cons fe_int (fa_cons (fe_lenC rfl (pv 0) (by rfl) B.len) fa_nil))) fa_nil))) fa_nil)) (fg_name (i := 1) sc_law.nd rfl (.inl rfl))
      (fss_tape (i := 2) (l := 0) rfl c_tape hr (by decide) (by rfl) (pv 0) (fa_cons (fv (pv 1)) fa_nil) sc_law.nd rfl (.inl rfl)
      (fss_cons (fs_set (i := 3) sc_law.nd rfl (.inl rfl) (fe_ct c_program hr (by decide) (by rfl) (pv 2) (fa_cons (foe (fo_lst (fa_cons fe_int (fa_cons fe_int (fa_cons fe_int (fa_cons fe_int (fa_cons fe_int fa_nil))))))) (fa_cons fe_int fa_nil))))
      (fss_one (fs_for (fi_tup rfl (fe_ix rfl (fv (pv 3)) fe_int)) (fg_name (i := 4) sc_law.nd rfl (.inl rfl))
      (fss_one (fs_for (fi_tup rfl (fe_ix rfl (fv (pv 4)) fe_int)) (fg_tup (n := 2) rfl rfl (fgs_cons (fg_name (i := 5) sc_law.nd rfl (.inl rfl)) (fgs_cons (fg_name (i := 6) sc_law.nd rfl (.inl rfl)) fgs_nil)))
      (fss_one (fs_for (fi_range1 (by rfl) B.range (fa_cons fe_int fa_nil)) (fg_name (i := 7) sc_law.nd rfl (.inl rfl))
      (fss_one (fs_if (ft_not (ft_val (fe_ctG c_right hq hr (by decide) (by rfl) (pv 2) (fa_cons (fv (pv 3)) (fa_cons (fv (pv 4)) (fa_cons (fe_tup (fa_cons (fe_ix rfl (fv (pv 4)) fe_int) (fa_cons (fv (pv 5)) fa_nil))) fa_nil))))))
      (fss_one (fs_ret fe_bl))
      fss_nil)) PassesOwn.never rfl)) PassesOwn.never rfl)) PassesOwn.never rfl)))) PassesOwn.never rfl)
      (fss_oneN (fs_n (fs_ret fe_bl))))) fun ns hns => ?_
  have kk : ∀ z : Int, z = (if (if (ns.length : Int) < 4 then (ns.length : Int) else 4) > 2 then (if (ns.length : Int) < 4 then (ns.length : Int) else 4) else 2) → 2 ≤ z ∧ z ≤ 4 := fun z e => by
    subst e
    split <;> (try split) <;> omega
  obtain ⟨k1, k2⟩ := kk _ rfl
  refine ⟨⟨Int.le_trans (by decide) k1, Int.lt_of_le_of_lt k2 (by decide)⟩, fun i om => ∃ u1 u2 u3 u4 u5 u6 u7, om = ⟨[some (.scr ns), u1, u2, u3, u4, u5, u6, u7], om.n⟩, ⟨_, _, _, _, _, _, _, rfl⟩, ?_, fun om _ => rfl⟩
  rintro i d om hi ⟨u1, u2, u3, u4, u5, u6, u7, ho⟩
  have il := (List.getElem?_eq_some_iff.mp hi).1
  rw [rngD_len] at il
  have i4 : i < 4 := by
    revert il
    generalize (if (if (ns.length : Int) < 4 then (ns.length : Int) else 4) > 2 then (if (ns.length : Int) < 4 then (ns.length : Int) else 4) else 2) = z at k1 k2 ⊢
    intro il
    have il : i < z.toNat := il
    omega
  rw [rngD_at il] at hi
  cases hi
  obtain ⟨vs, m0⟩ := om
  cases ho
  refine ⟨ns, rfl, hns, i, by show [PyData.int (0 + (i : Nat))] = _; rw [Int.zero_add], by omega, ?_⟩
  refine ⟨rfl, by show 5 ≤ sizeLine; decide, [1, 2, 3, 6, 31], 8, rfl, by decide, by decide, by decide, by decide, by decide, by show 0 < 400000; decide, fun p hp hw m hm => ?_⟩
  have hm : m ≤ 4000 := by have : m ≤ 0 + 4000 := hm; omega
  have few := hp.few
  refine ⟨_, at_two, fun j om => ∃ u4 u5 u6 u7 m, om = ⟨[some (.scr ns), some (.dat (.int (0 + (i : Nat)))), some .tp, some (.dat p.d), u4, u5, u6, u7], m⟩ ∧ m ≤ 4000 + 40000 * j, ⟨_, _, _, _, m, rfl, by omega⟩, ?_, ?_⟩
  · rintro j e om hj ⟨u4, u5, u6, u7, m, rfl, hm⟩
    obtain ⟨d, hd, rfl⟩ := mapAt hj
    have j3 : j < 3 := by
      have := (List.getElem?_eq_some_iff.mp hd).1
      omega
    have dm := List.mem_of_getElem? hd
    obtain ⟨h, hs, a, b, c⟩ := hp.of dm
    have few2 := c.steps.few
    refine ⟨_, atI_nat (j := 4) rfl, fun k om => ∃ u5 u6 u7 m, om = ⟨[some (.scr ns), some (.dat (.int (0 + (i : Nat)))), some .tp, some (.dat p.d), some (.dat d.d), u5, u6, u7], m⟩ ∧ m ≤ 4000 + 40000 * j + 1200 * k, ⟨_, _, _, m, rfl, by omega⟩, ?_, ?_⟩
    · rintro k e om hk ⟨u5, u6, u7, m, rfl, hm⟩
      obtain ⟨st, hst, rfl⟩ := mapAt hk
      have k30 : k < 30 := by
        have := (List.getElem?_eq_some_iff.mp hst).1
        omega
      have rl : (rngD 0 (3 : Int).toNat).length = 3 := rngD_len
      refine ⟨rfl, ⟨by decide, by decide⟩, fun t om => ∃ u7 m, om = ⟨[some (.scr ns), some (.dat (.int (0 + (i : Nat)))), some .tp, some (.dat p.d), some (.dat d.d), some (.dat (.int st.1)), some (.dat st.2.d), u7], m⟩ ∧ m ≤ 4000 + 40000 * j + 1200 * k + 300 * t, ⟨_, m, rfl, by omega⟩, ?_, ?_⟩
      · rintro t e om ht ⟨u7, m, rfl, hm⟩
        have tl : t < 3 := by
          have := (List.getElem?_eq_some_iff.mp ht).1
          rwa [rl] at this
        refine ⟨rfl, _, at_pos, by show 2 ≤ sizeLine; decide, p, d, k, st, rfl, hp, dm, hst, by show m < 700000; omega, fun m' hm' => ?_⟩
        have hm' : m' ≤ m + 300 := hm'
        exact ⟨_, m', rfl, by omega⟩
      · rintro om ⟨u7, m, rfl, hm⟩
        rw [rl] at hm
        exact ⟨_, _, _, m, rfl, by omega⟩
    · rintro om ⟨u5, u6, u7, m, rfl, hm⟩
      rw [List.length_map] at hm
      exact ⟨_, _, _, _, m, rfl, by omega⟩
  · rintro om ⟨u4, u5, u6, u7, m, rfl, hm⟩
    exact ⟨_, _, _, _, _, _, _, rfl⟩
end
end Dr

set_option maxRecDepth 100000
set_option maxHeartbeats 3900000
/-! The law's own call, where one def's table of code objects is written. -/
namespace L2
open PySem PySem.Spec PyProof.Rows
/-- told: the script, and the empty table at T -/
structure OnlyT (T : Addr) (H : Hp) : Prop where
  tab : H T = some (.tbl #[])
  rest : ∀ b, b ≠ T → H b = none ∨ ∃ o xs, H b = some (.frz o (.lst xs))
def scriptT (T a : Addr) (vs : List Value) (ns : List Int) : Hp := fun b => if b = T then some (.tbl #[]) else scriptHp a vs ns b
theorem lawGT {P : Program} {w : World} {K : PySem.W.Frag} {mg mb : Str → Option Value} {k : Nat} {fa a c T : Addr} {fd : FuncData} {x : Str} {sp : Sp} {s₁ : Shared} {vs : List Value} {ns : List Int}
    (KX : K.In s₁.heap) (hns : s₁.heap.Ns mainGlobals mg) (hb : s₁.heap.Ns builtinsNs mb) (hbb : ∀ x : Str, x ≠ "__name__" → mb x = bootBuiltins x) (hlim : s₁.heap.NoLimit) (hgen : s₁.gens = #[])
    (hT : s₁.heap.get? T = some { cls := .none, data := .fields #[] }) (nT : K.lookup T = none) (C : PySem.W.CodeHd s₁.heap c T)
    (hbm : ∃ (bm : Addr) (ob : Obj), mg "__builtins__" = some (.ref bm) ∧ bm ≠ builtinsNs ∧ s₁.heap.get? bm = some ob ∧ ob.cls = .type "module" ∧ ob.dict = some builtinsNs ∧ ob.data =
        .plain)
    (ha : s₁.heap.get? a = some { cls := .type "list", data := .seq vs.toArray }) (hi : IntsAre vs ns) (hl : ns.length ≤ sizeLine) (hr : Room k PySem.callerA)
    (F : ∀ base : Heap, K.In base → base.Ns mainGlobals mg → LamX.TabB base mg c T → FnG P w K mg base CX0 k fa fd [x] sp) (hbind : ∀ (s : Shared) (u : Value), BindsTo s fd ⟨[u], []⟩ [(x, u)])
    (hsp : ∀ H : Hp, OnlyT T H → SqL K H a (ns.map V.int) → sp [.ref a] H (fun v _ => v = .bl true) fun _ _ _ => False) :
    codeAny (model P w) PySem.callerA (.call (.ref fa) ⟨[.ref a], []⟩) (fun r s' => r = .ok (.ret (.bool true)) ∧ OldK s₁.heap s'.heap ∧ s'.os = s₁.os ∧ AllBare s'.gens) s₁ := by
  have aT : a ≠ T := fun z => by
    rw [z, hT] at ha
    have d := congrArg Obj.data (Option.some.inj ha)
    exact nomatch d
  have tT : scriptT T a vs ns T = some (.tbl #[]) := if_pos rfl
  suffices main : ∀ H : Hp, OnlyT T H → SqL K H a (ns.map V.int) → HOk P w H s₁.heap → (∀ b u, H b = some u → (b = a ∨ b = T) ∧ K.lookup b = none) →
      codeAny (model P w) PySem.callerA (.call (.ref fa) ⟨[.ref a], []⟩) (fun r s' => r = .ok (.ret (.bool true)) ∧ OldK s₁.heap s'.heap ∧ s'.os = s₁.os ∧ AllBare s'.gens) s₁ by
    cases e : K.lookup a with
    | some o =>
      have e' := KX a o e
      rw [ha] at e'
      cases e'
      have few : vs.toArray.size ≤ sizeLine := by
        rw [List.size_toArray]
        exact hi.length ▸ hl
      have only : ∀ b u, (fun b => if b = T then some (.tbl #[]) else none : Hp) b = some u → b = T ∧ u = .tbl #[] := fun b u z => by
        by_cases n : b = T
        · have z : (if b = T then some (HO.tbl #[]) else none) = some u := z
          rw [if_pos n] at z
          exact ⟨n, (Option.some.inj z).symm⟩
        · have z : (if b = T then some (HO.tbl #[]) else none) = some u := z
          rw [if_neg n] at z
          cases z
      refine main (fun b => if b = T then some (.tbl #[]) else none) ⟨if_pos rfl, fun b n => .inl (if_neg n)⟩ (.inr ⟨_, vs.toArray, _, e, rfl, rfl, rfl, few, by simpa using vals_ints hi⟩) (fun b u z => ?_) fun b u z => ?_
      · obtain ⟨rfl, rfl⟩ := only b u z
        exact hT
      · obtain ⟨rfl, _⟩ := only b u z
        exact ⟨.inr rfl, nT⟩
    | none =>
      have at_a : scriptT T a vs ns a = some (.frz { cls := .type "list", data := .seq vs.toArray } (.lst (ns.map V.int))) := (if_neg aT).trans (if_pos rfl)
      have else_ : ∀ b u, scriptT T a vs ns b = some u → b = a ∨ b = T := fun b u z => by
        by_cases n : b = T
        · exact .inr n
        · refine .inl (Classical.byContradiction fun m => ?_)
          rw [show scriptT T a vs ns b = none from (if_neg n).trans (if_neg m)] at z
          cases z
      refine main (scriptT T a vs ns) ⟨tT, fun b n => ?_⟩ (.inl (.inr ⟨_, at_a⟩)) (fun b u z => ?_) fun b u z => ?_
      · by_cases m : b = a
        · exact .inr ⟨_, _, by rw [m]; exact at_a⟩
        · exact .inl ((if_neg n).trans (if_neg m))
      · rcases else_ b u z with rfl | rfl
        · rw [at_a] at z
          cases z
          exact ⟨ha, by rw [List.length_map]; exact hl, vs, _, vals_ints hi, ha⟩
        · rw [tT] at z
          cases z
          exact hT
      · rcases else_ b u z with rfl | rfl
        · exact ⟨.inl rfl, e⟩
        · exact ⟨.inr rfl, nT⟩
  intro H hO hS hok hA
  have low : ∀ {b : Addr} {o : Obj}, s₁.heap.get? b = some o → H b = none → (hidT s₁.heap H).get? b = some o := hidT_get
  -- what is neither the script nor the table
  have off : ∀ {b : Addr} {o : Obj}, s₁.heap.get? b = some o → (∀ us n, o.data ≠ .seq us n) → (o.data ≠ .fields #[]) → H b = none := fun {b o} e n1 n2 => by
    cases q : H b with
    | none => rfl
    | some u =>
      rcases (hA b u q).1 with rfl | rfl
      · rw [ha] at e
        cases e
        exact absurd rfl (n1 _ _)
      · rw [hT] at e
        cases e
        exact absurd rfl n2
  have nsLow : ∀ {b : Addr} {m : Str → Option Value}, s₁.heap.Ns b m → (hidT s₁.heap H).Ns b m := fun {b m} ⟨o, es, ep, e, d, r⟩ =>
    ⟨o, es, ep, low e (off e (fun us n z => by rw [d] at z; cases z) fun z => by rw [d] at z; cases z), d, r⟩
  have kLow : K.In (hidT s₁.heap H) := fun b o e => low (KX b o e) (by
    cases q : H b with
    | none => rfl
    | some u =>
      rw [(hA b u q).2] at e
      cases e)
  have tb : LamX.TabB (hidT s₁.heap H) mg c T := by
    obtain ⟨bm, ob, b1, b2, b3, b4, b5, b6⟩ := hbm
    obtain ⟨o, us, file, tf, flags, tg, inF, text, tt, e1, r1, r2, r3, rest⟩ := C
    obtain ⟨om, em, pm, g1, g2, _⟩ := hns
    refine ⟨⟨o, us, file, tf, flags, tg, inF, text, tt, low e1 (off e1 (fun us n z => by rw [r2] at z; cases z) fun z => ?_), r1, r2, r3, rest⟩, ⟨bm, ob, b1, b2, fun z => ?_, fun z => ?_, low b3 (off b3 (fun us n z => by rw [b6] at z; cases z) fun z => by rw [b6] at z; cases z), b4, b5, b6⟩, fun z => ?_⟩
    · rw [r2] at z
      cases z
      exact nomatch r3
    · rw [z, g1] at b3
      cases b3
      rw [g2] at b6
      cases b6
    · rw [z, hT] at b3
      cases b3
      cases b6
    · rw [z, hT] at g1
      cases g1
      cases g2
  obtain ⟨mc, l1, l2⟩ := hlim
  have e0 : Env0 P w K mg (hidT s₁.heap H) PySem.callerA [] s₁ H :=
    ⟨by rfl, ⟨kLow, nsLow hns, ⟨mb, nsLow hb, hbb⟩, mc, nsLow l1, l2⟩, fun b o e => of_hidT e, Nat.le_of_eq (hidT_size _ _), trivial, fun b z => (by simpa [frs] using z : False).elim, hok, .of_eq hgen⟩
  refine codeAny_mono ((F _ kLow (nsLow hns) tb).run PySem.callerA [] s₁ H ⟨[.ref a], []⟩ [.ref a] [.ref a] _ _ (by rfl) hr e0 (hbind s₁ (.ref a)) (.cons rfl .nil) (hsp H hO hS)) fun r s' h => ?_
  match r, h with
  | .error _, h => exact False.elim h
  | .ok .next, h => exact False.elim h
  | .ok .brk, h => exact False.elim h
  | .ok .cont, h => exact False.elim h
  | .ok (.ret u), ⟨v, H', os, bare, un, hok', r', q⟩ =>
    cases (show v = V.bl true from q)
    cases (show u = Value.bool true from r')
    have others : ∀ b o, b ≠ T → s₁.heap.get? b = some o → s'.heap.get? b = some o := fun b o n e => by
      rcases hO.rest b n with z | ⟨ob, xs, z⟩
      · exact un.keep b o e z (fun m => (by simpa [frs] using m : False).elim) fun m => (by simpa using m : False).elim
      · have e1 := (hok b _ z).1
        rw [e] at e1
        cases e1
        exact (hok' b _ (un.frzs b _ _ z)).1
    obtain ⟨more, hm⟩ := un.tbls T #[] hO.tab
    have hm' : s'.heap.get? T = some { cls := .none, data := .fields (#[] ++ more) } := hok' T _ hm
    refine ⟨rfl, ⟨fun b o e => ?_, fun b o e => ?_⟩, os,
        bare⟩
    · by_cases n : b = T
      · rw [n] at e ⊢
        rw [hT] at e
        cases e
        exact .inr (.inl ⟨(C.tab hT).isCodeTable, rfl, #[], more, rfl, hm'⟩)
      · exact .inl (others b o n e)
    · by_cases n : b = T
      · rw [n]
        exact ⟨_, hm'⟩
      · exact ⟨o, others b o n e⟩
/-- what is known of the law, its helper z having the table -/
def LawT (l : PySem.W.OpenLaw) (w : World) (K : PySem.W.Frag) (k n : Nat) (x z : Str) (mg : Str → Option Value) (fa : Addr) : Prop :=
  ∃ (fd fz : FuncData) (f c T : Addr) (o : Obj) (e : Value) (dd : Option Addr) (us : Array Value) (sl : Array (Option Value)) (sp : Sp), mg z = some (.ref f) ∧ K.lookup f = some o ∧ o.data = .func fz ∧ fz.code = .ref c ∧ K.lookup c = some ⟨e, dd, .fields us, sl⟩ ∧ us[11]? = some (.ref T) ∧ K.lookup T = none ∧
    (∀ (s : Shared) (u : Value), BindsTo s fd ⟨[u], []⟩ [(x, u)]) ∧ (∀ (H : Hp) (a : Addr) (ns : List Int), ns.length ≤ n → OnlyT T H → SqL K H a (ns.map V.int) → sp [.ref a] H (fun v _ => v = .bl true) fun _ _ _ => False) ∧
    ∀ base : Heap, K.In base → base.Ns mainGlobals mg → LamX.TabB base mg c T → FnG l.prog w K mg base CX0 k fa fd [x] sp
theorem walkGT {l : PySem.W.OpenLaw} {n k : Nat} {q : Program} {loose : List Str} {XP : (Str → Option Value) → Heap → Prop} {YP : World → Heap → Prop} {d : PySem.DefRec} {K : Params → PySem.W.Frag} {x z : Str}
    (hn : l.most = some n) (hn2 : n ≤ sizeLine) (hdf : d.params.defaults = []) (hr : Room k PySem.callerA) (hrec : ((recsOf q).any fun e => e.name == z) = true) (hY : ∀ (w : World) (h : Heap), YP w h → (K w.params).In h)
    (F : ∀ (w : World) (mg : Str → Option Value) (fa : Addr) (h : Heap), (K w.params).In h → h.Ns mainGlobals mg → mg d.name = some (.ref fa) → LawT l w (K w.params) k n x z mg fa) :
    PySem.W.WalkO q loose XP YP l.row.toRowW d [] fun f vs => PySem.call f vs := by
  refine Att.attach_call hn hdf fun w s₀ s₁ mg mb fa o pm cd doc a vs ns G Y _ _ _ hmg hobj hints hlen hg => ?_
  have KX := hY w _ Y
  obtain ⟨fd, fz, f, c, T, o1, e, dd, us, sl, sp, z1, z2, z3, z4, z5, z6, z7, hb, hsp, hF⟩ := F w mg fa _ KX G.T.g hmg
  rcases List.any_eq_true.mp hrec with ⟨dL, hm, hn1⟩
  rcases G.T.tab dL hm with ⟨a', o', fd', c', P', h1, h2, h3, h4, h5, h6⟩
  rw [beq_iff_eq.mp hn1, z1] at h1
  cases h1
  have g1 := KX _ _ z2
  rw [g1] at h2
  cases h2
  rw [z3] at h3
  cases h3
  rw [z4] at h4
  cases h4
  have h7 := h6
  rcases h6 with ⟨⟨oc, vc, e1, _, e3, e4⟩, hP⟩
  have g2 := KX _ _ z5
  rw [g2] at e1
  cases e1
  cases e3
  rw [z6] at e4
  cases e4
  exact lawGT KX G.T.g G.T.b G.T.builtins G.T.nolimit hg hP z7 (PySem.W.CodeHd.of h5 h7) G.T.bmain hobj hints (Nat.le_trans hlen hn2) hr hF hb fun H hO hS => hsp H a ns hlen hO hS
theorem lookup_off {K : PySem.W.Frag} {T : Addr} (h : T ∉ K.map (·.1)) : K.lookup T = none := by
  induction K with
  | nil => rfl
  | cons p r ih =>
    rw [List.map_cons, List.mem_cons, not_or] at h
    obtain ⟨a, o⟩ := p
    show List.lookup T ((a, o) :: r) = none
    rw [List.lookup_cons, show (T == a) = false from by simpa using h.1]
    exact ih h.2
theorem walkGTm {l : PySem.W.OpenLaw} {n k : Nat} {q : Program} {loose : List Str} {XP : (Str → Option Value) → Heap → Prop} {d : PySem.DefRec} {K : Params → PySem.W.Frag} {as ts : List Addr} {e : ∀ P, as = (K P).map (·.1)} {x z : Str}
    (hn : l.most = some n) (hn2 : n ≤ sizeLine) (hdf : d.params.defaults = []) (hr : Room k PySem.callerA) (hrec : ((recsOf q).any fun e => e.name == z) = true)
    (F : ∀ (w : World) (mg : Str → Option Value) (fa : Addr) (h : Heap), (K w.params).In h → h.Ns mainGlobals mg → mg d.name = some (.ref fa) → (∀ T, T ∉ as → (K w.params).lookup T = none) → LawT l w (K w.params) k n x z mg fa) :
    PySem.W.WalkO q loose XP (PySem.W.kmHook K as e ts).says l.row.toRowW d [] fun f vs => PySem.call f vs :=
  walkGT hn hn2 hdf hr hrec (fun w h Y => PySem.W.km_in_of Y) fun w mg fa h KX G hm => F w mg fa h KX G hm fun T hT => lookup_off (by rw [← e w.params]; exact hT)
end L2

set_option maxRecDepth 100000
set_option maxHeartbeats 3900000
namespace Lf
open PySem PySem.Spec PyProof.Rows L2 K
/-! # out of the written part -/
/-- the entries of a written table of texts -/
inductive TabEs : List DictEntry → List (Str × Str) → Prop
  | nil : TabEs [] []
  | cons {e : DictEntry} {r : List DictEntry} {k v : Str} {l : List (Str × Str)} : (∃ t, e.key = .str k t) → (∃ u, e.val = .str v u) → TabEs r l → TabEs (e :: r) ((k, v) :: l)
theorem TabEs.refs {es : List DictEntry} {l : List (Str × Str)} (h : TabEs es l) : es.any (·.refKey) = false := by
  induction h with
  | nil => rfl
  | cons h1 _ _ ih =>
    obtain ⟨t, e⟩ := h1
    rw [List.any_cons, ih]
    unfold DictEntry.refKey
    rw [e]
    rfl
theorem TabEs.find {es : List DictEntry} {l : List (Str × Str)} (h : TabEs es l) (z : Str) : (es.find? (·.key.isStr z) = none ∧ l.find? (fun p => z == p.1) = none) ∨ ∃ e v u, es.find? (·.key.isStr z) = some e ∧ e.val = .str v u ∧ (l.find? fun p => z == p.1).map (·.2) = some v := by
  induction h with
  | nil => exact .inl ⟨rfl,
      rfl⟩
  | @cons e r k v l h1 h2 _ ih =>
    obtain ⟨t, e1⟩ := h1
    obtain ⟨u, e2⟩ := h2
    rw [List.find?_cons, List.find?_cons]
    have q : e.key.isStr z = (z == k) := by
      rw [e1]
      show (k == z) = (z == k)
      exact Bool.beq_comm
    rw [q]
    cases b : z == k with
    | true => exact .inr ⟨e, v, u, rfl, e2, rfl⟩
    | false => simpa [b] using ih
theorem ktab_mk {K : PySem.W.Frag} {w : World} {mg : Str → Option Value} {h : Heap} {x : Str} {a : Addr} {es : Array DictEntry} {n : Nat} {l : List (Str × Str)} (X : K.In h) (G : h.Ns mainGlobals mg) (hS : PySem.W.nsIn K mainGlobals x = some (some (.ref a)))
    (lS : K.lookup a = some ⟨.type "dict", none, .dict es n, #[]⟩) (kS : PySem.W.KeysLit w.params es.toList) (low : (a == sysModules) = false) (te : TabEs es.toList l) : KTab K w mg x fun z => ((l.find? fun p => z == p.1).map (·.2)).map .str := by
  refine ⟨a, es, n, PySem.W.mg_of X G hS, ⟨lS, kS, low⟩, fun z => ?_⟩
  have e0 : PySem.W.nsIn K a z = match es.toList.find? (·.key.isStr z) with
      | some e => some (some e.val)
      | none => if es.toList.any (·.refKey) then none else some none := by
    unfold PySem.W.nsIn
    rw [lS]
    rfl
  rcases te.find z with ⟨h1, h2⟩ | ⟨e, v, u, h1, h2, h3⟩
  · refine ⟨none, ?_, ?_⟩
    · rw [e0, h1, te.refs]
      rfl
    · rw [h2]
      rfl
  · refine ⟨some e.val, ?_, ?_⟩
    · rw [e0, h1]
    · rw [h3]
      exact ⟨_, .str v, rfl, ⟨u, h2⟩, fun G => .str v⟩
/-- a def of the module as a call's rules want it -/
theorem cal_mk {P : Program} {w : World} {K : PySem.W.Frag} {mg : Str → Option Value} {base : Heap} {x : Str} {st : Stmt} {f : Addr} {fd : FuncData} {ps : List Str} {k : Nat} {sp : Sp} (F : Fun K x x st f fd) (g : mg x = some (.ref f)) (b : Binds K fd ps []) (ok : FnOk P w K mg base CX0 k f fd ps sp) : C8.Cal P w K mg base k x sp [] := ⟨f, fd, ps, [], ok, g, F.kp, b, .nil⟩
end Lf

set_option maxRecDepth 100000
set_option maxHeartbeats 3900000
namespace Lf
open PySem PySem.Spec PyProof.Rows L2 K
/-! # written tables whose worths are more than texts -/
inductive TabVs (K : PySem.W.Frag) : List DictEntry → List (Str × PyData) → Prop
  | nil : TabVs K [] []
  | cons {e : DictEntry} {r : List DictEntry} {k : Str} {d : PyData} {l : List (Str × PyData)} : (∃ t, e.key = .str k t) → (∃ v, RelV v e.val ∧ ∀ G : Hp, Rp K G v d) → TabVs K r l → TabVs K (e :: r) ((k, d) :: l)
theorem TabVs.refs {K : PySem.W.Frag} {es : List DictEntry} {l : List (Str × PyData)} (h : TabVs K es l) : es.any (·.refKey) = false := by
  induction h with
  | nil => rfl
  | cons h1 _ _ ih =>
    obtain ⟨t, e⟩ := h1
    rw [List.any_cons, ih]
    unfold DictEntry.refKey
    rw [e]
    rfl
theorem TabVs.find {K : PySem.W.Frag} {es : List DictEntry} {l : List (Str × PyData)} (h : TabVs K es l) (z : Str) : (es.find? (·.key.isStr z) = none ∧ l.find? (fun p => z == p.1) = none) ∨ ∃ e d v, es.find? (·.key.isStr z) = some e ∧ RelV v e.val ∧ (∀ G : Hp, Rp K G v d) ∧ (l.find? fun p => z == p.1).map (·.2) = some d := by
  induction h with
  | nil => exact .inl ⟨rfl,
      rfl⟩
  | @cons e r k d l h1 h2 _ ih =>
    obtain ⟨t, e1⟩ := h1
    obtain ⟨v, e2, e3⟩ := h2
    rw [List.find?_cons, List.find?_cons]
    have q : e.key.isStr z = (z == k) := by
      rw [e1]
      show (k == z) = (z == k)
      exact Bool.beq_comm
    rw [q]
    cases b : z == k with
    | true => exact .inr ⟨e, d, v, rfl, e2, e3, rfl⟩
    | false => simpa [b] using ih
theorem ktab_mkV {K : PySem.W.Frag} {w : World} {mg : Str → Option Value} {h : Heap} {x : Str} {a : Addr} {es : Array DictEntry} {n : Nat} {l : List (Str × PyData)} (X : K.In h) (G : h.Ns mainGlobals mg) (hS : PySem.W.nsIn K mainGlobals x = some (some (.ref a)))
    (lS : K.lookup a = some ⟨.type "dict", none, .dict es n, #[]⟩) (kS : PySem.W.KeysLit w.params es.toList) (low : (a == sysModules) = false) (te : TabVs K es.toList l) : KTab K w mg x fun z => (l.find? fun p => z == p.1).map (·.2) := by
  refine ⟨a, es, n, PySem.W.mg_of X G hS, ⟨lS, kS, low⟩, fun z => ?_⟩
  have e0 : PySem.W.nsIn K a z = match es.toList.find? (·.key.isStr z) with
      | some e => some (some e.val)
      | none => if es.toList.any (·.refKey) then none else some none := by
    unfold PySem.W.nsIn
    rw [lS]
    rfl
  rcases te.find z with ⟨h1, h2⟩ | ⟨e, d, v, h1, h2, h3, h4⟩
  · refine ⟨none, ?_, ?_⟩
    · rw [e0, h1, te.refs]
      rfl
    · rw [h2]
      rfl
  · refine ⟨some e.val, ?_, ?_⟩
    · rw [e0, h1]
    · rw [h4]
      exact ⟨_, v, rfl, h2, h3⟩
/-- a written tuple of texts -/
theorem tupT_mk {K : PySem.W.Frag} {a : Addr} {oc : Value} {od : Option Addr} {its : Array Value} {n : Nat} {osl : Array (Option Value)} {rs : List Str} (l : K.lookup a = some ⟨oc, od, .seq its n, osl⟩) (c : oc = .type "tuple") (few : its.size ≤ 10) (h : Vals (rs.map V.str) its.toList) : ∃ v, RelV v (.ref a) ∧ ∀ G : Hp, Rp K G v (.tuple (rs.map .str)) := by
  refine ⟨.ref a, rfl, fun G => .tup (.inr ⟨_, its, n, l, c, rfl, Nat.le_trans few (by decide), h⟩) ?_⟩
  clear h
  induction rs with
  | nil => exact .nil
  | cons x r ih => exact .cons (.str x) ih
end Lf

set_option maxRecDepth 100000
set_option maxHeartbeats 3900000
namespace Lf
open PySem PySem.Spec PyProof.Rows L2 K
/-! # defs with defaults, out of the written part -/
section
variable {K : PySem.W.Frag} {x qual : Str} {st : Stmt} {f : Addr} {fd : FuncData} {ps : List Str}
theorem dfl_mk {T e : Addr} {oc oc2 : Value} {od od2 an : Option Addr} {osl osl2 : Array (Option Value)} {kV doc pm cdv ct : Value} {n : Nat} (l : K.lookup f = some ⟨oc, od, .func (PySem.W.fnOf x qual (defArgs st) (defBody st) (defScope st) (.ref T) kV doc pm an cdv ct), osl⟩)
    (c : PySem.W.codeIn K cdv qual = true) (k : PySem.W.keepIn K (.ref f) = true) (lT : K.lookup T = some ⟨oc2, od2, .seq #[.ref e] n, osl2⟩) : FunDf K x qual st [.ref e] [] f (PySem.W.fnOf x qual (defArgs st) (defBody st) (defScope st) (.ref T) kV doc pm an cdv ct) :=
  ⟨⟨oc, od, .ref T, kV, doc, pm, an, cdv, ct, osl, rfl, l, c, .inr ⟨by simp, T, _, [.ref e], n, rfl, lT, rfl, .cons rfl .nil⟩, .inl rfl⟩, k⟩
theorem nil_mk {e : Addr} {oc : Value} {od : Option Addr} {n : Nat} {osl : Array (Option Value)} (l : K.lookup e = some ⟨oc, od, .seq #[] n, osl⟩) (c : oc = .type "tuple") : ∀ G : Hp, Rp K G (.ref e) (.tuple []) := fun G => .tup (.inr ⟨_, #[], n, l, c, rfl, by decide, .nil⟩) .nil
theorem kwi_mk {D : Addr} {y : Str} {i : Int} {t : Tok} {oc : Value} {od an : Option Addr} {osl : Array (Option Value)} {doc pm cdv ct : Value} (l : K.lookup f = some ⟨oc, od, .func (PySem.W.fnOf x qual (defArgs st) (defBody st) (defScope st) .none (.ref D) doc pm an cdv ct), osl⟩)
    (c : PySem.W.codeIn K cdv qual = true) (k : PySem.W.keepIn K (.ref f) = true) (lD : PySem.W.nsIn K D y = some (some (.int i t))) : FunDf K x qual st [] [(y, .int i)] f (PySem.W.fnOf x qual (defArgs st) (defBody st) (defScope st) .none (.ref D) doc pm an cdv ct) :=
  ⟨⟨oc, od, .none, .ref D, doc, pm, an, cdv, ct, osl, rfl, l, c, .inl ⟨rfl, rfl⟩, .inr ⟨D, rfl, fun q hq => by
    rw [List.mem_singleton.mp hq]
    exact ⟨_, lD, t, rfl⟩⟩⟩, k⟩
theorem kbn0_of {kws : List (Str × V)} (F : FunDf K x qual st [] kws f fd) (hk : kws ≠ []) (n : Nat) (ks : List Str) (g : {α : Type} → List α → List α → List α)
    (hrel : ∀ {vs : List V} {us : List Value} {zs : List V} {ws : List Value}, Vals vs us → Vals zs ws → Vals (g vs zs) (g us ws))
    (h : ∀ (D : Addr) (doc pm : Value) (an : Option Addr) (cdv ct : Value) (us ws : List Value), us.length = n → ws.length = ks.length → bindArgs (PySem.W.fnOf x qual (defArgs st) (defBody st) (defScope st) .none (.ref D) doc pm an cdv ct) ⟨us, ks.zip ws⟩ = pure (ps.zip (g us ws))) :
    KBn K fd ps n ks (fun us ws => g us ws) (fun us ws => g us ws) := by
  rcases F.ex with ⟨oc, od, dV, kV, doc, pm, an, cdv, ct, osl, rfl, lk, hcd, hD, hK⟩
  obtain ⟨_, rfl⟩ | ⟨e, _⟩ := hD
  · obtain e | ⟨D, rfl, hq⟩ := hK
    · exact absurd e hk
    · exact ⟨fun s us ws _ l1 l2 => .of_eq (h D doc pm an cdv ct us ws l1 l2), fun a b => hrel a b⟩
  · exact absurd rfl e
end
end Lf

set_option maxRecDepth 100000
set_option maxHeartbeats 3900000
namespace Dr
open PySem PySem.Spec PyProof.Rows L2 K Lf
/-! # out of the written part -/
theorem all_mk {K : PySem.W.Frag} {h : Heap} {mg : Str → Option Value} {w : World} {fa fL : Addr} {fdL : FuncData} {f0 f1 f2 f3 f4 f5 f6 f7 f8 f9 f10 f11 f12 f13 f14 f15 f16 f17 f18 f19 f20 f21 f22 f23 f24 f25 f26 f27 f28 f29 f30 f31 f32 f33 f34 f35 f36 f37 f38 f39 f40 f41 f42 e32 : Addr} {fd0 fd1 fd2 fd3 fd4 fd5 fd6 fd7 fd8 fd9 fd10 fd11 fd12 fd13 fd14 fd15 fd16 fd17 fd18 fd19 fd20 fd21 fd22 fd23 fd24 fd25 fd26 fd27 fd28 fd29 fd30 fd31 fd32 fd33 fd34 fd35 fd36 fd37 fd38 fd39 fd40 fd41 fd42 : FuncData} (X : K.In h) (G : h.Ns mainGlobals mg) (hfa : mg "law" = some (.ref fa))
    (blen : PySem.W.nsIn K mainGlobals "len" = some none) (brange : PySem.W.nsIn K mainGlobals "range" = some none) (blist : PySem.W.nsIn K mainGlobals "list" = some none) (btuple : PySem.W.nsIn K mainGlobals "tuple" = some none) (bint : PySem.W.nsIn K mainGlobals "int" = some none) (bstr : PySem.W.nsIn K mainGlobals "str" = some none) (bdict : PySem.W.nsIn K mainGlobals "dict" = some none) (bisinstance : PySem.W.nsIn K mainGlobals "isinstance" = some none) (bsorted : PySem.W.nsIn K mainGlobals "sorted" = some none) (bset : PySem.W.nsIn K mainGlobals "set" = some none) (bzip : PySem.W.nsIn K mainGlobals "zip" = some none) (benumerate : PySem.W.nsIn K mainGlobals "enumerate" = some none) (brepr : PySem.W.nsIn K mainGlobals "repr" = some none) (bmin : PySem.W.nsIn K mainGlobals "min" = some none) (bmax : PySem.W.nsIn K mainGlobals "max" = some none) (bany : PySem.W.nsIn K mainGlobals "any" = some none) (ball : PySem.W.nsIn K mainGlobals "all" = some none) (bbool : PySem.W.nsIn K mainGlobals "bool" = some none)
    (a0 : PySem.W.nsIn K mainGlobals "_law_tape" = some (some (.ref f0))) (F0 : Fun K "_law_tape" "_law_tape" s_law_tape f0 fd0)
    (a1 : PySem.W.nsIn K mainGlobals "_law_draw" = some (some (.ref f1))) (F1 : Fun K "_law_draw" "_law_draw" s_law_draw f1 fd1)
    (a2 : PySem.W.nsIn K mainGlobals "_law_pick" = some (some (.ref f2))) (F2 : Fun K "_law_pick" "_law_pick" s_law_pick f2 fd2)
    (a3 : PySem.W.nsIn K mainGlobals "_law_a_word" = some (some (.ref f3))) (F3 : Fun K "_law_a_word" "_law_a_word" s_law_a_word f3 fd3)
    (a4 : PySem.W.nsIn K mainGlobals "_law_numbers" = some (some (.ref f4))) (F4 : Fun K "_law_numbers" "_law_numbers" s_law_numbers f4 fd4)
    (a5 : PySem.W.nsIn K mainGlobals "_law_a_side" = some (some (.ref f5))) (F5 : Fun K "_law_a_side" "_law_a_side" s_law_a_side f5 fd5)
    (a6 : PySem.W.nsIn K mainGlobals "_law_test" = some (some (.ref f6))) (F6 : Fun K "_law_test" "_law_test" s_law_test f6 fd6)
    (a7 : PySem.W.nsIn K mainGlobals "_law_kind" = some (some (.ref f7))) (F7 : Fun K "_law_kind" "_law_kind" s_law_kind f7 fd7)
    (a8 : PySem.W.nsIn K mainGlobals "_law_call" = some (some (.ref f8))) (F8 : Fun K "_law_call" "_law_call" s_law_call f8 fd8)
    (a9 : PySem.W.nsIn K mainGlobals "_law_row_act" = some (some (.ref f9))) (F9 : Fun K "_law_row_act" "_law_row_act" s_law_row_act f9 fd9)
    (a10 : PySem.W.nsIn K mainGlobals "_law_finger_act" = some (some (.ref f10))) (F10 : Fun K "_law_finger_act" "_law_finger_act" s_law_finger_act f10 fd10)
    (a11 : PySem.W.nsIn K mainGlobals "_law_act" = some (some (.ref f11))) (F11 : Fun K "_law_act" "_law_act" s_law_act f11 fd11)
    (a12 : PySem.W.nsIn K mainGlobals "_law_loop" = some (some (.ref f12))) (F12 : Fun K "_law_loop" "_law_loop" s_law_loop f12 fd12)
    (a13 : PySem.W.nsIn K mainGlobals "_law_steps" = some (some (.ref f13))) (F13 : Fun K "_law_steps" "_law_steps" s_law_steps f13 fd13)
    (a14 : PySem.W.nsIn K mainGlobals "_law_head" = some (some (.ref f14))) (F14 : Fun K "_law_head" "_law_head" s_law_head f14 fd14)
    (a15 : PySem.W.nsIn K mainGlobals "_law_program" = some (some (.ref f15))) (F15 : Fun K "_law_program" "_law_program" s_law_program f15 fd15)
    (a16 : PySem.W.nsIn K mainGlobals "def_at" = some (some (.ref f16))) (F16 : Fun K "def_at" "def_at" s_def_at f16 fd16)
    (a17 : PySem.W.nsIn K mainGlobals "_number_of" = some (some (.ref f17))) (F17 : Fun K "_number_of" "_number_of" s_number_of f17 fd17)
    (a18 : PySem.W.nsIn K mainGlobals "act_at" = some (some (.ref f18))) (F18 : Fun K "act_at" "act_at" s_act_at f18 fd18)
    (a19 : PySem.W.nsIn K mainGlobals "is_whole" = some (some (.ref f19))) (F19 : Fun K "is_whole" "is_whole" s_is_whole f19 fd19)
    (a20 : PySem.W.nsIn K mainGlobals "is_word" = some (some (.ref f20))) (F20 : Fun K "is_word" "is_word" s_is_word f20 fd20)
    (a21 : PySem.W.nsIn K mainGlobals "_is_true" = some (some (.ref f21))) (F21 : Fun K "_is_true" "_is_true" s_is_true f21 fd21)
    (a22 : PySem.W.nsIn K mainGlobals "sum_of" = some (some (.ref f22))) (F22 : Fun K "sum_of" "sum_of" s_sum_of f22 fd22)
    (a23 : PySem.W.nsIn K mainGlobals "_law_is_so" = some (some (.ref f23))) (F23 : Fun K "_law_is_so" "_law_is_so" s_law_is_so f23 fd23)
    (a24 : PySem.W.nsIn K mainGlobals "_result" = some (some (.ref f24))) (F24 : Fun K "_result" "_result" s_result f24 fd24)
    (a25 : PySem.W.nsIn K mainGlobals "_law_sum" = some (some (.ref f25))) (F25 : Fun K "_law_sum" "_law_sum" s_law_sum f25 fd25)
    (a26 : PySem.W.nsIn K mainGlobals "_fault" = some (some (.ref f26))) (F26 : Fun K "_fault" "_fault" s_fault f26 fd26)
    (a27 : PySem.W.nsIn K mainGlobals "_made" = some (some (.ref f27))) (F27 : Fun K "_made" "_made" s_made f27 fd27)
    (a28 : PySem.W.nsIn K mainGlobals "next_place" = some (some (.ref f28))) (F28 : Fun K "next_place" "next_place" s_next_place f28 fd28)
    (a29 : PySem.W.nsIn K mainGlobals "_changed" = some (some (.ref f29))) (F29 : Fun K "_changed" "_changed" s_changed f29 fd29)
    (a30 : PySem.W.nsIn K mainGlobals "names_in" = some (some (.ref f30))) (F30 : Fun K "names_in" "names_in" s_names_in f30 fd30)
    (a31 : PySem.W.nsIn K mainGlobals "names_of" = some (some (.ref f31))) (F31 : Fun K "names_of" "names_of" s_names_of f31 fd31)
    (a32 : PySem.W.nsIn K mainGlobals "beginning" = some (some (.ref f32))) (F32 : FunDf K "beginning" "beginning" s_beginning [.ref e32] [] f32 fd32)
    (a33 : PySem.W.nsIn K mainGlobals "_law_def" = some (some (.ref f33))) (F33 : Fun K "_law_def" "_law_def" s_law_def f33 fd33)
    (a34 : PySem.W.nsIn K mainGlobals "_law_all_names" = some (some (.ref f34))) (F34 : Fun K "_law_all_names" "_law_all_names" s_law_all_names f34 fd34)
    (a35 : PySem.W.nsIn K mainGlobals "_law_first_state" = some (some (.ref f35))) (F35 : Fun K "_law_first_state" "_law_first_state" s_law_first_state f35 fd35)
    (a36 : PySem.W.nsIn K mainGlobals "_law_a_state" = some (some (.ref f36))) (F36 : Fun K "_law_a_state" "_law_a_state" s_law_a_state f36 fd36)
    (a37 : PySem.W.nsIn K mainGlobals "one_step" = some (some (.ref f37))) (F37 : FunDf K "one_step" "one_step" s_one_step [] [("word", .int 0)] f37 fd37)
    (a38 : PySem.W.nsIn K mainGlobals "_law_cells" = some (some (.ref f38))) (F38 : Fun K "_law_cells" "_law_cells" s_law_cells f38 fd38)
    (a39 : PySem.W.nsIn K mainGlobals "_law_change" = some (some (.ref f39))) (F39 : Fun K "_law_change" "_law_change" s_law_change f39 fd39)
    (a40 : PySem.W.nsIn K mainGlobals "_law_due" = some (some (.ref f40))) (F40 : Fun K "_law_due" "_law_due" s_law_due f40 fd40)
    (a41 : PySem.W.nsIn K mainGlobals "_law_same" = some (some (.ref f41))) (F41 : Fun K "_law_same" "_law_same" s_law_same f41 fd41)
    (a42 : PySem.W.nsIn K mainGlobals "_law_right" = some (some (.ref f42))) (F42 : Fun K "_law_right" "_law_right" s_law_right f42 fd42)
    (SO : KTab K w mg "SORTS" sortsD)
    (aL : PySem.W.nsIn K mainGlobals "law" = some (some (.ref fL))) (FL : Fun K "law" "law" s_law fL fdL) :
    ∃ fd : FuncData, (∀ (s : Shared) (u : Value), BindsTo s fd ⟨[u], []⟩ [("script", u)]) ∧ ∀ base : Heap, K.In base → base.Ns mainGlobals mg → FnG PySem.Challenge.rw_withinall_k09_one_step.prog w K mg base CX0 9 fa fd ["script"] (@spLaw K ⟨[]⟩) := by
  cases hfa.symm.trans (PySem.W.mg_of X G aL)
  have g := fun {y : Str} {v : Value} (e : PySem.W.nsIn K mainGlobals y = some (some v)) => PySem.W.mg_of X G e
  have o := fun {y : Str} (e : PySem.W.nsIn K mainGlobals y = some none) => PySem.W.mg_none_of X G e
  have B : Bs mg := ⟨o blen, o brange, o blist, o btuple, o bint, o bstr, o bdict, o bisinstance, o bsorted, o bset, o bzip, o benumerate, o brepr, o bmin, o bmax, o bany, o ball, o bbool⟩
  letI tbl : Tabled K := ⟨[]⟩
  refine ⟨fdL, fun s u => ?_, fun base _ _ => ?_⟩
  · obtain ⟨_, _, _, _, _, _, _, _, _, rfl, _, _⟩ := FL.ex
    exact .of_eq rfl
  have ok0 := ok_tape F0 B.len (P := PySem.Challenge.rw_withinall_k09_one_step.prog) (w := w) (base := base) (mg := mg)
  have c_tape := cal_mk F0 (g a0) (F0.binds fun _ _ _ _ _ _ us hl => match us, hl with | [_, _], _ => rfl) ok0
  have ok1 := draw_T (ok_draw F1 (P := PySem.Challenge.rw_withinall_k09_one_step.prog) (w := w) (base := base) (mg := mg))
  have c_draw := cal_mk F1 (g a1) (F1.binds fun _ _ _ _ _ _ us hl => match us, hl with | [_, _], _ => rfl) ok1
  have ok2 := ok_pick B c_draw F2 (P := PySem.Challenge.rw_withinall_k09_one_step.prog) (w := w) (base := base) (mg := mg)
  have c_pick := cal_mk F2 (g a2) (F2.binds fun _ _ _ _ _ _ us hl => match us, hl with | [_, _], _ => rfl) ok2
  have ok3 := ok_word c_draw c_pick F3 (P := PySem.Challenge.rw_withinall_k09_one_step.prog) (w := w) (base := base) (mg := mg)
  have c_a_word := cal_mk F3 (g a3) (F3.binds fun _ _ _ _ _ _ us hl => match us, hl with | [_, _], _ => rfl) ok3
  have ok4 := ok_numbers F4 (P := PySem.Challenge.rw_withinall_k09_one_step.prog) (w := w) (base := base) (mg := mg)
  have c_numbers := cal_mk F4 (g a4) (F4.binds fun _ _ _ _ _ _ us hl => match us, hl with | [_], _ => rfl) ok4
  have ok5 := ok_side c_pick c_a_word c_numbers F5 (P := PySem.Challenge.rw_withinall_k09_one_step.prog) (w := w) (base := base) (mg := mg)
  have c_a_side := cal_mk F5 (g a5) (F5.binds fun _ _ _ _ _ _ us hl => match us, hl with | [_, _, _], _ => rfl) ok5
  have ok6 := ok_test c_pick c_a_side F6 (P := PySem.Challenge.rw_withinall_k09_one_step.prog) (w := w) (base := base) (mg := mg)
  have c_test := cal_mk F6 (g a6) (F6.binds fun _ _ _ _ _ _ us hl => match us, hl with | [_, _, _], _ => rfl) ok6
  have ok7 := ok_kind F7 (P := PySem.Challenge.rw_withinall_k09_one_step.prog) (w := w) (base := base) (mg := mg)
  have c_kind := cal_mk F7 (g a7) (F7.binds fun _ _ _ _ _ _ us hl => match us, hl with | [_, _], _ => rfl) ok7
  have ok8 := ok_call B c_pick c_numbers c_kind F8 (P := PySem.Challenge.rw_withinall_k09_one_step.prog) (w := w) (base := base) (mg := mg)
  have c_call := cal_mk F8 (g a8) (F8.binds fun _ _ _ _ _ _ us hl => match us, hl with | [_, _, _], _ => rfl) ok8
  have ok9 := ok_row c_draw c_pick c_numbers F9 (P := PySem.Challenge.rw_withinall_k09_one_step.prog) (w := w) (base := base) (mg := mg)
  have c_row_act := cal_mk F9 (g a9) (F9.binds fun _ _ _ _ _ _ us hl => match us, hl with | [_, _, _], _ => rfl) ok9
  have ok10 := ok_finger c_draw c_pick c_a_word F10 (P := PySem.Challenge.rw_withinall_k09_one_step.prog) (w := w) (base := base) (mg := mg)
  have c_finger_act := cal_mk F10 (g a10) (F10.binds fun _ _ _ _ _ _ us hl => match us, hl with | [_, _, _], _ => rfl) ok10
  have ok11 := ok_act B c_draw c_pick c_a_word c_numbers c_test c_call c_row_act c_finger_act F11 (P := PySem.Challenge.rw_withinall_k09_one_step.prog) (w := w) (base := base) (mg := mg)
  have c_act := cal_mk F11 (g a11) (F11.binds fun _ _ _ _ _ _ us hl => match us, hl with | [_, _, _, _], _ => rfl) ok11
  have ok12 := ok_loop c_draw c_pick F12 (P := PySem.Challenge.rw_withinall_k09_one_step.prog) (w := w) (base := base) (mg := mg)
  have c_loop := cal_mk F12 (g a12) (F12.binds fun _ _ _ _ _ _ us hl => match us, hl with | [_, _, _], _ => rfl) ok12
  have ok13 := ok_steps B c_draw c_pick c_numbers c_loop c_act F13 (P := PySem.Challenge.rw_withinall_k09_one_step.prog) (w := w) (base := base) (mg := mg)
  have c_steps := cal_mk F13 (g a13) (F13.binds fun _ _ _ _ _ _ us hl => match us, hl with | [_, _, _, _, _], _ => rfl) ok13
  have ok14 := ok_head c_draw c_pick B F14 (P := PySem.Challenge.rw_withinall_k09_one_step.prog) (w := w) (base := base) (mg := mg)
  have c_head := cal_mk F14 (g a14) (F14.binds fun _ _ _ _ _ _ us hl => match us, hl with | [_, _], _ => rfl) ok14
  have ok15 := ok_program B c_draw c_pick c_head c_steps F15 (P := PySem.Challenge.rw_withinall_k09_one_step.prog) (w := w) (base := base) (mg := mg)
  have c_program := cal_mk F15 (g a15) (F15.binds fun _ _ _ _ _ _ us hl => match us, hl with | [_, _, _], _ => rfl) ok15
  have ok16 := ok_def_at B F16 (P := PySem.Challenge.rw_withinall_k09_one_step.prog) (w := w) (base := base) (mg := mg)
  have c_def_at := cal_mk F16 (g a16) (F16.binds fun _ _ _ _ _ _ us hl => match us, hl with | [_, _], _ => rfl) ok16
  have ok17 := ok_number_of B F17 (P := PySem.Challenge.rw_withinall_k09_one_step.prog) (w := w) (base := base) (mg := mg)
  have c_number_of := cal_mk F17 (g a17) (F17.binds fun _ _ _ _ _ _ us hl => match us, hl with | [_, _], _ => rfl) ok17
  have ok18 := ok_act_at B c_def_at c_number_of F18 (P := PySem.Challenge.rw_withinall_k09_one_step.prog) (w := w) (base := base) (mg := mg)
  have c_act_at := cal_mk F18 (g a18) (F18.binds fun _ _ _ _ _ _ us hl => match us, hl with | [_, _], _ => rfl) ok18
  have ok19 := ok_is_whole B F19 (P := PySem.Challenge.rw_withinall_k09_one_step.prog) (w := w) (base := base) (mg := mg)
  have c_is_whole := cal_mk F19 (g a19) (F19.binds fun _ _ _ _ _ _ us hl => match us, hl with | [_], _ => rfl) ok19
  have ok20 := ok_is_word B c_is_whole F20 (P := PySem.Challenge.rw_withinall_k09_one_step.prog) (w := w) (base := base) (mg := mg)
  have c_is_word := cal_mk F20 (g a20) (F20.binds fun _ _ _ _ _ _ us hl => match us, hl with | [_, _], _ => rfl) ok20
  have ok21 := ok_is_true B F21 (P := PySem.Challenge.rw_withinall_k09_one_step.prog) (w := w) (base := base) (mg := mg)
  have c_is_true := cal_mk F21 (g a21) (F21.binds fun _ _ _ _ _ _ us hl => match us, hl with | [_, _], _ => rfl) ok21
  have ok22 := ok_sum_of B F22 (P := PySem.Challenge.rw_withinall_k09_one_step.prog) (w := w) (base := base) (mg := mg)
  have c_sum_of := cal_mk F22 (g a22) (F22.binds fun _ _ _ _ _ _ us hl => match us, hl with | [_, _, _], _ => rfl) ok22
  have ok23 := ok_law_is_so B F23 (P := PySem.Challenge.rw_withinall_k09_one_step.prog) (w := w) (base := base) (mg := mg)
  have c_is_so := cal_mk F23 (g a23) (F23.binds fun _ _ _ _ _ _ us hl => match us, hl with | [_, _], _ => rfl) ok23
  have ok24 := ok_result B c_sum_of F24 (P := PySem.Challenge.rw_withinall_k09_one_step.prog) (w := w) (base := base) (mg := mg)
  have c_result := cal_mk F24 (g a24) (F24.binds fun _ _ _ _ _ _ us hl => match us, hl with | [_, _], _ => rfl) ok24
  have ok25 := ok_law_sum B F25 (P := PySem.Challenge.rw_withinall_k09_one_step.prog) (w := w) (base := base) (mg := mg)
  have c_sum := cal_mk F25 (g a25) (F25.binds fun _ _ _ _ _ _ us hl => match us, hl with | [_, _], _ => rfl) ok25
  have ok26 := ok_fault B c_is_word c_result c_is_true F26 (P := PySem.Challenge.rw_withinall_k09_one_step.prog) (w := w) (base := base) (mg := mg)
  have c_fault := cal_mk F26 (g a26) (F26.binds fun _ _ _ _ _ _ us hl => match us, hl with | [_, _, _], _ => rfl) ok26
  have ok27 := ok_made B c_result F27 (P := PySem.Challenge.rw_withinall_k09_one_step.prog) (w := w) (base := base) (mg := mg)
  have c_made := cal_mk F27 (g a27) (F27.binds fun _ _ _ _ _ _ us hl => match us, hl with | [_, _, _], _ => rfl) ok27
  have ok28 := ok_next_place B c_def_at c_number_of F28 (P := PySem.Challenge.rw_withinall_k09_one_step.prog) (w := w) (base := base) (mg := mg)
  have c_next_place := cal_mk F28 (g a28) (F28.binds fun _ _ _ _ _ _ us hl => match us, hl with | [_, _], _ => rfl) ok28
  have ok29 := ok_changed B c_made F29 (P := PySem.Challenge.rw_withinall_k09_one_step.prog) (w := w) (base := base) (mg := mg)
  have c_changed := cal_mk F29 (g a29) (F29.binds fun _ _ _ _ _ _ us hl => match us, hl with | [_, _, _], _ => rfl) ok29
  have ok30 := ok_names_in B SO F30 (P := PySem.Challenge.rw_withinall_k09_one_step.prog) (w := w) (base := base) (mg := mg)
  have c_names_in := cal_mk F30 (g a30) (F30.binds fun _ _ _ _ _ _ us hl => match us, hl with | [_], _ => rfl) ok30
  have ok31 := ok_names_of B c_names_in F31 (P := PySem.Challenge.rw_withinall_k09_one_step.prog) (w := w) (base := base) (mg := mg)
  have c_names_of := cal_mk F31 (g a31) (F31.binds fun _ _ _ _ _ _ us hl => match us, hl with | [_], _ => rfl) ok31
  have ok32 := ok_beginning B c_def_at c_names_of F32 (P := PySem.Challenge.rw_withinall_k09_one_step.prog) (w := w) (base := base) (mg := mg)
  obtain ⟨ds32, v32, b32⟩ := F32.binds1 (ps := ["program", "name", "given"]) 3 1 (by simp) rfl fun T kV doc pm an cdv ct us its h1 h2 => match us, its, h1, h2 with | [_, _, _], [_], _, _ => ⟨_, rfl, rfl⟩
  have c_beginning : C8.Cal PySem.Challenge.rw_withinall_k09_one_step.prog w K mg base 3 "beginning" (spO K phBegin) [] := ⟨_, _, _, ds32, ok32, g a32, F32.kp, b32, v32⟩
  have ok33 := ok_law_def B F33 (P := PySem.Challenge.rw_withinall_k09_one_step.prog) (w := w) (base := base) (mg := mg)
  have c_def := cal_mk F33 (g a33) (F33.binds fun _ _ _ _ _ _ us hl => match us, hl with | [_, _], _ => rfl) ok33
  have ok34 := ok_law_all_names B F34 (P := PySem.Challenge.rw_withinall_k09_one_step.prog) (w := w) (base := base) (mg := mg)
  have c_all_names := cal_mk F34 (g a34) (F34.binds fun _ _ _ _ _ _ us hl => match us, hl with | [_], _ => rfl) ok34
  have ok35 := ok_law_first_state B c_def c_all_names F35 (P := PySem.Challenge.rw_withinall_k09_one_step.prog) (w := w) (base := base) (mg := mg)
  have c_first_state := cal_mk F35 (g a35) (F35.binds fun _ _ _ _ _ _ us hl => match us, hl with | [_, _, _], _ => rfl) ok35
  have ok36 := ok_law_a_state B c_draw c_a_word c_all_names F36 (P := PySem.Challenge.rw_withinall_k09_one_step.prog) (w := w) (base := base) (mg := mg)
  have c_a_state := cal_mk F36 (g a36) (F36.binds fun _ _ _ _ _ _ us hl => match us, hl with | [_, _, _], _ => rfl) ok36
  have ok37 := ok_one_step B c_act_at c_beginning c_is_true c_fault c_next_place c_changed F37 (P := PySem.Challenge.rw_withinall_k09_one_step.prog) (w := w) (base := base) (mg := mg)
  have c_one_step_word : CalN PySem.Challenge.rw_withinall_k09_one_step.prog w K mg base 5 "one_step" (spF K phStep) 3 ["word"] (fun us ws => us ++ ws) := ⟨_, _, _, _, ok37, g a37, F37.kp, kbn0_of F37 (by simp) 3 ["word"] (fun us ws => us ++ ws) (fun a b => a.append b) fun D doc pm an cdv ct us ws h1 h2 => match us, ws, h1, h2 with | [_, _, _], [_], _, _ => rfl⟩
  obtain ⟨ds37, v37, b37⟩ := F37.binds0 (ps := ["program", "place", "state", "word"]) 3 (by simp) rfl fun D doc pm an cdv ct us ks h1 h2 => match us, ks, h1, h2 with | [_, _, _], [_], _, _ => ⟨_, _, _, _, _, _, rfl, rfl, rfl⟩
  have c_one_step_3 : C8.Cal PySem.Challenge.rw_withinall_k09_one_step.prog w K mg base 5 "one_step" (spF K phStep) [.int 0] := ⟨_, _, _, ds37, ok37, g a37, F37.kp, b37, v37⟩
  have ok38 := ok_law_cells B F38 (P := PySem.Challenge.rw_withinall_k09_one_step.prog) (w := w) (base := base) (mg := mg)
  have c_cells := cal_mk F38 (g a38) (F38.binds fun _ _ _ _ _ _ us hl => match us, hl with | [_, _], _ => rfl) ok38
  have ok39 := ok_law_change B c_sum c_cells c_is_so F39 (P := PySem.Challenge.rw_withinall_k09_one_step.prog) (w := w) (base := base) (mg := mg)
  have c_change := cal_mk F39 (g a39) (F39.binds fun _ _ _ _ _ _ us hl => match us, hl with | [_, _, _, _], _ => rfl) ok39
  have ok40 := ok_law_due B c_def c_first_state c_change c_is_so F40 (P := PySem.Challenge.rw_withinall_k09_one_step.prog) (w := w) (base := base) (mg := mg)
  have c_due := cal_mk F40 (g a40) (F40.binds fun _ _ _ _ _ _ us hl => match us, hl with | [_, _, _, _], _ => rfl) ok40
  have ok41 := ok_law_same B F41 (P := PySem.Challenge.rw_withinall_k09_one_step.prog) (w := w) (base := base) (mg := mg)
  have c_same : CalG PySem.Challenge.rw_withinall_k09_one_step.prog w K mg base 1 "_law_same" (spP K phSame) := ⟨_, _, _, ok41, g a41, F41.kp, F41.binds fun _ _ _ _ _ _ us hl => match us, hl with | [_, _], _ => rfl⟩
  have ok42 := ok_law_right B c_a_state c_a_word c_due c_same c_one_step_word c_one_step_3 F42 (P := PySem.Challenge.rw_withinall_k09_one_step.prog) (w := w) (base := base) (mg := mg)
  have c_right : CalG PySem.Challenge.rw_withinall_k09_one_step.prog w K mg base 6 "_law_right" (spT K phRight) := ⟨_, _, _, ok42, g a42, F42.kp, F42.binds fun _ _ _ _ _ _ us hl => match us, hl with | [_, _, _, _], _ => rfl⟩
  exact ok_law B c_tape c_program c_right FL
end Dr

open PySem PySem.W PyProof.Rows
set_option maxRecDepth 100000 in
set_option maxHeartbeats 0 in
theorem PySem.Challenge.cw_withinall_k09_one_step_holds : PySem.Challenge.rw_withinall_k09_one_step.Holds := by
  w_on; o_law; k_head; (case hw => w_witness2)
  k_fill
  refine L2.walkG (l := PySem.Challenge.rw_withinall_k09_one_step) (n := 63) (k := 9) (x := "script") (sp := fun K => @Lf.spLaw K ⟨[]⟩) rfl (by decide) rfl ⟨rfl, by decide, by decide⟩ (fun w h Y => PySem.W.kIn_of Y) ?F (fun K H a ns h1 _ h3 => ⟨a, ns, rfl, h3, h1, fun p hp => (nomatch hp), fun _ => rfl⟩)
  case F =>
    intro w mg fa h KX G hmg
    refine' Dr.all_mk KX G hmg ?blen ?brange ?blist ?btuple ?bint ?bstr ?bdict ?bisinstance ?bsorted ?bset ?bzip ?benumerate ?brepr ?bmin ?bmax ?bany ?ball ?bbool ?a0 ?F0 ?a1 ?F1 ?a2 ?F2 ?a3 ?F3 ?a4 ?F4 ?a5 ?F5 ?a6 ?F6 ?a7 ?F7 ?a8 ?F8 ?a9 ?F9 ?a10 ?F10 ?a11 ?F11 ?a12 ?F12 ?a13 ?F13 ?a14 ?F14 ?a15 ?F15 ?a16 ?F16 ?a17 ?F17 ?a18 ?F18 ?a19 ?F19 ?a20 ?F20 ?a21 ?F21 ?a22 ?F22 ?a23 ?F23 ?a24 ?F24 ?a25 ?F25 ?a26 ?F26 ?a27 ?F27 ?a28 ?F28 ?a29 ?F29 ?a30 ?F30 ?a31 ?F31 ?a32 ?F32 ?a33 ?F33 ?a34 ?F34 ?a35 ?F35 ?a36 ?F36 ?a37 ?F37 ?a38 ?F38 ?a39 ?F39 ?a40 ?F40 ?a41 ?F41 ?a42 ?F42 ?SO ?aL ?FL
    (case blen => k_is); (case brange => k_is); (case blist => k_is); (case btuple => k_is); (case bint => k_is); (case bstr => k_is); (case bdict => k_is); (case bisinstance => k_is); (case bsorted => k_is); (case bset => k_is); (case bzip => k_is); (case benumerate => k_is); (case brepr => k_is); (case bmin => k_is); (case bmax => k_is); (case bany => k_is); (case ball => k_is); (case bbool => k_is)
    (case a0 => k_is); (case F0 => refine' L2.fun_mk ?l ?c ?k; (case l => k_is); (case c => k_is); (case k => k_is))
    (case a1 => k_is); (case F1 => refine' L2.fun_mk ?l ?c ?k; (case l => k_is); (case c => k_is); (case k => k_is))
    (case a2 => k_is); (case F2 => refine' L2.fun_mk ?l ?c ?k; (case l => k_is); (case c => k_is); (case k => k_is))
    (case a3 => k_is); (case F3 => refine' L2.fun_mk ?l ?c ?k; (case l => k_is); (case c => k_is); (case k => k_is))
    (case a4 => k_is); (case F4 => refine' L2.fun_mk ?l ?c ?k; (case l => k_is); (case c => k_is); (case k => k_is))
    (case a5 => k_is); (case F5 => refine' L2.fun_mk ?l ?c ?k; (case l => k_is); (case c => k_is); (case k => k_is))
    (case a6 => k_is); (case F6 => refine' L2.fun_mk ?l ?c ?k; (case l => k_is); (case c => k_is); (case k => k_is))
    (case a7 => k_is); (case F7 => refine' L2.fun_mk ?l ?c ?k; (case l => k_is); (case c => k_is); (case k => k_is))
    (case a8 => k_is); (case F8 => refine' L2.fun_mk ?l ?c ?k; (case l => k_is); (case c => k_is); (case k => k_is))
    (case a9 => k_is); (case F9 => refine' L2.fun_mk ?l ?c ?k; (case l => k_is); (case c => k_is); (case k => k_is))
    (case a10 => k_is); (case F10 => refine' L2.fun_mk ?l ?c ?k; (case l => k_is); (case c => k_is); (case k => k_is))
    (case a11 => k_is); (case F11 => refine' L2.fun_mk ?l ?c ?k; (case l => k_is); (case c => k_is); (case k => k_is))
    (case a12 => k_is); (case F12 => refine' L2.fun_mk ?l ?c ?k; (case l => k_is); (case c => k_is); (case k => k_is))
    (case a13 => k_is); (case F13 => refine' L2.fun_mk ?l ?c ?k; (case l => k_is); (case c => k_is); (case k => k_is))
    (case a14 => k_is); (case F14 => refine' L2.fun_mk ?l ?c ?k; (case l => k_is); (case c => k_is); (case k => k_is))
    (case a15 => k_is); (case F15 => refine' L2.fun_mk ?l ?c ?k; (case l => k_is); (case c => k_is); (case k => k_is))
    (case a16 => k_is); (case F16 => refine' L2.fun_mk ?l ?c ?k; (case l => k_is); (case c => k_is); (case k => k_is))
    (case a17 => k_is); (case F17 => refine' L2.fun_mk ?l ?c ?k; (case l => k_is); (case c => k_is); (case k => k_is))
    (case a18 => k_is); (case F18 => refine' L2.fun_mk ?l ?c ?k; (case l => k_is); (case c => k_is); (case k => k_is))
    (case a19 => k_is); (case F19 => refine' L2.fun_mk ?l ?c ?k; (case l => k_is); (case c => k_is); (case k => k_is))
    (case a20 => k_is); (case F20 => refine' L2.fun_mk ?l ?c ?k; (case l => k_is); (case c => k_is); (case k => k_is))
    (case a21 => k_is); (case F21 => refine' L2.fun_mk ?l ?c ?k; (case l => k_is); (case c => k_is); (case k => k_is))
    (case a22 => k_is); (case F22 => refine' L2.fun_mk ?l ?c ?k; (case l => k_is); (case c => k_is); (case k => k_is))
    (case a23 => k_is); (case F23 => refine' L2.fun_mk ?l ?c ?k; (case l => k_is); (case c => k_is); (case k => k_is))
    (case a24 => k_is); (case F24 => refine' L2.fun_mk ?l ?c ?k; (case l => k_is); (case c => k_is); (case k => k_is))
    (case a25 => k_is); (case F25 => refine' L2.fun_mk ?l ?c ?k; (case l => k_is); (case c => k_is); (case k => k_is))
    (case a26 => k_is); (case F26 => refine' L2.fun_mk ?l ?c ?k; (case l => k_is); (case c => k_is); (case k => k_is))
    (case a27 => k_is); (case F27 => refine' L2.fun_mk ?l ?c ?k; (case l => k_is); (case c => k_is); (case k => k_is))
    (case a28 => k_is); (case F28 => refine' L2.fun_mk ?l ?c ?k; (case l => k_is); (case c => k_is); (case k => k_is))
    (case a29 => k_is); (case F29 => refine' L2.fun_mk ?l ?c ?k; (case l => k_is); (case c => k_is); (case k => k_is))
    (case a30 => k_is); (case F30 => refine' L2.fun_mk ?l ?c ?k; (case l => k_is); (case c => k_is); (case k => k_is))
    (case a31 => k_is); (case F31 => refine' L2.fun_mk ?l ?c ?k; (case l => k_is); (case c => k_is); (case k => k_is))
    (case a32 => k_is); (case F32 => refine' Lf.dfl_mk ?l ?c ?k ?lT; (case l => k_is); (case c => k_is); (case k => k_is); (case lT => k_is))
    (case a33 => k_is); (case F33 => refine' L2.fun_mk ?l ?c ?k; (case l => k_is); (case c => k_is); (case k => k_is))
    (case a34 => k_is); (case F34 => refine' L2.fun_mk ?l ?c ?k; (case l => k_is); (case c => k_is); (case k => k_is))
    (case a35 => k_is); (case F35 => refine' L2.fun_mk ?l ?c ?k; (case l => k_is); (case c => k_is); (case k => k_is))
    (case a36 => k_is); (case F36 => refine' L2.fun_mk ?l ?c ?k; (case l => k_is); (case c => k_is); (case k => k_is))
    (case a37 => k_is); (case F37 => refine' Lf.kwi_mk ?l ?c ?k ?lD; (case l => k_is); (case c => k_is); (case k => k_is); (case lD => k_is))
    (case a38 => k_is); (case F38 => refine' L2.fun_mk ?l ?c ?k; (case l => k_is); (case c => k_is); (case k => k_is))
    (case a39 => k_is); (case F39 => refine' L2.fun_mk ?l ?c ?k; (case l => k_is); (case c => k_is); (case k => k_is))
    (case a40 => k_is); (case F40 => refine' L2.fun_mk ?l ?c ?k; (case l => k_is); (case c => k_is); (case k => k_is))
    (case a41 => k_is); (case F41 => refine' L2.fun_mk ?l ?c ?k; (case l => k_is); (case c => k_is); (case k => k_is))
    (case a42 => k_is); (case F42 => refine' L2.fun_mk ?l ?c ?k; (case l => k_is); (case c => k_is); (case k => k_is))
    (case aL => k_is); (case FL => refine' L2.fun_mk ?l ?c ?k; (case l => k_is); (case c => k_is); (case k => k_is))
    case SO =>
      refine' Lf.ktab_mkV (l := Dr.sortTab.map fun p => (p.1, PyData.tuple (p.2.map .str))) KX G ?hS ?lS ?kS ?low ?te; (case hS => k_is); (case lS => k_is)
      (case kS => repeat (first | exact trivial | refine ⟨⟨_, _, rfl, rfl⟩, ?_⟩))
      (case low => decide)
      case te =>
        refine' Lf.TabVs.cons ⟨_, rfl⟩ ?v ?_; (case v => refine' Lf.tupT_mk (rs := ["number", "word"]) ?l ?c ?few ?h; (case l => k_is); (case c => rfl); (case few => decide); (case h => exact .cons ⟨_, rfl⟩ (.cons ⟨_, rfl⟩ (.nil))))
        refine' Lf.TabVs.cons ⟨_, rfl⟩ ?v ?_; (case v => refine' Lf.tupT_mk (rs := ["number", "number", "word"]) ?l ?c ?few ?h; (case l => k_is); (case c => rfl); (case few => decide); (case h => exact .cons ⟨_, rfl⟩ (.cons ⟨_, rfl⟩ (.cons ⟨_, rfl⟩ (.nil)))))
        refine' Lf.TabVs.cons ⟨_, rfl⟩ ?v ?_; (case v => refine' Lf.tupT_mk (rs := ["plain", "plain", "plain"]) ?l ?c ?few ?h; (case l => k_is); (case c => rfl); (case few => decide); (case h => exact .cons ⟨_, rfl⟩ (.cons ⟨_, rfl⟩ (.cons ⟨_, rfl⟩ (.nil)))))
        refine' Lf.TabVs.cons ⟨_, rfl⟩ ?v ?_; (case v => refine' Lf.tupT_mk (rs := ["plain", "plain", "plain"]) ?l ?c ?few ?h; (case l => k_is); (case c => rfl); (case few => decide); (case h => exact .cons ⟨_, rfl⟩ (.cons ⟨_, rfl⟩ (.cons ⟨_, rfl⟩ (.nil)))))
        refine' Lf.TabVs.cons ⟨_, rfl⟩ ?v ?_; (case v => refine' Lf.tupT_mk (rs := ["plain", "plain", "plain"]) ?l ?c ?few ?h; (case l => k_is); (case c => rfl); (case few => decide); (case h => exact .cons ⟨_, rfl⟩ (.cons ⟨_, rfl⟩ (.cons ⟨_, rfl⟩ (.nil)))))
        refine' Lf.TabVs.cons ⟨_, rfl⟩ ?v ?_; (case v => refine' Lf.tupT_mk (rs := ["plain", "plain", "plain"]) ?l ?c ?few ?h; (case l => k_is); (case c => rfl); (case few => decide); (case h => exact .cons ⟨_, rfl⟩ (.cons ⟨_, rfl⟩ (.cons ⟨_, rfl⟩ (.nil)))))
        refine' Lf.TabVs.cons ⟨_, rfl⟩ ?v ?_; (case v => refine' Lf.tupT_mk (rs := ["plain", "plain", "plain"]) ?l ?c ?few ?h; (case l => k_is); (case c => rfl); (case few => decide); (case h => exact .cons ⟨_, rfl⟩ (.cons ⟨_, rfl⟩ (.cons ⟨_, rfl⟩ (.nil)))))
        refine' Lf.TabVs.cons ⟨_, rfl⟩ ?v ?_; (case v => refine' Lf.tupT_mk (rs := ["number", "number", "number"]) ?l ?c ?few ?h; (case l => k_is); (case c => rfl); (case few => decide); (case h => exact .cons ⟨_, rfl⟩ (.cons ⟨_, rfl⟩ (.cons ⟨_, rfl⟩ (.nil)))))
        refine' Lf.TabVs.cons ⟨_, rfl⟩ ?v ?_; (case v => refine' Lf.tupT_mk (rs := ["row", "number"]) ?l ?c ?few ?h; (case l => k_is); (case c => rfl); (case few => decide); (case h => exact .cons ⟨_, rfl⟩ (.cons ⟨_, rfl⟩ (.nil))))
        refine' Lf.TabVs.cons ⟨_, rfl⟩ ?v ?_; (case v => refine' Lf.tupT_mk (rs := ["plain", "row", "number"]) ?l ?c ?few ?h; (case l => k_is); (case c => rfl); (case few => decide); (case h => exact .cons ⟨_, rfl⟩ (.cons ⟨_, rfl⟩ (.cons ⟨_, rfl⟩ (.nil)))))
        refine' Lf.TabVs.cons ⟨_, rfl⟩ ?v ?_; (case v => refine' Lf.tupT_mk (rs := ["row", "number", "number"]) ?l ?c ?few ?h; (case l => k_is); (case c => rfl); (case few => decide); (case h => exact .cons ⟨_, rfl⟩ (.cons ⟨_, rfl⟩ (.cons ⟨_, rfl⟩ (.nil)))))
        refine' Lf.TabVs.cons ⟨_, rfl⟩ ?v ?_; (case v => refine' Lf.tupT_mk (rs := ["number", "row"]) ?l ?c ?few ?h; (case l => k_is); (case c => rfl); (case few => decide); (case h => exact .cons ⟨_, rfl⟩ (.cons ⟨_, rfl⟩ (.nil))))
        refine' Lf.TabVs.cons ⟨_, rfl⟩ ?v ?_; (case v => refine' Lf.tupT_mk (rs := ["plain", "word", "word"]) ?l ?c ?few ?h; (case l => k_is); (case c => rfl); (case few => decide); (case h => exact .cons ⟨_, rfl⟩ (.cons ⟨_, rfl⟩ (.cons ⟨_, rfl⟩ (.nil)))))
        refine' Lf.TabVs.cons ⟨_, rfl⟩ ?v ?_; (case v => refine' Lf.tupT_mk (rs := ["number"]) ?l ?c ?few ?h; (case l => k_is); (case c => rfl); (case few => decide); (case h => exact .cons ⟨_, rfl⟩ (.nil)))
        refine' Lf.TabVs.cons ⟨_, rfl⟩ ?v ?_; (case v => refine' Lf.tupT_mk (rs := ["side", "sign", "side"]) ?l ?c ?few ?h; (case l => k_is); (case c => rfl); (case few => decide); (case h => exact .cons ⟨_, rfl⟩ (.cons ⟨_, rfl⟩ (.cons ⟨_, rfl⟩ (.nil)))))
        refine' Lf.TabVs.cons ⟨_, rfl⟩ ?v ?_; (case v => refine' Lf.tupT_mk (rs := ["side", "sign", "side", "label"]) ?l ?c ?few ?h; (case l => k_is); (case c => rfl); (case few => decide); (case h => exact .cons ⟨_, rfl⟩ (.cons ⟨_, rfl⟩ (.cons ⟨_, rfl⟩ (.cons ⟨_, rfl⟩ (.nil))))))
        refine' Lf.TabVs.cons ⟨_, rfl⟩ ?v ?_; (case v => refine' Lf.tupT_mk (rs := ["label"]) ?l ?c ?few ?h; (case l => k_is); (case c => rfl); (case few => decide); (case h => exact .cons ⟨_, rfl⟩ (.nil)))
        refine' Lf.TabVs.cons ⟨_, rfl⟩ ?v ?_; (case v => refine' Lf.tupT_mk (rs := ["plain", "callee", "given"]) ?l ?c ?few ?h; (case l => k_is); (case c => rfl); (case few => decide); (case h => exact .cons ⟨_, rfl⟩ (.cons ⟨_, rfl⟩ (.cons ⟨_, rfl⟩ (.nil)))))
        refine' Lf.TabVs.cons ⟨_, rfl⟩ ?v ?_; (case v => refine' Lf.tupT_mk (rs := ["number"]) ?l ?c ?few ?h; (case l => k_is); (case c => rfl); (case few => decide); (case h => exact .cons ⟨_, rfl⟩ (.nil)))
        exact .nil

