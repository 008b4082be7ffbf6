import PyProof.Rows.All
import Wide.All
import OpenK.AllK
import Wide.FinOn
import KE.KExcSuper
import HandS.Base
import HandS.Call
import HandS.List
import HandS.Ends
import HandS.Exc
import HandS.ForMost
import HandS.ExcField
import HandS.ExcIs
import HandS.IsInst
import HandS.Wide
import KE.KExcIs
import HandS.Zip
import HandS.Walk
import KE.GoesZip
import KE.GoesMore
import KE.GoesEnum
import HandS.SetFor
import HandS.TupSets
import HandS.Strs
import HandS.SortRule
import HandS.SortOrd
import HandS.Codes
import HandS.Flt
import HandS.Defaults
import HandS.DeepEq
import HandS.OwnEq
import PyProof.Rows.ReprOcc
import PyProof.StrLawsIn
import HandS.Text
import HandS.DictComp
import HandS.Dict
import HandS.More
import HandS.TupMul
import HandS.Comp
import HandS.Star
import HandS.TupAny
import HandS.Conv
import HandS.Style
import HandS.Small
import HandS.Finally
import PySem.Challenge.RW_withinall_k10_beginnings_and_behind_call
set_option Elab.async false
set_option linter.all false
set_option maxRecDepth 100000
set_option maxHeartbeats 3900000
/-! Own exceptions over ValueError, made by place or by name: the class is called, keywords and all, then its own __init__. -/
namespace PySem
namespace Own
open HandSPX

/-- what the heap keeps of such a class, in one bundle -/
structure Kl where
  (nm qn : Str) (ns : Addr) (bs bm : List Value) (hd : Bool) (sn : List Str) (sb : List Value)
  (ab : Bool) (co : Option Bool) (dd : Option Addr) (s0 s1 s2 s3 s5 : Option Value)
def Kl.obj (c : Kl) (C : Addr) : Obj :=
  excClassObj c.nm c.qn C c.ns c.bs c.bm c.hd c.sn c.sb c.ab c.co c.dd c.s0 c.s1 c.s2 c.s3 c.s5 "ValueError.__new__"
/-- at C in h stands such a class, its chain ends as ValueError's does -/
def KlAt (h : Heap) (C : Addr) : Prop :=
  ∃ c : Kl, h.get? C = some (c.obj C) ∧ ∀ X : String, c.bm.contains (.type X) = veTail.contains (.type X)
theorem klAt_of {K : W.Frag} {h : Heap} {C : Addr} (X : K.In h)
    (q : W.excInitIn K C veTail "ValueError.__new__" = true) : KlAt h C := by
  obtain ⟨nm, ns, qn, bs, bm, hd, sn, sb, ab, co, dd, s0, s1, s2, s3, s5, e, t⟩ := W.excInit_of X q
  exact ⟨⟨nm, qn, ns, bs, bm, hd, sn, sb, ab, co, dd, s0, s1, s2, s3, s5⟩, e, t⟩
theorem KlAt.keep {h h' : Heap} {C : Addr} (x : KlAt h C)
    (k : ∀ b o, h.get? b = some o → h'.get? b = some o) : KlAt h' C :=
  let ⟨c, e, t⟩ := x; ⟨c, k _ _ e, t⟩

abbrev VE := F.excBase_ValueError
/-- the freshly made object, its args laid ahead of it -/
abbrev fresh (h : Heap) (C : Addr) (xs : List Value) : Heap := (h.push (W.kdv_tup xs)).push (excO C h.objs.size)

section
variable {M : Model} {A : Around} {X : Value → Shared → Prop} {h : Heap} {C : Addr}
  {gs : Array GenState} {dr : Drawn} {tk : Nat} {os : OsState} {xs : List Value} {kw : List (Str × Value)}

theorem new_checked {Q : Unit → Shared → Prop} (k : KlAt h C) (hq : Q () ⟨h, gs, dr, tk, os⟩) :
    wpAny M A (checkBuiltinCall "ValueError.__new__" ⟨.ref C :: xs, kw⟩) Q X ⟨h, gs, dr, tk, os⟩ := by
  obtain ⟨c, hC, t⟩ := k
  have inB : (Value.ref C :: c.bm).contains (.type "ValueError") = true := by
    rw [List.contains_cons, t, VE.hasB]
    exact Bool.or_true _
  have star := VE.noStar
  simp only [checkBuiltinCall, VE.newSplit, VE.newRow, VE.newKind]
  unfold Kl.obj at hC
  repeat first
    | refine wpAny_staticBase_exc hC ?_
    | refine wpAny_madeBy_exc hC ?_
    | refine wpAny_loadPart_at hC ?_
    | (refine wpAny_isSubtype_exc hC ?_
       rw [inB])
    | simp only [bne_self_eq_false, if_false, Bool.false_eq_true]
    | wp_step
  exact hq
theorem call_checked {Q : Unit → Shared → Prop} (k : KlAt h C) (hq : Q () ⟨h, gs, dr, tk, os⟩) :
    wpAny M A (checkBuiltinCall "type.__call__" ⟨.ref C :: xs, kw⟩) Q X ⟨h, gs, dr, tk, os⟩ := by
  obtain ⟨c, hC, _⟩ := k
  unfold Kl.obj at hC
  have sub := tc_sub
  have ty : (⟨h, gs, dr, tk, os⟩ : Shared).TypeIs (.ref C) "type" := ⟨_, hC, by rfl⟩
  simp only [checkBuiltinCall, tc_split, tc_kind]
  repeat any_goals first
    | assumption
    | with_reducible refine wpAny_map ?_
    | with_reducible refine wpAny_onRaise ?_
    | with_reducible refine wpAny_loadPart_at hC ?_
    | wp_step
end

section
variable {prog : Program} {w : World} {A : Around} {R : Result → Shared → Prop} {h : Heap} {C fI : Addr}
  {gs : Array GenState} {dr : Drawn} {tk : Nat} {os : OsState} {xs : List Value} {kw : List (Str × Value)}

/-- BaseException.__new__: keywords are nothing to it -/
theorem new_made (k : KlAt h C) (small : xs.length ≤ sizeLine)
    (hq : R (.ok (.ret (.ref (h.objs.size + 1)))) ⟨fresh h C xs, gs, dr, tk, os⟩) :
    codeAny (model prog w) A (.builtin "ValueError.__new__" ⟨.ref C :: xs, kw⟩) R ⟨h, gs, dr, tk, os⟩ := by
  obtain ⟨c, hC, t⟩ := k
  unfold Kl.obj at hC
  have inB : (Value.ref C :: c.bm).contains (.type "ValueError") = true := by
    rw [List.contains_cons, t, VE.hasB]
    exact Bool.or_true _
  have noA : (Value.ref C :: c.bm).contains (.type "AttributeError") = false := by
    rw [List.contains_cons, t, VE.noAttr]
    rfl
  have noN : (Value.ref C :: c.bm).contains (.type "NameError") = false := by
    rw [List.contains_cons, t, VE.noName]
    rfl
  have ends := VE.ends
  refine codeAny_builtinAt VE.entry (?_)
  unfold Builtin.«BaseException.__new__» -- the keywords are not looked at
  refine wpAt_bind (show wpAt _ _ _ (stack >>= _) _ _ _ from ?_)
  refine wpAt_bind (wpAt_stack fun _ _ => wpAt_of_wpAny (?_))
  wp_walk
  refine wpAt_of_wpAny ?_
  rw [VE.owner]
  repeat first
    | with_reducible refine wpAny_loadPart_at hC ?_
    | with_reducible refine wpAny_madeHere_exc VE.canon hC ?_
    | (with_reducible refine wpAny_isSubtype_exc hC ?_
       first
         | rw [inB]
         | rw [noA]
         | rw [noN])
    | wp_step
  show R _ _
  rw [Heap.size_push]
  exact hq

/-- type.__call__: made, then the own __init__ with what was handed in -/
theorem called {Q : Fin → Shared → Prop} {X : Value → Shared → Prop} (k : KlAt h C) (small : xs.length ≤ sizeLine)
    (hi : W.Looks (model prog w) h (typeLookup (.ref C) "__init__") (some (.ref fI)))
    (hb : ∀ self, W.Looks (model prog w) h (bindSpecial (.ref fI) self) (.ref fI, [self]))
    (hq : codeAny (model prog w) A (.call (.ref fI) ⟨.ref (h.objs.size + 1) :: xs, kw⟩)
      (fun r s' => match r with
        | .error e => X e s'
        | .ok (.ret v) => v = .none ∧ Q (.done (.ret (.ref (h.objs.size + 1)))) s'
        | .ok _ => False) ⟨fresh h C xs, gs, dr, tk, os⟩) :
    wpAny (model prog w) A (Builtin.«type.__call__» ⟨.ref C :: xs, kw⟩) Q X ⟨h, gs, dr, tk, os⟩ := by
  obtain ⟨c, hC', t⟩ := k
  have k : KlAt h C := ⟨c, hC', t⟩
  have hC := hC'
  unfold Kl.obj at hC
  repeat first
    | with_reducible refine wpAny_madeBy_exc hC ?_
    | with_reducible refine wpAny_loadPart_at hC ?_
    | wp_step
  refine codeAny_call_builtin_code (Code.quiet_builtin _ VE.quiet) (new_checked k (new_made k small ?_))
  show wpAny _ _ _ _ _ _
  have up : ∀ b o, h.get? b = some o → (fresh h C xs).get? b = some o := fun b o e =>
    Heap.get?_push_of_some _ (Heap.get?_push_of_some _ e)
  have hC2 := up _ _ hC
  have it : (fresh h C xs).get? (h.objs.size + 1) = some (excO C h.objs.size) := by
    heap_get
  have self : (Value.ref C :: c.bm).contains (.ref C) = true := by
    simp
  unfold isInstance
  repeat first
    | with_reducible refine wpAny_loadPart_at it ?_
    | (with_reducible refine wpAny_isSubtype_exc hC2 ?_
       rw [self])
    | wp_step
  refine (hi.keeps up).at (?_)
  refine wpAny_holding (wpAny_bind ((((hb (.ref (h.objs.size + 1))).keeps up)).at ?_))
  refine wpAny_bind (wpAny_call (codeAny_mono hq (fun r s' z => ?_)))
  match r, z with
  | .error e, z => exact z
  | .ok (.ret v), ⟨e, z⟩ =>
    subst e
    first
      | exact wpAny_pure (wpAny_pure (by exact z))
      | (wp_walk; exact z)
  | .ok .next, z => exact z.elim
  | .ok .brk, z => exact z.elim
  | .ok .cont, z => exact z.elim

theorem made_of (k : KlAt h C) (small : xs.length ≤ sizeLine)
    (hi : W.Looks (model prog w) h (typeLookup (.ref C) "__init__") (some (.ref fI)))
    (hb : ∀ self, W.Looks (model prog w) h (bindSpecial (.ref fI) self) (.ref fI, [self]))
    (hq : codeAny (model prog w) (A.under (.builtin "type.__call__" ⟨.ref C :: xs, kw⟩))
      (.call (.ref fI) ⟨.ref (h.objs.size + 1) :: xs, kw⟩) (W.InitBack (h.objs.size + 1) R) ⟨fresh h C xs, gs, dr, tk, os⟩) :
    codeAny (model prog w) A (.call (.ref C) ⟨xs, kw⟩) R ⟨h, gs, dr, tk, os⟩ := by
  obtain ⟨c, hC', t⟩ := k
  have k : KlAt h C := ⟨c, hC', t⟩
  have hC := hC'
  unfold Kl.obj at hC
  have look := tc_lookup
  have bind := tc_bind (.ref C)
  have ty : (⟨h, gs, dr, tk, os⟩ : Shared).TypeIs (.ref C) "type" := ⟨_, hC, by rfl⟩
  refine codeAny_of_tree (show wpAny _ _ (callAny (.ref C) _) _ _ _ from ?_)
  repeat any_goals first
    | assumption
    | with_reducible refine wpAny_loadPart_at hC ?_
    | wp_step
  refine ⟨rfl, codeAny_call_builtin_at (Code.quiet_builtin _ (by decide +kernel)) entry_typeCall (call_checked k (called k small hi hb ?_))⟩
  refine codeAny_mono hq (fun r s' z => ?_)
  match r, z with
  | .error e, z => exact z
  | .ok (.ret v), z => exact z
  | .ok .next, z => exact z
  | .ok .brk, z => exact z
  | .ok .cont, z => exact z
end
end Own
end PySem

set_option maxRecDepth 100000
set_option maxHeartbeats 3900000
/-! An own exception's __init__: super().__init__(text), then one field. -/
namespace PySem
namespace Own
open PySem.W PySem.Calls PyProof.Rows HandSPX

abbrev oA (n : Str) (p1 p2 : Pos) : Arguments := { posonlyargs := [], args := [{ arg := "self", annotation := none, pos := p1 }, { arg := n, annotation := none, pos := p2 }], vararg := none, kwonlyargs := [], kw_defaults := [], kwarg := none, defaults := [] }
/-- the scope of such an __init__ -/
abbrev oS (n : Str) : Scope := { kind := .function, names := [("self", .local), (n, .local), ("__class__", .free), ("super", .globalImplicit)], isGenerator := false, isCoroutine := false, more := [] }
abbrev oB (n text : Str) (k1 : Nat) (q1 q2 q3 q4 q5 q6 q7 q8 q9 q0 : Pos) : List Stmt :=
  [.Expr (.Call (.Attribute (.Call (.Name "super" q1) [] [] q2) "__init__" q3) [.Constant (.str text) k1 q4] [] q5) q6,
   .Assign [.Attribute (.Name "self" q7) n q8] (.Name n q9) q0]

/-- what the written part says of an own exception class C, of its __init__ at fI, which keeps one field n -/
structure Txt (prog : Program) (K : Frag) (mg : Str → Option Value) (x n : Str) (C fI : Addr) : Prop where
  gC : mg x = some (.ref C)
  cls : excInitIn K C veTail "ValueError.__new__" = true
  cd : ∃ c bm, clsIn K C = some c ∧ c.mro = .ref C :: bm ∧ refsVE bm = true ∧ c.hasDict = true ∧ alongIn K "__init__" bm = some (some (.builtin "ValueError.__init__"))
  sa : findIn K (.ref C) "__setattr__" = some (some (.builtin "object.__setattr__"))
  ga : findIn K (.ref C) "__getattribute__" = some (some (.builtin "BaseException.__getattribute__"))
  gg : findIn K (.ref C) "__getattr__" = some none
  noN : findIn K (.ref C) n = some none
  iC : findIn K (.ref C) "__init__" = some (some (.ref fI))
  tC : typeIn K (.ref fI) = some (.type "function")
  kC : keepIn K (.ref C) = true
  exC : subIn K (.ref C) (.type "BaseException") = some true
  veC : subIn K (.ref C) (.type "ValueError") = some true
  tyC : typeIn K (.ref C) = some (.type "type")
  hdC : hasDictIn K C = true
  tp : nsIn K cStatics "thirdparty.any" = some none
  gS : mg "super" = none
  top : (prog.main.scope.names.lookup ("super" : Str)).isSome = false
  fn : ∃ (oc : Value) (od : Option Addr) (osl : Array (Option Value)) (dV kV doc pm : Value) (an : Option Addr) (cda cc : Addr) (ct : Value) (p1 p2 q1 q2 q3 q4 q5 q6 q7 q8 q9 q0 : Pos) (text qual : Str) (k1 : Nat)
      (ccl cl : Value) (cdd cld : Option Addr) (vs : Array Value) (ccs csl : Array (Option Value)) (file : Str) (tf : Tok),
    K.lookup fI = some ⟨oc, od, .func (ksFn "__init__" qual (oA n p1 p2) (oB n text k1 q1 q2 q3 q4 q5 q6 q7 q8 q9 q0) (oS n) dV kV doc pm an (.ref cda) ct cc), osl⟩ ∧ codeIn K (.ref cda) qual = true ∧
    ((oS n).names.lookup ("super" : Str) = some .globalImplicit ∧ (oS n).names.lookup ("__class__" : Str) = some .free ∧ (oS n).names.lookup ("self" : Str) = some .local ∧ (oS n).names.lookup n = some .local ∧
      (∀ x ∈ (oS n).names, x.2 ≠ .cell)) ∧
    K.lookup cda = some ⟨ccl, cdd, .fields vs, ccs⟩ ∧ vs[2]? = some (.str file tf) ∧ ((prog.main.file : Str) == file) = true ∧
    K.lookup cc = some ⟨cl, cld, .cell (some (.ref C)), csl⟩ ∧
    (∀ (x v : Value), bindArgs (ksFn "__init__" qual (oA n p1 p2) (oB n text k1 q1 q2 q3 q4 q5 q6 q7 q8 q9 q0) (oS n) dV kV doc pm an (.ref cda) ct cc) ⟨[x, v], []⟩ = pure [(("self" : Str), x), (n, v)]) ∧
    (∀ (x v : Value), bindArgs (ksFn "__init__" qual (oA n p1 p2) (oB n text k1 q1 q2 q3 q4 q5 q6 q7 q8 q9 q0) (oS n) dV kV doc pm an (.ref cda) ct cc) ⟨[x], [(n, v)]⟩ = pure [(("self" : Str), x), (n, v)]) ∧
    (("self" : Str) == n) = false ∧ (n == ("__debug__" : Str)) = false ∧ (q3.endLine == q5.line) = true

/-- what __init__ leaves of a fresh exception at x -/
structure InitEnd (h h' : Heap) (x C dx t1 : Addr) (n : Str) (v : Value) : Prop where
  keep : ∀ b o, b ≠ x → h.get? b = some o → h'.get? b = some o
  obj : h'.get? x = some { cls := .ref C, dict := some dx, data := .fields #[.ref t1, .none, .none, .none, .bool false, .none] }
  dbig : h.objs.size ≤ dx
  dne : dx ≠ x
  ns : h'.Ns1 dx (fun y => if y = n then some v else none)
/-- a made exception -/
structure OwnMade (h h' : Heap) (e C d : Addr) (n : Str) (v : Value) : Prop where
  keep : ∀ b o, h.get? b = some o → h'.get? b = some o
  new : h.objs.size ≤ e
  obj : ∃ oe vs, h'.get? e = some oe ∧ oe.cls = .ref C ∧ oe.dict = some d ∧ oe.data = .fields vs ∧ vs[1]? = some .none ∧ vs[2]? = some .none ∧ 4 < vs.size
  dbig : h.objs.size ≤ d
  dne : d ≠ e
  ns : h'.Ns1 d (fun y => if y = n then some v else none)

theorem drop_own (D : Addr) (r : List Value) :
    ((Value.ref D :: r).dropWhile (· != .ref D)).drop 1 = r := by simp [List.dropWhile_cons]
theorem one_size (v : Value) : [v].length ≤ sizeLine := by
  rw [sizeLine_eq]
  exact (by decide : 1 ≤ 16777216)

section
variable {prog : Program}
variable {w : World}
variable {A : Around} {E : Value → Shared → Prop}
/-- super().__init__(..), the method-wrapper called -/
theorem call_mw {h : Heap} {g : Array GenState} {d : Drawn} {tk : Nat} {os : OsState} {K : Frag} {C u e t0 : Addr} {rest : List Value} {Q : Value → Shared → Prop} (X : K.In h) (q : excInitIn K C veTail "ValueError.__new__" = true)
    (hu : h.get? u = some (kxs_mw "ValueError.__init__" e)) (he : h.get? e = some (excO C t0)) (hz : rest.length ≤ sizeLine)
    (hq : ∀ h' t1, (∀ b o, b ≠ e → h.get? b = some o → h'.get? b = some o) → h'.get? e = some (excO C t1) → Q .none ⟨h', g, d, tk, os⟩) :
    wpAny (model prog w) A (call (.ref u) rest) Q E ⟨h, g, d, tk, os⟩ := by
  obtain ⟨c, hC, _⟩ := klAt_of X q
  unfold Kl.obj at hC
  refine wpAny_call (codeAny_of_tree (show wpAny _ A.in1 (callAny (.ref u) ⟨rest, []⟩) _ _ _ from ?_))
  unfold callAny
  refine wpAny_bind (wpAny_load hu (?_))
  have mw : ∀ a b : Bool, (a || b || (Value.type "method-wrapper" == Value.type "method-wrapper")) = true := fun a b => by
    rw [beq_self_eq_true, Bool.or_true]
  dsimp only [kxs_mw]
  rw [if_pos (mw _ _)]
  refine KFB.if_so (show _ from by decide) ?_
  refine wpAny_bind (check_bound_init F.excBase_ValueError.toExcCallFacts hC he rfl ?_)
  refine wpAny_bind (wpAny_pure (wpAny_pure (?_)))
  refine ⟨plainId_quiet F.excBase_ValueError.init.plain _, codeAny_builtin F.excBase_ValueError.initEntry ?_⟩
  exact exc_init_tree (cls := .ref C) (t0 := t0) (dv := none) (c2 := .none) (c3 := .none) (b4 := .bool false) he hz fun h' k e' _ => hq h' _ k e'

theorem own_init {R : Result → Shared → Prop} {s : Shared} {K : Frag} {mg mb : Str → Option Value} {x0 n : Str} {C fI x t0 : Addr} {v : Value} {args : Args} (T : Txt prog K mg x0 n C fI) (X : K.In s.heap) (hlim : s.heap.NoLimit)
    (G : s.heap.Ns mainGlobals mg) (Bl : s.heap.Ns builtinsNs mb) (hmb : ∀ x : Str, x ≠ "__name__" → mb x = bootBuiltins x)
    (hx : s.heap.get? x = some (excO C t0)) (hnx : K.lookup x = none) (hroom : A.depth < recursionLimit) (ha : args = ⟨[.ref x, v], []⟩ ∨ args = ⟨[.ref x], [(n, v)]⟩)
    (hq : ∀ h' tk dx t1, InitEnd s.heap h' x C dx t1 n v → R (.ok (.ret .none)) { s with heap := h', toks := tk }) :
    codeAny (model prog w) A (.call (.ref fI) args) R s := by
  obtain ⟨oc, od, osl, dV, kV, doc, pm, an, cda, cc, ct, p1, p2, q1, q2, q3, q4, q5, q6, q7, q8, q9, q0, text, qual, k1, ccl, cl, cdd, cld, vs, ccs, csl, file, tf, hf, hcd, ⟨ks, kc, kself, kn, kcell⟩, hcda, hvs, hfile, hcc, hb1, hb2, hsn, hnd, hline⟩ := T.fn
  obtain ⟨cd, bm, hcl, hmro, hbm, hhd, hal⟩ := T.cd
  have hbind : BindsTo s (ksFn "__init__" qual (oA n p1 p2) (oB n text k1 q1 q2 q3 q4 q5 q6 q7 q8 q9 q0) (oS n) dV kV doc pm an (.ref cda) ct cc) args [(("self" : Str), .ref x), (n, v)] := by
    rcases ha with rfl | rfl
    · exact .of_eq (hb1 _ _)
    · exact .of_eq (hb2 _ _)
  have hloc : ∀ y ∈ ([(("self" : Str), Value.ref x), (n, v)] : List (Str × Value)), (oS n).names.lookup y.1 = some .local := by
    intro y hy
    have hy' : y = (("self" : Str), Value.ref x) ∨ y = (n, v) := by simpa using hy
    rcases hy' with rfl | rfl
    · exact kself
    · exact kn
  refine ks_codeAny_call_defAt (fd := ksFn "__init__" qual (oA n p1 p2) (oB n text k1 q1 q2 q3 q4 q5 q6 q7 q8 q9 q0) (oS n) dV kV doc pm an (.ref cda) ct cc) (body := oB n text k1 q1 q2 q3 q4 q5 q6 q7 q8 q9 q0) (binds := [(("self" : Str), Value.ref x), (n, v)]) hroom (X _ _ hf) rfl hlim (codeRec_of X hcd) rfl hbind kcell hloc (fun h₁ hns k₁ => ?_) rfl rfl rfl
  rcases s with ⟨hp, g, d, tk, os⟩
  have X₁ : K.In h₁ := X.keeps k₁
  have hx₁ := k₁ _ _ hx
  have hlt : hp.objs.size < h₁.objs.size := hns.lt
  have mself : (([(("self" : Str), Value.ref x), (n, v)] : List (Str × Value)).reverse.lookup ("self" : Str)) = some (.ref x) := by
    show List.lookup ("self" : Str) [(n, v), (("self" : Str), Value.ref x)] = _
    rw [List.lookup_cons]
    simp only [hsn]
    rfl
  have mn : (([(("self" : Str), Value.ref x), (n, v)] : List (Str × Value)).reverse.lookup n) = some v := by
    show List.lookup n [(n, v), (("self" : Str), Value.ref x)] = _
    rw [List.lookup_cons]
    simp
  -- the class as the heap has it
  obtain ⟨oD, hD1, hD2⟩ : ∃ oD, h₁.get? C = some oD ∧ oD.data = .cls cd := by
    unfold clsIn at hcl
    split at hcl
    · rename_i c d' cd' sl ho
      cases hcl
      exact ⟨_, X₁ _ _ ho, rfl⟩
    · cases hcl
  have hxC : x ≠ C := fun z => by
    rw [z, hD1] at hx₁
    cases hx₁
    cases hD2
  have hsubD : Looks (model prog w) h₁ (isSubtype (.ref C) (.ref C)) true := looks_mroIn X₁ (by
    unfold mroIn
    rw [hcl, Option.bind_some, hmro]
    simp)
  refine ks_wpAt_execs_cons (ks_wpAt_Expr_any ?_ rfl (by first | rfl | with_unfolding_all rfl))
  refine ks_wpAt_MethodCall (pl := (do return (← importBound (.Call (.Name "super" q1) [] [] q2) (callEnv (ksFn "__init__" qual (oA n p1 p2) (oB n text k1 q1 q2 q3 q4 q5 q6 q7 q8 q9 q0) (oS n) dV kV doc pm an (.ref cda) ct cc) hp.objs.size fI)).getD true)) ?_ (by
    rw [arm_eval_Call]
    have hpos : ∀ env, methodCallPos true (.Call (.Name "super" q1) [] [] q2) env q3 q5 = pure q5 := fun env => by unfold methodCallPos; simp [hline]
    unfold methodCall
    rw [show methodCallForm _ _ _ = true from rfl, hpos]
    rfl)
  refine ks_wpAt_super_base (env := callEnv (ksFn "__init__" qual (oA n p1 p2) (oB n text k1 q1 q2 q3 q4 q5 q6 q7 q8 q9 q0) (oS n) dV kV doc pm an (.ref cda) ct cc) hp.objs.size fI) ks kc (by decide +kernel) rfl (X₁ _ _ hf) rfl rfl rfl (X₁ _ _ hcda) rfl hvs hfile T.top ?_
  refine ks_loadName_global rfl ks (loadGlobal_builtin (env := callEnv (ksFn "__init__" qual (oA n p1 p2) (oB n text k1 q1 q2 q3 q4 q5 q6 q7 q8 q9 q0) (oS n) dV kV doc pm an (.ref cda) ct cc) hp.objs.size fI) (G.keeps k₁) T.gS (Bl.keeps k₁) ((hmb _ (by decide +kernel)).trans (by first | boot_by_name | rfl | kernel_rfl)) ⟨rfl, ?_⟩)
  refine wpAny_loadName_free rfl kc rfl ⟨_, X₁ _ _ hcc, rfl⟩ ?_
  refine wpAny_loadName_local rfl kself hns mself ?_
  refine ks_wpAny_isType_cls hD1 hD2 ⟨by rfl, ?_⟩
  refine ks_wpAny_call_super hD1 hD2 hx₁ rfl (fun c z => by cases z) hsubD (fun h₂ hso k₂ => ?_)
  -- super().__init__
  have X₂ : K.In h₂ := X₁.keeps k₂
  have I₂ : PySem.W.InstAt h₂ x (excO C t0) C none := ⟨k₂ _ _ hx₁, rfl, rfl, trivial⟩
  have hI : Looks (model prog w) h₂ (isInstance (.ref x) (.type "ValueError")) true := I₂.type.andThen (looks_subIn X₂ T.veC)
  refine kxs_getMethod kxs_ValueError hso (looks_opaque X₂ T.tp) (l₀ := .ref C :: bm) ?_ (drop_own C bm) X₂ hal hI hxC (by decide +kernel) ?_
  · exact fun A Q E s k q => wpAny_bind ((looks_clsIn X₂ hcl) A _ E s k (wpAny_pure (by rw [hmro]; exact q)))
  have hu : (h₂.push (kxs_mw "ValueError.__init__" x)).get? h₂.objs.size = some (kxs_mw "ValueError.__init__" x) := Heap.get?_push_at rfl rfl
  have k₃ : ∀ b o, h₂.get? b = some o → (h₂.push (kxs_mw "ValueError.__init__" x)).get? b = some o := fun b o e => Heap.get?_push_of_some _ e
  show wpAny _ _ (callWith q5 (.ref h₂.objs.size) [] (backTo q5 (starEach [.Constant (.str text) k1 q4] _)) []) _ _ _
  refine kxs_callWith (i := "ValueError.__init__") (x := x) (by rfl) ?_
  refine evalArgs_plain ?_
  show wpAny _ _ (spliced ((false, eval (.Constant (.str text) k1 q4) _) :: backTo q5 (starEach [] (callEnv (ksFn "__init__" qual (oA n p1 p2) (oB n text k1 q1 q2 q3 q4 q5 q6 q7 q8 q9 q0) (oS n) dV kV doc pm an (.ref cda) ct cc) hp.objs.size fI)))) _ _ _
  refine Calls.spliced_cons (Calls.Constant_str (Calls.spliced_nil (?_)))
  refine ⟨hu, ?_⟩
  refine call_mw (K := K) (C := C) (e := x) (t0 := t0) (X₂.keeps k₃) T.cls hu (k₃ _ _ (k₂ _ _ hx₁)) (one_size _) (fun h₄ t₁ k₄ hx₄ => ?_)
  -- self.n = v
  have kall : ∀ b o, b ≠ x → h₁.get? b = some o → h₄.get? b = some o := fun b o hb e => k₄ b o hb (k₃ _ _ (k₂ _ _ e))
  have X₄ : K.In h₄ := fun b o e => kall b o (fun z => by rw [z, hnx] at e; cases e) (X₁ b o e)
  have hns₄ : h₄.Ns hp.objs.size (fun y => ([(("self" : Str), Value.ref x), (n, v)] : List (Str × Value)).reverse.lookup y) := by
    obtain ⟨oL, es, ep, hL, r⟩ := hns
    have xL : hp.objs.size ≠ x := Nat.ne_of_gt (Heap.lt_size hx)
    exact ⟨oL, es, ep, kall _ _ xL hL, r⟩
  refine ks_wpAt_execs_cons (ks_wpAt_Assign_Attr ?_ (by first | rfl | with_unfolding_all rfl))
  refine wpAt_of_wpAny (wpAny_Name (wpAny_loadName_local rfl kn hns₄ mn ?_) hnd)
  refine wpAny_Name (wpAny_loadName_local rfl kself hns₄ mself ?_) (by decide +kernel)
  refine set_plain X₄ (ox := excO C t₁) (od := none) ⟨hx₄, rfl, rfl, trivial⟩ T.sa ?_
  refine exc_osa X₄ hx₄ hcl (by rw [hmro]; exact hbm) hhd T.noN (fun h₅ tk₅ dx k₅ dn dne hx₅ hn₅ => ?_)
  show wpAt _ _ _ (execs [] _) _ _ _
  refine wpAt_of_wpAny (wpAny_execs_nil ?_)
  have z : hp.objs.size ≤ h₄.objs.size := by
    obtain ⟨oL, es, ep, hL, r⟩ := hns₄
    exact Nat.le_of_lt (Heap.lt_size hL)
  exact hq h₅ tk₅ dx t₁ ⟨fun b o hb e => k₅ b o hb (kall b o hb (k₁ _ _ e)), hx₅, Nat.le_trans z dn, dne, hn₅⟩

theorem own_made {R : Result → Shared → Prop} {s : Shared} {K : Frag} {mg mb : Str → Option Value} {x0 n : Str} {C fI : Addr} {v : Value} {rest : List Value} {kw : List (Str × Value)} (T : Txt prog K mg x0 n C fI) (X : K.In s.heap) (hlim : s.heap.NoLimit)
    (G : s.heap.Ns mainGlobals mg) (Bl : s.heap.Ns builtinsNs mb) (hmb : ∀ x : Str, x ≠ "__name__" → mb x = bootBuiltins x)
    (hroom : A.depth + 1 < recursionLimit) (ha : (rest = [v] ∧ kw = []) ∨ (rest = [] ∧ kw = [(n, v)]))
    (hq : ∀ h' tk e d, OwnMade s.heap h' e C d n v → R (.ok (.ret (.ref e))) { s with heap := h', toks := tk }) :
    codeAny (model prog w) A (.call (.ref C) ⟨rest, kw⟩) R s := by -- the class is called
  obtain ⟨hp, g, dr, tk, os⟩ := s
  have hz : rest.length ≤ sizeLine := by
    rcases ha with ⟨rfl, _⟩ | ⟨rfl, _⟩
    · exact one_size _
    · exact Nat.zero_le _
  have k : ∀ b o, hp.get? b = some o → ((hp.push (kdv_tup rest)).push (excO C hp.objs.size)).get? b = some o := fun b o e => Heap.get?_push_of_some _ (Heap.get?_push_of_some _ e)
  have hget : ((hp.push (kdv_tup rest)).push (excO C hp.objs.size)).get? (hp.objs.size + 1) = some (excO C hp.objs.size) := by heap_get
  have hnx : K.lookup (hp.objs.size + 1) = none := by
    cases e : K.lookup (hp.objs.size + 1) with
    | none => rfl
    | some o =>
      have z : hp.get? (hp.objs.size + 1) = some o := X _ _ e
      exact absurd (Nat.lt_of_succ_lt (Heap.lt_size z)) (Nat.lt_irrefl _)
  refine made_of (klAt_of X T.cls) hz (looks_findIn X T.iC) (fun self => bind_fn X self T.tC) ?_
  refine own_init (s := ⟨(hp.push (kdv_tup rest)).push (excO C hp.objs.size), g, dr, tk, os⟩) (v := v) T (X.keeps k) (hlim.keeps k) (G.keeps k) (Bl.keeps k) hmb hget hnx ?_ ?_ fun h' tk' dx t1 ⟨k', hx, dn, dne, hns⟩ => ?_
  · show A.depth + 1 < recursionLimit
    exact hroom
  · rcases ha with ⟨rfl, rfl⟩ | ⟨rfl, rfl⟩
    · exact .inl rfl
    · exact .inr rfl
  · have old : ∀ b o, hp.get? b = some o → h'.get? b = some o := fun b o e => k' b o (Nat.ne_of_lt (Nat.lt_succ_of_lt (Heap.lt_size e))) (k b o e)
    have z : hp.objs.size + 1 + 1 ≤ dx := by
      first
        | (simpa only [Heap.size_push] using dn)
        | exact dn
        | (have q := dn; rw [Heap.size_push, Heap.size_push] at q; exact q)
    exact ⟨rfl, hq h' tk' (hp.objs.size + 1) dx ⟨old, Nat.le_succ _, ⟨_, _, hx, rfl, rfl, rfl, rfl, rfl, (by show 4 < 6; decide)⟩, Nat.le_trans (Nat.le_trans (Nat.le_succ _) (Nat.le_succ _)) z, dne, hns⟩⟩
end
end Own
end PySem

set_option maxRecDepth 100000
set_option maxHeartbeats 3900000
/-! Own exceptions as values over the hand layer: made, their field read, asked by isinstance. -/
namespace L2
open PySem PySem.Spec PyProof.Rows

/-- an exception object of the class C, not raised yet, at a, its own dict at d -/
def ExV (C d a : Addr) : HO := .ext fun h => ∃ (oe : Obj) (vs : Array Value), h.get? a = some oe ∧ Zc (.ref C) (some d) oe ∧ oe.data = .fields vs ∧ vs[1]? = some .none
theorem exV_ok {P : Program} {w : World} {H : Hp} {h : Heap} {C d a : Addr} {oe : Obj} {vs : Array Value} (e : h.get? a = some oe) (z : Zc (.ref C) (some d) oe) (dt : oe.data = .fields vs) (h1 : vs[1]? = some .none) : ObjOk P w H h a (ExV C d a) :=
  ⟨⟨oe, vs, e, z, dt, h1⟩, ⟨oe, e⟩, fun _ _ ⟨o, v, q, r⟩ k => ⟨o, v, k o q, r⟩⟩

section
variable {X : Cx} {C fI : Addr} {x n : Str}
/-- a new exception of the class C with the field n -/
def mkOwn (C : Addr) (n : Str) (v : V) (H : Hp) (Q : VK) : Prop := ∀ a d, H a = none → H d = none → d ≠ a → Q (.ref a) (upd (upd H d (.xd [(n, v)])) a (ExV C d a))

theorem relO_one {n : Str} {v : V} {v' : Value} (r : RelV v v') (f : Str) : RelO (List.lookup f [(n, v)]) (if f = n then some v' else none) := by
  by_cases hw : f = n
  · subst hw
    rw [if_pos rfl]
    have q : List.lookup f [(f, v)] = some v := by simp [List.lookup]
    rw [q]
    exact r
  · rw [if_neg hw]
    have qw : (f == n) = false := by simpa using hw
    have q2 : List.lookup f [(n, v)] = none := by simp [List.lookup, qw]
    rw [q2]
    trivial

theorem run_own {k : Nat} {pins : List (Addr × Obj)} {σ : St} {H : Hp} {s : Shared} {Q : VK} {v : V} {u : Value} {us : List Value} {kw : List (Str × Value)} (T : PySem.Own.Txt X.prog X.K X.mg x n C fI) (hr : Room k X.A) (I : Inv X pins σ H s) (r : RelV v u)
    (ha : (us = [u] ∧ kw = []) ∨ (us = [] ∧ kw = [(n, u)])) (q : mkOwn C n v H Q) : wpAny (model X.prog X.w) X.A (call (.ref C) us kw) (EP X pins σ Q) X.xe s := by
  obtain ⟨mb, hmb, hbb⟩ := I.mod.blt
  refine wpAny_call (PySem.Own.own_made T I.kIn I.nolimit (I.mod.glob.keeps I.bk) (hmb.keeps I.bk) hbb (by have := hr.dp; omega) ha fun h' tk' e d M => ?_)
  obtain ⟨hp, g, dr, tk, os⟩ := s
  obtain ⟨oe, fv, hoe, hc, hd, hdat, h1, _, _⟩ := M.obj
  have He : H e = none := I.hok.fresh M.new
  have Hd : H d = none := I.hok.fresh M.dbig
  have ob : ObjOk X.prog X.w (upd H d (.xd [(n, v)])) h' d (.xd [(n, v)]) := ⟨_, M.ns, fun f => relO_one r f⟩
  have J : Inv X pins σ (upd H d (.xd [(n, v)])) ⟨h', g, dr, tk', os⟩ := I.laid (t' := tk') M.keep M.dbig ob
  have He2 : (upd H d (.xd [(n, v)])) e = none := by rw [upd_ne (Ne.symm M.dne)]; exact He
  have none_e : hp.get? e = none := Heap.get?_none_of_le M.new
  -- the exception itself: the heap as it stands, tracked now
  have J2 : Inv X pins σ (upd (upd H d (.xd [(n, v)])) e (ExV C d e)) ⟨h', g, dr, tk', os⟩ := by
    have I2 : Un X.fs [] H (upd (upd H d (.xd [(n, v)])) e (ExV C d e)) hp h' := by
      have a1 : Un X.fs [] H (upd H d (.xd [(n, v)])) hp h' := Un.laid M.keep M.dbig Hd
      refine ⟨a1.keep, a1.slot, fun b u q nn hb => ?_, a1.there, fun b xs q => ?_, fun b ob xs q => ?_, fun b ps q => ?_⟩
      · rw [upd_ne (fun z => by rw [z, none_e] at q; cases q)]
        exact a1.free b u q nn hb
      · rw [upd_ne (ne_of_none q He)]; exact a1.tups b xs q
      · rw [upd_ne (ne_of_none q He)]; exact a1.frzs b ob xs q
      · rw [upd_ne (ne_of_none q He)]; exact a1.tbls b ps q
    refine I.un (t' := tk') I2 fun b u q => ?_
    by_cases hb : b = e
    · subst hb
      rw [upd_same] at q
      cases q
      exact exV_ok hoe ⟨hc, hd⟩ hdat h1
    · rw [upd_ne hb] at q
      exact (J.hok b u q).stay (fun c w' _ z => z) (fun c z => by rw [upd_ne (ne_of_none z He2)]; exact z) fun c xs z => by rw [upd_ne (ne_of_none z He2)]; exact z
  exact ⟨.ref e, _, J2, rfl, q e d He Hd M.dne⟩

def tOwn (C : Addr) (n : Str) (ta : TA) : TE := fun σ H Q => ta σ H fun vs H1 => ∃ v, vs = [v] ∧ mkOwn C n v H1 Q
/-- X(e) -/
theorem pe_own {k : Nat} {e : Expr} {ta : TA} {p pos : Pos} (T : PySem.Own.Txt X.prog X.K X.mg x n C fI) (hr : Room k X.A) (ha : PA X [e] ta) (hg : Gl X x := by rfl) (hdb : (x == ("__debug__" : Str)) = false := by decide +kernel)
    (he : starEach (e :: []) X.env = (false, eval e X.env) :: starEach [] X.env := by rfl) (hpl : (backTo pos (starEach [] X.env)).any (·.1) = false := by rfl) :
    PE X (.Call (.Name x p) [e] [] pos) (tOwn C n ta) := by
  refine ⟨fun pins s σ H Q I h => ?_⟩
  refine wpAny_Call_Name_kw (ld_glob I hg T.gC ?_ hdb)
  refine PySem.W.callWith_K (h₀ := X.base) I.ok.mod.kin T.kC (thn (ha.run pos pins s σ H _ I h) fun us s1 hh => ?_) he hpl
  obtain ⟨vs, H1, I1, r1, v, ev, q1⟩ := hh
  subst ev
  refine ⟨I1.kIn, ?_⟩
  obtain ⟨u, rfl, r⟩ := vals1 r1
  exact run_own T hr I1 r (.inl ⟨rfl, rfl⟩) q1
/-- X(n = e) -/
theorem pe_ownK {k : Nat} {kws : List Keyword} {tk : TA} {p pos : Pos} (T : PySem.Own.Txt X.prog X.K X.mg x n C fI) (hr : Room k X.A) (hkw : PK X kws tk) (hg : Gl X x := by rfl) (hdb : (x == ("__debug__" : Str)) = false := by decide +kernel)
    (hall : (backToKw pos (keywordEach kws X.env)).all (·.1.isSome) = true := by rfl) (hks : (backToKw pos (keywordEach kws X.env)).filterMap (·.1) = [n] := by rfl)
    (hpl : ((backTo pos (starEach [] X.env)).any (·.1) || (backToKw pos (keywordEach kws X.env)).any (·.1.isNone)) = false := by rfl) : PE X (.Call (.Name x p) [] kws pos) (tOwn C n tk) := by
  refine ⟨fun pins s σ H Q I h => ?_⟩
  refine wpAny_Call_Name_kw (ld_glob I hg T.gC ?_ hdb)
  refine PySem.W.callWith_KW0 (h₀ := X.base) I.ok.mod.kin T.kC hall ?_ hpl
  refine thn (hkw.run pos pins s σ H _ I h) fun ws s2 ⟨zs, H2, I2, rz, v, ev, q2⟩ => ⟨I2.kIn, ?_⟩
  subst ev
  rw [hks]
  obtain ⟨u, rfl, r⟩ := vals1 rz
  exact run_own T hr I2 r (.inr ⟨rfl, rfl⟩) q2

/-- e.n, e an exception held as a value -/
def tExF (K : PySem.W.Frag) (n : Str) (te : TE) : TE := fun σ H Q => te σ H fun x H1 => ∃ (a d C : Addr) (fs : List (Str × V)) (v : V), x = .ref a ∧ H1 a = some (ExV C d a) ∧ XfC K C ∧ PySem.W.findIn K (.ref C) n = some none ∧ H1 d = some (.xd fs) ∧ fs.lookup n = some v ∧ Q v H1
theorem pe_exf {e : Expr} {te : TE} {pos : Pos} (he : PE X e te) (hb : attributeBase e n X.env (eval e X.env) = eval e X.env := by rfl) : PE X (.Attribute e n pos) (tExF X.K n te) := by
  refine ⟨fun pins s σ H Q I h => ?_⟩
  refine attr_of hb (thn (he.run pins s σ H _ I h) fun u s1 hh => ?_)
  obtain ⟨x, H1, I1, rx, a, d, C, fs, v, ex, ea, T, hno, ed, l, q⟩ := hh
  subst ex
  obtain rfl : u = Value.ref a := rx
  obtain ⟨⟨oe, vs, ho0, hz, hd, _⟩, _, _⟩ := I1.hok a _ ea
  have hx : ObjOk X.prog X.w H1 s1.heap d (.xd fs) := I1.hok d _ ed
  obtain ⟨mA, hns, hr⟩ := hx
  obtain ⟨od, ho, hl⟩ := lookIn_ns hns
  obtain ⟨u, hu, ru⟩ := RelO.some_of (v := v) (o := mA n) (l ▸ hr n)
  have J : PySem.W.InstAt s1.heap a oe C (some od) := ⟨ho0, hz.1, by unfold PySem.W.notCls; rw [hd] <;> rfl, by rw [hz.2]; exact ho⟩
  refine HandSPX.exc_get I1.kIn J T.ga T.gg T.exC ?_ (handed_of ru) ⟨v, H1, I1.tok _, ru, q⟩
  exact PySem.W.findObj_own T.hdC hno rfl (by rw [hl, hu])
end
end L2

set_option maxRecDepth 100000
set_option maxHeartbeats 3900000
/-! isinstance of exceptions held as values; repr of lists. -/
namespace L2
open PySem PySem.Spec PyProof.Rows

section
variable {X : Cx}
/-- isinstance(e, c), e an own exception held as a value -/
def rIsV (K : PySem.W.Frag) : List V → Hp → VK → Prop := fun xs H Q => ∃ (a d C : Addr) (fs : List (Str × V)) (c : V) (cv : Value) (b : Bool), xs = [.ref a, c] ∧ H a = some (ExV C d a) ∧ H d = some (.xd fs) ∧ ExcC K C ∧ (PySem.W.clsIn K C).isSome = true ∧ (∀ u, RelV c u → u = cv) ∧ PySem.W.kitOne K (.ref C) cv = some b ∧ Q (.bl b) H
theorem call_isV : CallR X (.builtin "isinstance") (rIsV X.K) := by
  rintro pins s σ H xs us Q I r ⟨a, d, C, fs, c, cv, b, rfl, ha, hd, T, hcl, hcv, e, q⟩
  cases r with
  | cons rx rr =>
    cases rr with
    | cons rt rr =>
      cases rr
      cases rx
      have ec := hcv _ rt
      subst ec
      obtain ⟨⟨oe, vs, ho0, hz, hdt, _⟩, _, _⟩ := I.hok a _ ha
      have hx : ObjOk X.prog X.w H s.heap d (.xd fs) := I.hok d _ hd
      obtain ⟨mA, hns, hr⟩ := hx
      obtain ⟨od, ho, hl⟩ := lookIn_ns hns
      have J : PySem.W.InstAt s.heap a oe C (some od) := ⟨ho0, hz.1, by unfold PySem.W.notCls; rw [hdt] <;> rfl, by rw [hz.2]; exact ho⟩
      exact PySem.W.kia_one (PySem.W.kitx_exc hcl T.hg T.hk T.hs T.ha T.hn T.ht T.hm) I.kIn J e (fun z => nomatch z) fun tk => ⟨.bl b, H, I.kept (t' := tk) fun _ _ z => z, rfl, q⟩

/-- data, an empty dict too -/
inductive Dq (K : PySem.W.Frag) (H : Hp) : V → PyData → Prop
  | data {v : V} {d : PyData} : Dp K H v d → d.hasDict = false → Dq K H v d
  | emp {a : Addr} : H a = some (.dK []) → Dq K H (.ref a) (.dict [])
theorem Dq.reads {pins : List (Addr × Obj)} {σ : St} {H : Hp} {s : Shared} (I : Inv X pins σ H s) {v : V} {d : PyData} {u : Value} (h : Dq X.K H v d) (r : RelV v u) : ∃ as, Reads s.heap u d as ∧ (d.hasDict = true → sysModules ∉ as) := by
  cases h with
  | data h hn =>
    obtain ⟨as, q⟩ := Dp.reads I d v u h r
    exact ⟨as, q, PyData.noDict_hsm hn⟩
  | @emp a e =>
    cases r
    obtain ⟨_, hsm, vs, rel, o, es, ep, ho, hx, hd, _, hp, _⟩ := dk_of I.hok e
    cases rel
    have e1 : es.toList = [] := by
      generalize es.toList = l at hp
      cases hp
      rfl
    have e0 : es = #[] := by simpa using e1
    subst e0
    refine ⟨_, Reads.dict ho hx.1 hd .nil .nil, fun _ hm => ?_⟩
    have z : sysModules = a := by simpa using hm
    rw [z] at hsm
    simp at hsm
theorem reads_four {h : Heap} {u : Value} {d : PyData} {as : List Addr} (r : Reads h u d as) (hsm : d.hasDict = true → sysModules ∉ as) : ∀ n, ∃ bs, ReadsAll h (List.replicate n u) (List.replicate n d) bs ∧ (PyData.hasDictAll (List.replicate n d) = true → sysModules ∉ bs)
  | 0 => ⟨[], .nil, fun _ => by simp⟩
  | n + 1 => by
    obtain ⟨bs, q, k⟩ := reads_four r hsm n
    refine ⟨as ++ bs, .cons r q, fun hx hm => ?_⟩
    cases hd : d.hasDict with
    | true =>
      rcases (List.mem_append.mp hm) with hm | hm
      · exact hsm hd hm
      · have : PyData.hasDictAll (List.replicate n d) = true ∨ n = 0 := by
          cases n with
          | zero => exact .inr rfl
          | succ n => exact .inl (by simp [List.replicate_succ, PyData.hasDictAll, hd])
        rcases this with t | t
        · exact k t hm
        · subst t
          cases q
          exact nomatch hm
    | false =>
      have : ∀ m, PyData.hasDictAll (List.replicate m d) = false := fun m => by
        induction m with
        | zero => rfl
        | succ m ih => simp [List.replicate_succ, PyData.hasDictAll, hd, ih]
      rw [this] at hx
      cases hx
/-- repr(xs), xs a list of n equal data -/
def rRepN (K : PySem.W.Frag) : List V → Hp → VK → Prop := fun xs H Q => ∃ (p : Addr) (n : Nat) (v : V) (d : PyData), xs = [.ref p] ∧ SqL K H p (List.replicate (n + 1) v) ∧ Dq K H v d ∧ d.showable = true ∧ d.depth ≤ 30 ∧
  (listText (PyData.shownAll (List.replicate (n + 1) d))).length ≤ sizeLine ∧ Q (.str (listText (PyData.shownAll (List.replicate (n + 1) d)))) H
theorem depthAll_rep (d : PyData) : ∀ n, PyData.depthAll (List.replicate n d) ≤ d.depth
  | 0 => Nat.zero_le _
  | n + 1 => by
    have := depthAll_rep d n
    simp only [List.replicate_succ, PyData.depthAll]
    omega
theorem showAll_rep {d : PyData} (h : d.showable = true) : ∀ n, PyData.showableAll (List.replicate n d) = true
  | 0 => rfl
  | n + 1 => by simp [List.replicate_succ, PyData.showableAll, h, showAll_rep h n]
theorem vals_rep {v : V} : ∀ {n : Nat} {us : List Value}, Vals (List.replicate n v) us → ∀ {h : Heap} {d : PyData}, (∀ u, RelV v u → ∃ as, Reads h u d as ∧ (d.hasDict = true → sysModules ∉ as)) → ∃ bs, ReadsAll h us (List.replicate n d) bs ∧ (PyData.hasDictAll (List.replicate n d) = true → sysModules ∉ bs)
  | 0, _, .nil, _, _, _ => ⟨[], .nil, fun _ => by simp⟩
  | n + 1, _, .cons r t, h, d, f => by
    obtain ⟨bs, q, k⟩ := vals_rep t f
    obtain ⟨as, ra, ka⟩ := f _ r
    refine ⟨as ++ bs, .cons ra q, fun hx hm => ?_⟩
    cases hd : d.hasDict with
    | true =>
      rcases (List.mem_append.mp hm) with hm | hm
      · exact ka hd hm
      · cases n with
        | zero =>
          cases q
          exact nomatch hm
        | succ n => exact k (by simp [List.replicate_succ, PyData.hasDictAll, hd]) hm
    | false =>
      have : ∀ m, PyData.hasDictAll (List.replicate m d) = false := fun m => by
        induction m with
        | zero => rfl
        | succ m ih => simp [List.replicate_succ, PyData.hasDictAll, hd, ih]
      rw [this] at hx
      cases hx
theorem call_repN (hg : X.A.guards = some []) (hu : X.A.units + 64 < cLine) : CallR X (.builtin "repr") (rRepN X.K) := by
  rintro pins s σ H xs us Q I r ⟨p, n, v, d, rfl, hp, hd, hs, hdep, hz, q⟩
  rcases vals1 r with ⟨u, rfl, rx⟩
  cases (show u = Value.ref p from rx)
  obtain ⟨its, rv, ⟨o, m, ho, hc, _, hdt⟩, _⟩ := I.list hp
  obtain ⟨as, ra, ka⟩ := vals_rep rv (fun u r => Dq.reads I hd r)
  obtain ⟨bs, hb, hk⟩ := ReprAllK.of_readsAll (prog := X.prog) (w := X.w) ra (showAll_rep hs _) ka (fun t ht => Nat.le_trans (listText_mem_le ht) hz)
  have dp := depthAll_rep d (n + 1)
  have hna : p ∉ bs := not_mem_of_deeper (.list ho hc hdt ra) (by simp only [PyData.depth]; omega) hb
  have hT : s.TypeIs (.ref p) "list" := ⟨o, ho, hc⟩
  refine call_repr_slot (by omega) hT PySem.F.slot_list_repr.toG ?_
  cases its with
  | nil => cases rv
  | cons x l =>
    exact call_list_reprK ho hc hdt hna (by simpa using hk.length_eq) (fun i y e => hk.item i y (by simpa using e)) hg (fun b _ => Clear.nil b) (by show X.A.units + 1 + _ < cLine; omega) (fun _ _ e => e) (fun h' u tk hk' => ⟨_, _, rfl, .str _, H, I.kept (t' := tk) hk', ⟨_, rfl⟩, q⟩) hz
end
end L2

set_option maxRecDepth 100000
set_option maxHeartbeats 3900000
/-! Promises of defs that run where no repr is under way (the list of guards is empty): repr may be asked there. -/
namespace L2
open PySem PySem.Spec PyProof.Rows

/-- as FnOk, kept where no guard stands -/
structure FnG (P : Program) (w : World) (K : PySem.W.Frag) (mg : Str → Option Value) (base : Heap) (CX : CXT) (k : Nat) (f : Addr) (fd : FuncData) (ps : List Str) (sp : Sp) : Prop where
  len : ∀ (vs : List V) (H : Hp) (Q : VK) (E : XK), sp vs H Q E → vs.length = ps.length
  run : ∀ (A : Around) (outer : List Env) (s : Shared) (H : Hp) (args : Args) (us : List Value) (vs : List V) (Q : VK) (E : XK), A.guards = some [] → Room k A →
    Env0 P w K mg base A outer s H → BindsTo s fd args (ps.zip us) → Vals vs us → sp vs H Q E → codeAny (model P w) A (.call (.ref f) args) (CR CX outer P w H s Q E) s
theorem FnOk.g {P : Program} {w : World} {K : PySem.W.Frag} {mg : Str → Option Value} {base : Heap} {CX : CXT} {k : Nat} {f : Addr} {fd : FuncData} {ps : List Str} {sp : Sp}
    (F : FnOk P w K mg base CX k f fd ps sp) : FnG P w K mg base CX k f fd ps sp := ⟨F.len, fun A outer s H args us vs Q E _ => F.run A outer s H args us vs Q E⟩

section
variable {P : Program} {w : World} {K : PySem.W.Frag} {mg : Str → Option Value} {base : Heap}
/-- a def by its body, where no guard stands -/
theorem Fun.okG {x qual : Str} {st : Stmt} {f : Addr} {fd : FuncData} {N ps : List Str} {k : Nat} {sp : Sp} (F : Fun K x qual st f fd) (S : FnScope N ps (defScope st)) (len : ∀ vs H Q E, sp vs H Q E → vs.length = ps.length)
    (body : ∀ (cdv : Value) (A : Around) (outer : List Env) (s : Shared) (H : Hp) (vs : List V) (Q : VK) (E : XK), A.guards = some [] → Room k (A.deeper (envOfC qual (defScope st) s.heap.objs.size f cdv)) → sp vs H Q E →
      ∃ t, PSs (cxOf CX0 P w K mg base N qual (defScope st) f cdv A outer s H E).nox (defBody st) t ∧ t { nx := fun _ H' => Q .non H', rt := Q } (start N vs) H) :
    FnG P w K mg base CX0 (k + 1) f fd ps sp := by
  rcases F.ex with ⟨oc, od, kV, doc, pm, an, cdv, ct, osl, rfl, lk, hcd⟩
  refine ⟨len, fun A outer s H args us vs Q E hg hr e0 hb r hs => ?_⟩
  have here : ∀ b o, base.get? b = some o → s.heap.get? b = some o := fun b o e => (e0.bs b o e).1
  have X : K.In s.heap := e0.mod.kin.keeps here
  have kinds : ∀ y ∈ ps.zip us, (defScope st).names.lookup y.1 = some .local ∨
      ((defScope st).names.lookup y.1 = some .cell ∧ ((cellsFrom (s.heap.objs.size + 1) (defScope st).names []).lookup y.1).isSome = true) := by
    rintro ⟨n, v⟩ hy
    exact (S.par n (List.of_mem_zip hy).1).imp id fun q => ⟨q, PySem.W.cellsFrom_some _ _ _ (.inl q)⟩
  refine codeAny_call_function hr.depth (X _ _ lk) (by rfl) S.co S.gen (by rfl) (PySem.W.codeRec_of X hcd) (hb _ _ _ _ ?_)
  refine wpAny_newFunctionEnv_cells S.kind kinds (fun env he s1 x => ?_)
  cases he
  obtain ⟨t, ht, q⟩ := body cdv A outer s H vs Q E hg (hr.deeper _) hs
  have I := inv_start (CX := CX0) (P := P) (w := w) (K := K) (mg := mg) (base := base) (E := E) S hr.hd e0 (len _ _ _ _ hs) r x
  refine ⟨(e0.mod.nolimit.keeps here).keeps x.toInCall.keep, codeAny_func (wpAny_mono (ht.nox.run [] s1 _ H _ I q) (fun fl s' z => ?_) fun _ _ z => z)⟩
  match fl, z with
  | .ret u, ⟨v, σ', H', J, rv, q'⟩ => exact ⟨v, H', J.os, J.bare, J.base, J.hok, rv, q'⟩
  | .next, ⟨σ', H', J, q'⟩ => exact ⟨V.non, H', J.os, J.bare, J.base, J.hok, rfl, q'⟩
  | .brk, ⟨_, _, _, q'⟩ => exact False.elim q'
  | .cont, ⟨_, _, _, q'⟩ => exact False.elim q'
end

/-- the script alone, as it is tracked ahead of the law's call -/
def scriptHp (a : Addr) (vs : List Value) (ns : List Int) : Hp := fun b => if b = a then some (.frz { cls := .type "list", data := .seq vs.toArray } (.lst (ns.map V.int))) else none

/-- the law's own call, by what its def promises of the script -/
theorem lawG {P : Program} {w : World} {K : PySem.W.Frag} {mg mb : Str → Option Value} {k : Nat} {fa a : Addr} {fd : FuncData} {x : Str} {sp : Sp} {s₁ : Shared} {vs : List Value} {ns : List Int}
    (KX : K.In s₁.heap) (hns : s₁.heap.Ns mainGlobals mg) (hb : s₁.heap.Ns builtinsNs mb) (hbb : ∀ x : Str, x ≠ "__name__" → mb x = bootBuiltins x) (hlim : s₁.heap.NoLimit) (hgen : s₁.gens = #[])
    (ha : s₁.heap.get? a = some { cls := .type "list", data := .seq vs.toArray }) (hi : IntsAre vs ns) (hl : ns.length ≤ sizeLine) (hr : Room k PySem.callerA)
    (F : ∀ base : Heap, K.In base → base.Ns mainGlobals mg → FnG P w K mg base CX0 k fa fd [x] sp) (hbind : ∀ (s : Shared) (u : Value), BindsTo s fd ⟨[u], []⟩ [(x, u)])
    (hsp : ∀ H : Hp, Only H → SqL K H a (ns.map V.int) → sp [.ref a] H (fun v _ => v = .bl true) fun _ _ _ => False) :
    codeAny (model P w) PySem.callerA (.call (.ref fa) ⟨[.ref a], []⟩) (fun r s' => r = .ok (.ret (.bool true)) ∧ OldK s₁.heap s'.heap ∧ s'.os = s₁.os ∧ AllBare s'.gens) s₁ := by
  -- which heap is told of: the script's alone, nothing where the module has it
  suffices main : ∀ H : Hp, Only H → SqL K H a (ns.map V.int) → HOk P w H s₁.heap → (∀ b u, H b = some u → b = a ∧ K.lookup b = none) →
      codeAny (model P w) PySem.callerA (.call (.ref fa) ⟨[.ref a], []⟩) (fun r s' => r = .ok (.ret (.bool true)) ∧ OldK s₁.heap s'.heap ∧ s'.os = s₁.os ∧ AllBare s'.gens) s₁ by
    cases e : K.lookup a with
    | some o =>
      have e' := KX a o e
      rw [ha] at e'
      cases e'
      have few : vs.toArray.size ≤ sizeLine := by
        rw [List.size_toArray]
        exact hi.length ▸ hl
      exact main (fun _ => none) (fun _ => .inl rfl) (.inr ⟨_, vs.toArray, _, e, rfl, rfl, rfl, few, by simpa using vals_ints hi⟩) (fun b u z => nomatch z) fun b u z => nomatch z
    | none =>
      have at_a : scriptHp a vs ns a = some (.frz { cls := .type "list", data := .seq vs.toArray } (.lst (ns.map V.int))) := if_pos rfl
      have else_ : ∀ b u, scriptHp a vs ns b = some u → b = a := fun b u z => Classical.byContradiction fun n => by
        rw [show scriptHp a vs ns b = none from if_neg n] at z
        cases z
      refine main (scriptHp a vs ns) (fun b => ?_) (.inl (.inr ⟨_, at_a⟩)) (fun b u z => ?_) fun b u z => ?_
      · by_cases n : b = a
        · exact .inr ⟨_, _, by rw [n]; exact at_a⟩
        · exact .inl (if_neg n)
      · cases else_ b u z
        rw [at_a] at z
        cases z
        exact ⟨ha, by rw [List.length_map]; exact hl, vs, _, vals_ints hi, ha⟩
      · cases else_ b u z
        exact ⟨rfl, e⟩
  intro H hO hS hok hA
  have low : ∀ {b : Addr} {o : Obj}, s₁.heap.get? b = some o → H b = none → (hidT s₁.heap H).get? b = some o := hidT_get
  have nsLow : ∀ {b : Addr} {m : Str → Option Value}, s₁.heap.Ns b m → (hidT s₁.heap H).Ns b m := fun {b m} ⟨o, es, ep, e, d, r⟩ => by
    refine ⟨o, es, ep, low e ?_, d, r⟩
    cases q : H b with
    | none => rfl
    | some u =>
      obtain ⟨rfl, _⟩ := hA b u q
      rw [ha] at e
      cases e
      exact nomatch d
  have kLow : K.In (hidT s₁.heap H) := fun b o e => low (KX b o e) (by
    cases q : H b with
    | none => rfl
    | some u =>
      rw [(hA b u q).2] at e
      cases e)
  obtain ⟨mc, l1, l2⟩ := hlim
  have e0 : Env0 P w K mg (hidT s₁.heap H) PySem.callerA [] s₁ H :=
    ⟨by rfl, ⟨kLow, nsLow hns, ⟨mb, nsLow hb, hbb⟩, mc, nsLow l1, l2⟩, fun b o e => of_hidT e, Nat.le_of_eq (hidT_size _ _), trivial, fun b z => (by simpa [frs] using z : False).elim, hok, .of_eq hgen⟩
  refine codeAny_mono ((F _ kLow (nsLow hns)).run PySem.callerA [] s₁ H ⟨[.ref a], []⟩ [.ref a] [.ref a] _ _ (by rfl) hr e0 (hbind s₁ (.ref a)) (.cons rfl .nil) (hsp H hO hS)) fun r s' h => ?_
  match r, h with
  | .error _, h => exact False.elim h
  | .ok .next, h => exact False.elim h
  | .ok .brk, h => exact False.elim h
  | .ok .cont, h => exact False.elim h
  | .ok (.ret u), ⟨v, H', os, bare, un, hok', r', q⟩ =>
    cases (show v = V.bl true from q)
    cases (show u = Value.bool true from r')
    refine ⟨rfl, OldK.of_keep fun b o e => (?_), os, bare⟩
    rcases (hO b) with z | ⟨ob, xs, z⟩
    · exact un.keep b o e z (fun m => (by simpa [frs] using m : False).elim) fun m => (by simpa using m : False).elim
    · have e1 := (hok b _ z).1
      rw [e] at e1
      cases e1
      exact (hok' b _ (un.frzs b _ _ z)).1

/-- the goal that the head leaves, from the law's promise -/
theorem walkG {l : PySem.W.OpenLaw} {n k : Nat} {q : Program} {loose : List Str} {XP : (Str → Option Value) → Heap → Prop} {YP : World → Heap → Prop} {d : PySem.DefRec} {K : Params → PySem.W.Frag} {sp : PySem.W.Frag → Sp} {x : Str}
    (hn : l.most = some n) (hn2 : n ≤ sizeLine) (hdf : d.params.defaults = []) (hr : Room k PySem.callerA) (hY : ∀ (w : World) (h : Heap), YP w h → (K w.params).In h)
    (F : ∀ (w : World) (mg : Str → Option Value) (fa : Addr) (h : Heap), (K w.params).In h → h.Ns mainGlobals mg → mg d.name = some (.ref fa) →
      ∃ fd : FuncData, (∀ (s : Shared) (u : Value), BindsTo s fd ⟨[u], []⟩ [(x, u)]) ∧ ∀ base : Heap, (K w.params).In base → base.Ns mainGlobals mg → FnG l.prog w (K w.params) mg base CX0 k fa fd [x] (sp (K w.params)))
    (hsp : ∀ (K : PySem.W.Frag) (H : Hp) (a : Addr) (ns : List Int), ns.length ≤ n → Only H → SqL K H a (ns.map V.int) → sp K [.ref a] H (fun v _ => v = .bl true) fun _ _ _ => False) :
    PySem.W.WalkO q loose XP YP l.row.toRowW d [] fun f vs => PySem.call f vs := by
  refine Att.attach_call hn hdf fun w s₀ s₁ mg mb fa o pm cd doc a vs ns G Y _ _ _ hmg hobj hints hlen hg => ?_
  obtain ⟨fd, hb, hF⟩ := F w mg fa _ (hY w _ Y) G.T.g hmg
  exact lawG (hY w _ Y) G.T.g G.T.b G.T.builtins G.T.nolimit hg hobj hints (Nat.le_trans hlen hn2) hr hF hb fun H hO hS => hsp (K w.params) H a ns hlen hO hS
end L2

set_option maxRecDepth 100000
set_option maxHeartbeats 3900000
/-! Walks of own: zip of a list and a tuple, either way about; enumerate of a tuple. A side is a tuple where its mark is true, else a list. -/
namespace Zm
open PySem PySem.Spec PyProof.Rows L2
def Sq (K : PySem.W.Frag) (m : Bool) (H : Hp) (a : Addr) (xs : List V) : Prop := match m with
  | true => SqT K H a xs
  | false => SqL K H a xs
def Seq (m : Bool) (h : Heap) (l : Addr) (its : Array Value) : Prop := match m with
  | true => h.IsTuple l its
  | false => h.IsList l its
def Itr (m : Bool) (h : Heap) (it l : Addr) (i : Nat) : Prop := match m with
  | true => h.IsTupleIter it l i
  | false => h.IsListIter it l i
def its0 (m : Bool) (l : Addr) : Obj := match m with
  | true => { cls := .type "tuple_iterator", data := .fields #[.ref l, .int 0 0] }
  | false => { cls := .type "list_iterator", data := .fields #[.ref l, .int 0 0] }
theorem begins (m : Bool) (l : Addr) (its : Array Value) : Begins (.ref l) (its0 m l) (fun h => Seq m h l its) := by
  cases m
  · exact begins_list l its
  · exact begins_tuple l its
theorem draws {P : Program} {w : World} {A : Around} (m : Bool) (hh : A.handled = none) (it l : Addr) (ne : l ≠ it) (xs : Array Value) :
    Draws P w A it [it, l] xs.size (fun i v => xs[i]? = some v) (fun i h => Itr m h it l i ∧ Seq m h l xs) := by
  cases m
  · exact Draws.list hh it l ne xs
  · exact Draws.tuple hh it l ne xs
theorem itr0 {m : Bool} {h : Heap} {it l : Addr} (e : h.get? it = some (its0 m l)) : Itr m h it l 0 := by
  cases m
  · exact ⟨_, e, rfl, rfl⟩
  · exact ⟨_, e, rfl, rfl⟩
theorem Itr.lives {m : Bool} {h : Heap} {it l : Addr} {i : Nat} (x : Itr m h it l i) : ∃ o, h.get? it = some o ∧ ∀ v, o.data ≠ .cell v := by
  cases m
  · obtain ⟨o, e, _, d⟩ := x
    exact ⟨o, e, fun v q => by rw [d] at q; cases q⟩
  · obtain ⟨o, e, _, d⟩ := x
    exact ⟨o, e, fun v q => by rw [d] at q; cases q⟩
theorem Itr.kept {m : Bool} {h h' : Heap} {it l : Addr} {i : Nat} (x : Itr m h it l i) (k : ∀ o, h.get? it = some o → h'.get? it = some o) : Itr m h' it l i := by
  cases m
  · obtain ⟨o, e, c⟩ := x
    exact ⟨o, k o e, c⟩
  · obtain ⟨o, e, c⟩ := x
    exact ⟨o, k o e, c⟩
theorem side {X : Cx} {pins : List (Addr × Obj)} {σ : L2.St} {H : Hp} {s : Shared} {m : Bool} {a : Addr} {xs : List V} (I : Inv X pins σ H s) (h : Sq X.K m H a xs) : ∃ us : List Value, Vals xs us ∧ Seq m s.heap a us.toArray ∧ a < s.heap.objs.size := by
  cases m
  · obtain ⟨us, r, p, _⟩ := I.list h
    exact ⟨us, r, p.isList, p.lt⟩
  · obtain ⟨us, r, p, _⟩ := I.tuple h
    obtain ⟨o, e, q⟩ := id p
    exact ⟨us, r, p, Heap.lt_size e⟩
theorem one {X : Cx} {pins : List (Addr × Obj)} {σ : L2.St} {H : Hp} {s : Shared} {m : Bool} {a : Addr} {xs ys : List V} (I : Inv X pins σ H s) (h : Sq X.K m H a xs) (k : Sq X.K m H a ys) : xs = ys := by
  cases m
  · exact I.list_inj h k
  · exact I.tuple_inj h k
/-- the two as they stand at each turn, their items in new pairs -/
def ItM (K : PySem.W.Frag) (m k : Bool) (a b : Addr) : It :=
  ⟨fun i H => ∃ xs ys x y, Sq K m H a xs ∧ Sq K k H b ys ∧ xs[i]? = some x ∧ ys[i]? = some y,
   fun i H v H' => ∃ T x y, v = .ref T ∧ H T = none ∧ H' = upd H T (.tup [x, y]) ∧ (∀ xs, Sq K m H a xs → xs[i]? = some x) ∧ (∀ ys, Sq K k H b ys → ys[i]? = some y),
   fun i H => ∃ xs ys, Sq K m H a xs ∧ Sq K k H b ys ∧ i ≤ xs.length ∧ i ≤ ys.length ∧ (xs.length ≤ i ∨ ys.length ≤ i)⟩
def five (n : Nat) : List Nat := [n + 4, n + 2, n + 3, n, n + 1]
theorem five_out {n c : Nat} (h : c ∉ five n) : c ≠ n + 4 ∧ c ≠ n + 2 ∧ c ≠ n + 3 ∧ c ≠ n ∧ c ≠ n + 1 := by
  simp only [five, List.mem_cons, List.not_mem_nil, or_false, not_or] at h
  exact ⟨h.1, h.2.1, h.2.2.1, h.2.2.2.1, h.2.2.2.2⟩
theorem five_in {n c : Nat} (h : c ∈ five n) : n ≤ c ∧ c < n + 5 := by
  simp only [five, List.mem_cons, List.not_mem_nil, or_false] at h
  omega
theorem apart {n a b : Nat} (ha : a < n) (hb : b < n) : ZipSep2 (n + 4) (n + 2) (n + 3) n (n + 1) [n, a] [n + 1, b] := by
  have out : ∀ {x y z : Nat}, x ≠ y → x ≠ z → x ∉ [y, z] := fun h k => by
    simp only [List.mem_cons, List.not_mem_nil, or_false, not_or]
    exact ⟨h, k⟩
  have ne : ∀ {x y : Nat}, x ≠ y → @Ne Addr x y := fun h => h
  exact ⟨ne (by omega), ne (by omega), ne (by omega), ne (by omega), List.mem_cons_self, out (by omega) (by omega), out (by omega) (by omega), ne (by omega), List.mem_cons_self, out (by omega) (by omega), out (by omega) (by omega), out (by omega) (by omega), out (by omega) (by omega)⟩
theorem turn {P : Program} {w : World} {K : PySem.W.Frag} {es : List Expr} {kk : Nat} {tp : Pos} {m k : Bool} {a b : Addr} {n : Nat} (ha : (a : Nat) < n) (hb : (b : Nat) < n) :
    Turn P w K (.Tuple es kk tp) (ItM K m k a b) (five n) (n + 4 : Nat) (fun i h => IsZip h (n + 4 : Nat) (n + 2 : Nat) (n + 3 : Nat) .none ∧ IsTupOf2 h (n + 2 : Nat) (.ref (n : Nat)) (.ref (n + 1 : Nat)) ∧ (∃ x y, IsTupOf2 h (n + 3 : Nat) x y) ∧ Itr m h (n : Nat) a i ∧ Itr k h (n + 1 : Nat) b i) where
  mem := List.mem_cons_self
  obj := fun i h ⟨z, ti, ⟨x, y, to⟩, u1, u2⟩ c hc => by
    simp only [five, List.mem_cons, List.not_mem_nil, or_false] at hc
    rcases hc with q | q | q | q | q
    · exact q ▸ ⟨_, z, fun v r => nomatch r⟩
    · exact q ▸ ⟨_, ti, fun v r => nomatch r⟩
    · exact q ▸ ⟨_, to, fun v r => nomatch r⟩
    · exact q ▸ u1.lives
    · exact q ▸ u2.lives
  keep := fun i h h' ⟨z, ti, ⟨x, y, to⟩, u1, u2⟩ kp =>
    have mem : ∀ c : Nat, c = n + 4 ∨ c = n + 2 ∨ c = n + 3 ∨ c = n ∨ c = n + 1 → c ∈ five n := fun c q => by
      simp only [five, List.mem_cons, List.not_mem_nil, or_false]
      exact q
    ⟨kp _ (mem _ (by omega)) _ z, kp _ (mem _ (by omega)) _ ti, ⟨x, y, kp _ (mem _ (by omega)) _ to⟩, u1.kept fun o e => kp _ (mem _ (by omega)) o e, u2.kept fun o e => kp _ (mem _ (by omega)) o e⟩
  item := by
    intro X eP ew eK hc i pins s σ H E I hf ⟨hz, hTI, ⟨x0, y0, hTO⟩, h1, h2⟩ ⟨xs, ys, x, y, hx, hy, gx, gy⟩
    subst eP ew eK
    obtain ⟨us, r1, p1, l1⟩ := side I hx
    obtain ⟨vs, r2, p2, l2⟩ := side I hy
    obtain ⟨u, gu, ru⟩ := r1.get gx
    obtain ⟨v, gv, rv⟩ := r2.get gy
    have z5 : (n + 4 : Nat) < s.heap.objs.size := Heap.lt_size hz
    have nn : ∀ {x y : Nat}, x ≠ y → @Ne Addr x y := fun h => h
    have na : @Ne Addr a (n : Nat) := Nat.ne_of_lt ha
    have nb : @Ne Addr b (n + 1 : Nat) := Nat.ne_of_lt (Nat.lt_succ_of_lt hb)
    have D1 := draws (P := X.prog) (w := X.w) (A := X.A.in1) m (I.ok.hd hc) (n : Nat) a na us.toArray
    have D2 := draws (P := X.prog) (w := X.w) (A := X.A.in1) k (I.ok.hd hc) (n + 1 : Nat) b nb vs.toArray
    have i1 : i < us.toArray.size := by
      have := (List.getElem?_eq_some_iff.mp gu).1
      simpa using this
    have i2 : i < vs.toArray.size := by
      have := (List.getElem?_eq_some_iff.mp gv).1
      simpa using this
    refine wpAny_pyNext_zipD2_item (apart ha hb) D1 D2 hz hTI hTO ⟨h1, p1⟩ ⟨h2, p2⟩ i1 i2 fun x1 x2 h' tk q1 q2 z' TO' s1 s2 hT hsz hk => ?_
    have eu : x1 = u := by
      have q1 : us.toArray[i]? = some x1 := q1
      rw [List.getElem?_toArray, gu] at q1
      exact (Option.some.inj q1).symm
    have ev : x2 = v := by
      have q2 : vs.toArray[i]? = some x2 := q2
      rw [List.getElem?_toArray, gv] at q2
      exact (Option.some.inj q2).symm
    subst eu ev
    refine ⟨_, rfl, wpAny_letOwnedTupleGo_zip (s := { s with heap := h', toks := tk }) z' fun h'' z'' sb => ?_⟩
    have sz : (s.heap.objs.size : Nat) ≠ n + 4 := by omega
    have hT2 : h''.get? s.heap.objs.size = some { cls := .type "tuple", data := .seq #[x1, x2] } := (sb.2 _ sz).trans hT
    have new : ObjOk X.prog X.w (upd H s.heap.objs.size (.tup [x, y])) h'' s.heap.objs.size (.tup [x, y])
        :=
      ⟨(by show 2 ≤ sizeLine; decide), [x1, x2], .cons ru (.cons rv .nil), _, hT2, rfl, _, rfl⟩
    have I1 : Inv X pins σ (upd H s.heap.objs.size (.tup [x, y])) { s with heap := h'', toks := tk } :=
      I.turnedNew (t' := tk) (ch := five n) (fun c o hc' q => by
        obtain ⟨c1, c2, c3, c4, c5⟩ := five_out hc'
        exact (sb.2 c c1).trans (hk c o c1 c3 c4 c5 q)) hf (Nat.le_refl _) new
    refine ⟨.ref s.heap.objs.size, _, I1, rfl, ⟨_, x, y, rfl, I.hok.fresh (Nat.le_refl _), rfl, fun l hl => by rw [one I hl hx]; exact gx, fun l hl => by rw [one I hl hy]; exact gy⟩, ⟨z'', ?_, ⟨x1, x2, ?_⟩, ?_, ?_⟩, fun c hcm => ?_⟩
    · exact (sb.2 _ (nn (by omega))).trans (hk _ _ (nn (by omega)) (nn (by omega)) (nn (by omega)) (nn (by omega)) hTI)
    · exact (sb.2 _ (nn (by omega))).trans TO'
    · exact s1.1.kept fun o q => (sb.2 _ (nn (by omega))).trans q
    · exact s2.1.kept fun o q => (sb.2 _ (nn (by omega))).trans q
    · have := (five_in hcm).2
      rw [upd_ne (Nat.ne_of_lt (Nat.lt_of_lt_of_le this z5))]
      exact (hf c hcm).1
  done := by
    intro X eP ew eK hc i pins s σ H E I hf ⟨hz, hTI, ⟨x0, y0, hTO⟩, h1, h2⟩ ⟨xs, ys, hx, hy, le1, le2, hend⟩
    subst eP ew eK
    obtain ⟨us, r1, p1, l1⟩ := side I hx
    obtain ⟨vs, r2, p2, l2⟩ := side I hy
    have nn : ∀ {x y : Nat}, x ≠ y → @Ne Addr x y := fun h => h
    have na : @Ne Addr a (n : Nat) := Nat.ne_of_lt ha
    have nb : @Ne Addr b (n + 1 : Nat) := Nat.ne_of_lt (Nat.lt_succ_of_lt hb)
    have D1 := draws (P := X.prog) (w := X.w) (A := X.A.in1) m (I.ok.hd hc) (n : Nat) a na us.toArray
    have D2 := draws (P := X.prog) (w := X.w) (A := X.A.in1) k (I.ok.hd hc) (n + 1 : Nat) b nb vs.toArray
    have e1 := r1.length
    have e2 := r2.length
    refine wpAny_pyNext_zipD2_end (i := i) (apart ha hb) D1 D2 hz hTI hTO ⟨h1, p1⟩ ⟨h2, p2⟩ (by rw [List.size_toArray]; omega) (by rw [List.size_toArray]; omega) ?_ fun h' tk hk => ⟨rfl, I.turnedL (t' := tk) (ch := five n) (fun c o hc' q => ?_) hf⟩
    · rw [List.size_toArray, List.size_toArray]
      omega
    · obtain ⟨c1, c2, c3, c4, c5⟩ := five_out hc'
      exact hk c o c1 c3 c4 c5 q
  self := fun A i s Q E st h => wpAny_pyIter_zip st.1
      h
def iZipM (K : PySem.W.Frag) (m k : Bool) (ta : TA) : TI := fun σ H R => ta σ H fun vs H1 => ∃ a b xs ys, vs = [.ref a, .ref b] ∧ Sq K m H1 a xs ∧ Sq K k H1 b ys ∧ R (ItM K m k a b) H1
/-- for .. in zip(e, e2): lists or tuples, by their marks -/
theorem pi_zipM (m k : Bool) {X : Cx} {e e2 : Expr} {ta : TA} {p pos tp : Pos} {es : List Expr} {kk : Nat} (hg : Gl X "zip") (hm : X.mg "zip" = none) (ha : PA X [e, e2] ta)
    (hs : starEach [e, e2] X.env = (false, eval e X.env) :: starEach [e2] X.env := by rfl) (hpl : (backTo pos (starEach [e2] X.env)).any (·.1) = false := by rfl) : PI X (.Tuple es kk tp) (.Call (.Name "zip" p) [e, e2] [] pos) (iZipM X.K m k ta) := by
  refine ⟨fun pins s σ H R I h => Call_ (ld_blt I hg hm PyProof.Rows.boot_zip (PyProof.Rows.callWith_type1 (thn (ha.run pos pins s σ H _ I h) fun us s1 ⟨vs, H1, I1, r1, q1⟩ => ?_) hs hpl))⟩
  obtain ⟨a, b, xs, ys, rfl, hx, hy, q⟩ := q1
  obtain ⟨u1, u2, rfl, ra, rb⟩ := vals2 r1
  cases ra
  cases rb
  obtain ⟨us, _, p1, l1⟩ := side I1 hx
  obtain ⟨vs, _, p2, l2⟩ := side I1 hy
  refine zip_begins2 (begins m a us.toArray) (begins k b vs.toArray) p1 p2 fun h' hz hTI hTO g1 g2 hsz hk => wpAny_pyIter_zip hz ?_
  exact ⟨(s1.heap.objs.size + 4 : Nat), five s1.heap.objs.size, _, _, H1, rfl, I1.kept (t' := s1.toks) hk, turn (n := s1.heap.objs.size) l1 l2, ⟨hz, hTI, ⟨_, _, hTO⟩, itr0 g1, itr0 g2⟩, fun c hc => I1.fpOk (five_in hc).1 (I1.hok.fresh (five_in hc).1), q⟩
theorem walk {K : PySem.W.Frag} {m k : Bool} {a b : Addr} {xs ys : List V} {n : Nat} (hn : n = min xs.length ys.length) : Walk (ItM K m k a b) n (fun H => Sq K m H a xs ∧ Sq K k H b ys) (YPair (fun i => xs[i]?) (fun i => ys[i]?)) := by
  subst hn
  refine ⟨fun i H hi q => ?_, fun H q => ⟨xs, ys, q.1, q.2, by omega, by omega, by omega⟩, fun i H v H' _ q y => ?_⟩
  · exact ⟨xs, ys, _, _, q.1, q.2, List.getElem?_eq_getElem (by omega), List.getElem?_eq_getElem (by omega)⟩
  · obtain ⟨T, x, z, e1, e2, e3, e4, e5⟩ := y
    exact ⟨T, x, z, e1, e2, e3, e4 xs q.1, e5 ys q.2⟩
end Zm
namespace Zm
open PySem PySem.Spec PyProof.Rows L2
/-- enumerate(v), v anything whose iter is known -/
theorem meets_enum {v : Value} {o : Obj} {Hv : Heap → Prop} (B : Begins v o Hv) : Meets (Builtin.«enumerate.__new__» ⟨[.type "enumerate", v], []⟩) (fun _ R s => Hv s.heap ∧
      R (.ok (.ret (.ref (s.heap.push o).objs.size))) { s with heap := (s.heap.push o).push { cls := .type "enumerate", data := .fields #[.none, .bool false, .ref s.heap.objs.size, rawInt 0, .none, .none] } }) := .of_wp fun prog w A R s h => by
    rcases s with ⟨hp, g, d, tk, os⟩
    obtain ⟨h1, h⟩ := h
    have hsub := sub_enumerate
    have begun : ∀ {A' : Around} {E : Value → Shared → Prop} {Q : Value → Shared → Prop}, Q (.ref hp.objs.size) ⟨hp.push o, g, d, tk, os⟩ → wpAny (model prog w) A' (pyIter v) Q E ⟨hp, g, d, tk, os⟩ := fun q => B.iter prog w _ _ ⟨hp, g, d, tk, os⟩ _ h1 q
    wp_walk using begun
    refine wpAny_stack_any fun st => wpAny_pure
        ?_
    split
    · rename_i c _ _ _ _ _
      cases (c == Value.type "enumerate") <;> (wp_walk using begun; exact ⟨_, rfl, h⟩)
    · wp_walk using begun
      exact ⟨_, rfl, h⟩
end Zm

set_option maxRecDepth 100000
set_option maxHeartbeats 3900000
namespace Zm
open PySem PySem.Spec PyProof.Rows L2
/-- the one as it stands at each turn, each item in a new pair behind its number -/
def ItE (K : PySem.W.Frag) (m : Bool) (a : Addr) : It :=
  ⟨fun i H => ∃ xs x, Sq K m H a xs ∧ xs[i]? = some x,
   fun i H v H' => ∃ T x, v = .ref T ∧ H T = none ∧ H' = upd H T (.tup [.int (i : Nat), x]) ∧ (∀ xs, Sq K m H a xs → xs[i]? = some x),
   fun i H => ∃ xs, Sq K m H a xs ∧ xs.length = i⟩
def two (n : Nat) : List Nat := [n + 1, n]
theorem two_out {n c : Nat} (h : c ∉ two n) : c ≠ n + 1 ∧ c ≠ n := by
  simp only [two, List.mem_cons, List.not_mem_nil, or_false, not_or] at h
  exact h
theorem two_in {n c : Nat} (h : c ∈ two n) : n ≤ c ∧ c < n + 2 := by
  simp only [two, List.mem_cons, List.not_mem_nil, or_false] at h
  omega
theorem turnE {P : Program} {w : World} {K : PySem.W.Frag} {es : List Expr} {kk : Nat} {tp : Pos} {m : Bool} {a : Addr} {n : Nat} (ha : (a : Nat) < n) :
    Turn P w K (.Tuple es kk tp) (ItE K m a) (two n) (n + 1 : Nat) (fun i h => (∃ old, IsEnum h (n + 1 : Nat) (n : Nat) ((i : Nat) : Int) old) ∧ Itr m h (n : Nat) a i) where
  mem := List.mem_cons_self
  obj := fun i h ⟨⟨old, e⟩, u⟩ c hc => by
    simp only [two, List.mem_cons, List.not_mem_nil, or_false] at hc
    rcases hc with q | q
    · exact q ▸ ⟨_, e, fun v r => nomatch r⟩
    · exact q ▸ u.lives
  keep := fun i h h' ⟨⟨old, e⟩, u⟩ kp => ⟨⟨old, kp _ List.mem_cons_self _ e⟩, u.kept fun o q => kp _ (List.mem_cons_of_mem _ List.mem_cons_self) o q⟩
  item := by
    intro X eP ew eK hc i pins s σ H E I hf ⟨⟨old, he⟩, h1⟩ ⟨xs, x, hx, gx⟩
    subst eP ew eK
    obtain ⟨us, r1, p1, l1⟩ := side I hx
    obtain ⟨u, gu, ru⟩ := r1.get gx
    have z5 : (n + 1 : Nat) < s.heap.objs.size := Heap.lt_size he
    have nn : ∀ {x y : Nat}, x ≠ y → @Ne Addr x y := fun h => h
    have na : @Ne Addr a (n : Nat) := Nat.ne_of_lt ha
    have nb : @Ne Addr (n + 1 : Nat) a := Nat.ne_of_gt (Nat.lt_succ_of_lt ha)
    have D := draws (P := X.prog) (w := X.w) (A := X.A.in1) m (I.ok.hd hc) (n : Nat) a na us.toArray
    have i1 : i < us.toArray.size := by
      have := (List.getElem?_eq_some_iff.mp gu).1
      simpa using this
    refine wpAny_pyNext_enum_itemD D he ⟨h1, p1⟩ i1 (nn (Nat.succ_ne_self n)) (fun q => ?_) fun y h' tk q1 out s1 hT hsz hk => ?_
    · obtain q | q := List.mem_cons.mp q
      · exact Nat.succ_ne_self n q
      · exact nb (List.mem_singleton.mp q)
    have eu : y = u := by
      have q1 : us.toArray[i]? = some y := q1
      rw [List.getElem?_toArray, gu] at q1
      exact (Option.some.inj q1).symm
    subst eu
    refine ⟨_, rfl, wpAny_letOwnedTupleGo_enum (s := { s with heap := h', toks := tk + 1 }) out fun h'' e'' sb => ?_⟩
    have sz : (s.heap.objs.size : Nat) ≠ n + 1 := by omega
    have hT2 : h''.get? s.heap.objs.size = some { cls := .type "tuple", data := .seq #[.int i tk, y] } := (sb.2 _ sz).trans hT
    have new : ObjOk X.prog X.w (upd H s.heap.objs.size (.tup [.int (i : Nat), x])) h'' s.heap.objs.size (.tup [.int (i : Nat), x])
        :=
      ⟨(by show 2 ≤ sizeLine; decide), [.int i tk, y], .cons ⟨_, rfl⟩ (.cons ru .nil), _, hT2, rfl, _, rfl⟩
    have I1 : Inv X pins σ (upd H s.heap.objs.size (.tup [.int (i : Nat), x])) { s with heap := h'', toks := tk + 1 } :=
      I.turnedNew (t' := tk + 1) (ch := two n) (fun c o hc' q => by
        obtain ⟨c1, c2⟩ := two_out hc'
        exact (sb.2 c c1).trans (hk c o c1 c2 q)) hf (Nat.le_refl _) new
    refine ⟨.ref s.heap.objs.size, _, I1, rfl, ⟨_, x, rfl, I.hok.fresh (Nat.le_refl _), rfl, fun l hl => by rw [one I hl hx]; exact gx⟩, ⟨⟨y, ?_⟩, ?_⟩, fun c hcm => ?_⟩
    · have e1 : ((i + 1 : Nat) : Int) = (i : Int) + 1 := by
          omega
      rw [e1]
      exact e''
    · exact s1.1.kept fun o q => (sb.2 _ (nn (Nat.ne_of_lt (Nat.lt_succ_self n)))).trans q
    · have := (two_in hcm).2
      rw [upd_ne (Nat.ne_of_lt (Nat.lt_of_lt_of_le this z5))]
      exact (hf c hcm).1
  done := by
    intro X eP ew eK hc i pins s σ H E I hf ⟨⟨old, he⟩, h1⟩ ⟨xs, hx, hend⟩
    subst eP ew eK
    obtain ⟨us, r1, p1, l1⟩ := side I hx
    have na : @Ne Addr a (n : Nat) := Nat.ne_of_lt ha
    have D := draws (P := X.prog) (w := X.w) (A := X.A.in1) m (I.ok.hd hc) (n : Nat) a na us.toArray
    have e1 : us.toArray.size = i := by
      rw [List.size_toArray, ← r1.length]
      exact hend
    rw [e1] at D
    exact wpAny_pyNext_enum_endD D he ⟨h1, p1⟩ fun h' eb => ⟨rfl, I.turnedL (t' := s.toks) (ch := two n) (fun c o hc' q => eb c o (two_out hc').2 q) hf⟩
  self := fun A i s Q E st h => let ⟨⟨_, he⟩, _⟩ := st; wpAny_pyIter_enum he
      h
def iEnumM (K : PySem.W.Frag) (m : Bool) (ta : TA) : TI := fun σ H R => ta σ H fun vs H1 => ∃ a xs, vs = [.ref a] ∧ Sq K m H1 a xs ∧ R (ItE K m a) H1
/-- for .. in enumerate(e): a list or a tuple, by its mark -/
theorem pi_enumM (m : Bool) {X : Cx} {e : Expr} {ta : TA} {p pos tp : Pos} {es : List Expr} {kk : Nat} (hg : Gl X "enumerate") (hm : X.mg "enumerate" = none) (ha : PA X [e] ta) (hs : starEach [e] X.env = [(false, eval e X.env)] := by rfl) :
    PI X (.Tuple es kk tp) (.Call (.Name "enumerate" p) [e] [] pos) (iEnumM X.K m ta) := by
  refine ⟨fun pins s σ H R I h => Call_ (ld_blt I hg hm boot_enumerate (PyProof.Rows.callWith_type1 (thn (ha.run pos pins s σ H _ I h) fun us s1 ⟨vs, H1, I1, r1, q1⟩ => ?_) hs rfl))⟩
  obtain ⟨a, xs, rfl, hx, q⟩ := q1
  obtain ⟨u1, rfl, ra⟩ := vals1 r1
  cases ra
  obtain ⟨us, _, p1, l1⟩ := side I1 hx
  have B := begins m a us.toArray
  refine callType_new F.called_enumerate (by decide) (F.typeCall_enumerate_1 _) (F.newCall_enumerate_1 _) (fun obj => F.args_object_init_2 obj _) F.entry_enumerate_new (meets_enum B) ⟨p1, ?_⟩
  have hz : (s1.heap.push (its0 m a)).objs.size = s1.heap.objs.size + 1 := Heap.size_push ..
  obtain ⟨en, een⟩ : ∃ en : Obj, en = { cls := .type "enumerate", data := .fields #[.none, .bool false, .ref s1.heap.objs.size, rawInt 0, .none, .none] } := ⟨_, rfl⟩
  have ge : ((s1.heap.push (its0 m a)).push en).get? (s1.heap.objs.size + 1) = some en := by
    have := Heap.get?_push_size (s1.heap.push (its0 m a)) (o := en) (by rw [een]; rfl)
    rwa [hz] at this
  have gi : ((s1.heap.push (its0 m a)).push en).get? s1.heap.objs.size = some (its0 m a) := Heap.get?_push_of_some _ (Heap.get?_push_size _ B.free)
  have he : IsEnum ((s1.heap.push (its0 m a)).push en) (s1.heap.objs.size + 1) s1.heap.objs.size 0 .none := by
    rw [een] at ge ⊢
    exact ge
  show _ ∧ _
  rw [hz, ← een]
  refine ⟨⟨_, ge, by rw [een]⟩, wpAny_pyIter_enum he ?_⟩
  exact ⟨(s1.heap.objs.size + 1 : Nat), two s1.heap.objs.size, _, _, H1, rfl, I1.kept (t' := s1.toks) (fun b o x => Heap.get?_push_of_some _ (Heap.get?_push_of_some _ x)), turnE (n := s1.heap.objs.size) l1, ⟨⟨_, he⟩, itr0 gi⟩, fun c hc => I1.fpOk (two_in hc).1 (I1.hok.fresh (two_in hc).1), q⟩
theorem walkE {K : PySem.W.Frag} {m : Bool} {a : Addr} {xs : List V} : Walk (ItE K m a) xs.length (fun H => Sq K m H a xs) (YPair (fun i => some (.int (i : Nat))) (fun i => xs[i]?)) := by
  refine ⟨fun i H hi q => ⟨xs, _, q, List.getElem?_eq_getElem hi⟩, fun H q => ⟨xs, q, rfl⟩, fun i H v H' _ q y => ?_⟩
  obtain ⟨T, x, e1, e2, e3, e4⟩ := y
  exact ⟨T, .int (i : Nat), x, e1, e2, e3, rfl, e4 xs q⟩
end Zm

set_option maxRecDepth 100000
set_option maxHeartbeats 3900000
/-! Methods of own: xs.extend(a tuple), d.update(a dict). -/
namespace Zm
open PySem PySem.Spec PyProof.Rows L2
theorem meets_extT (l : Addr) (xs : Array Value) (n : Nat) (b : Addr) (ys : Array Value) (few : ¬ (!xs.isEmpty && Builtin.List.listTooLong (xs.size + ys.size)) = true) (h1 : xs.size ≤ sizeLine) (h2 : xs.size + ys.size ≤ sizeLine + 1) :
    Meets (Builtin.«list.extend» ⟨[.ref l, .ref b], []⟩) (fun _ R s => s.heap.get? l = some { cls := .type "list", dict := none, data := .seq xs n, slots := #[] } ∧ s.heap.IsTuple b ys ∧
      R (.ok (.ret Value.none)) { s with heap := s.heap.update l (Obj.mapSeq fun x => x ++ ys), toks := s.toks }) := .of_wp fun prog w A R s h => by
    rcases s with ⟨hp, g, d, tk, os⟩
    obtain ⟨hl, ⟨⟨c, dct, dt, sl⟩, hb, hc, n2, hd⟩, h⟩ := h
    replace hc : c = .type "tuple" := hc
    replace hd : dt = .seq ys n2 := hd
    subst hc hd
    have a1 := AutoSeq1.idx_int
    have a2 := AutoSeq1.sub_tuple_tuple
    have a3 := AutoSeq1.sub_list_list
    have a4 := AutoSeq1.sub_tuple_list
    have a5 := AutoSeq1.sub_list_tuple
    have fits : (xs ++ ys).size ≤ sizeLine + 1 := by
      rw [Array.size_append]
      exact h2
    wp_walk using (wpAny_updateSeq hl rfl (hz := h1) (_hz' := fits)), AutoSeq1.wpAny_loadPart' hl, AutoSeq1.wpAny_loadPart' hb
    exact ⟨_, rfl, h⟩
/-- xs.extend(t) -/
def rExtT (K : PySem.W.Frag) : V → List V → Hp → VK → Prop := fun x vs H Q => ∃ l b xs zs, x = .ref l ∧ vs = [.ref b] ∧ H l = some (.lst xs) ∧ SqT K H b zs ∧ xs.length + zs.length ≤ sizeLine ∧ Q .non (upd H l (.lst (xs ++ zs)))
theorem mt_extendT {X : Cx} : MtM X "list.extend" (rExtT X.K) := by
  intro pins s σ H x vs v us Q I rx
  intro rv h
  rcases h with ⟨l, b, xs, zs, rfl, rfl, hH, hB, hz, q⟩
  cases rx
  obtain ⟨u, rfl, ru⟩ := rv.one
  cases ru
  rcases I.lstM hH with ⟨z, its, n, r, hl, e⟩
  obtain ⟨its2, r2, p2, _⟩ := I.tuple hB
  have e2 := r2.length
  have few : its.toArray.size + its2.toArray.size ≤ sizeLine := by
    rw [List.size_toArray]
    rw [List.size_toArray]
    omega
  refine call_meets F.slot_list_extend ⟨_, e, rfl⟩ F.entry_list_extend (F.args_list_extend_2 _ _) (meets_extT l its.toArray n b its2.toArray ?_ (by omega) (by omega)) ⟨e, p2, .non, _, I.lset (its' := its ++ its2) hH e (by simp) (r.append r2) ?_, rfl, q⟩
  · rw [notLongL few, Bool.and_false]
    exact Bool.false_ne_true
  · rw [List.length_append]
    omega
theorem mergeK_len : ∀ (ls ks : List (Key × V)), (mergeK ks ls).length ≤ ks.length + ls.length
  | [], ks => Nat.le_refl _
  | p :: r, ks => by
    have h1 := mergeK_len r (putK ks p.1 p.2)
    have h2 := length_putK ks p.1 p.2
    show (mergeK (putK ks p.1 p.2) r).length ≤ _
    rw [List.length_cons]
    omega
/-- d.update(e) -/
def rUpd : V → List V → Hp → VK → Prop := fun x vs H Q => ∃ d e ks ls, x = .ref d ∧ vs = [.ref e] ∧ H d = some (.dK ks) ∧ H e = some (.dK ls) ∧ d ≠ e ∧ ks.length + ls.length ≤ sizeLine ∧ Q .non (upd H d (.dK (mergeK ks ls)))
theorem mt_update {X : Cx} : MtR X "dict.update" rUpd := by
  intro pins s σ H x vs v us Q I rx
  intro rv h
  obtain ⟨d, e, ks, ls, rfl, rfl, h1, h2, ne, hz, q⟩ := h
  cases rx
  obtain ⟨u, rfl, ru⟩ := rv.one
  cases ru
  obtain ⟨_, lo, ps, rel, dd⟩ := dk_of I.hok h1
  obtain ⟨_, lo2, qs, rel2, dd2⟩ := dk_of I.hok h2
  have e1 := rel.length
  have e2 := rel2.length
  refine call_meetsIn PySem.F.slot_dict_update dd.typeIs PySem.F.entry_dict_update (PySem.F.args_dict_update_2 _ _) (meets_dict_update (mixKind X.prog X.w) d e ne lo2) ⟨ps, qs, dd, dd2, by omega, fun h' dd' _ hs => ?_⟩
  have there : ∃ z, h'.get? d = some z := let ⟨z, _, _, hz, _⟩ := dd'; ⟨z, hz⟩
  refine ⟨.non, _, d_write (t' := s.toks) I (by rw [h1]; exact True.intro) hs there (dk_new ?_ lo (rel2.merge rel) dd'), rfl, q⟩
  exact Nat.le_trans (mergeK_len ls ks) (by omega)
end Zm

set_option maxRecDepth 100000
set_option maxHeartbeats 3900000
namespace Zm
open PySem PySem.Spec PyProof.Rows L2
/-! ### min and max of a tuple of ints -/
section
variable {prog : Program} {w : World} {A : Around} {E : Value → Shared → Prop} {s : Shared} {l : Addr} {its : List Value} {ns : List Int} {Q : Value → Shared →
    Prop}
theorem tup_walk {xs : Array (Int × Tok)} {R : Value → Shared → Prop} (hh : A.handled = none) (hT : s.heap.IsTuple l (intItems xs))
    (h : ∀ (I : Addr) (s2 : Shared), s2 = { s with heap := s2.heap } → (∀ b o, s.heap.get? b = some o → s2.heap.get? b = some o) → s.heap.objs.size ≤ I → (∀ b ∈ [I, l], b < s2.heap.objs.size) →
      (fun (i : Nat) (h : Heap) => h.IsTupleIter I l i ∧ h.IsTuple l (intItems xs)) 0 s2.heap → Walks prog w A.in1 I [I, l] [I] (intItems xs).size (fun i v => (intItems xs)[i]? = some v) (fun i h => h.IsTupleIter I l i ∧ h.IsTuple l (intItems xs)) → R (.ref I) s2) :
    wpAny (model prog w) A.in1 (pyIter (.ref l)) R E s := by
  have hlt : l < s.heap.objs.size := by
    obtain ⟨o, e, _⟩ := hT
    exact Heap.lt_size e
  refine wpAny_pyIter_tuple hT ?_
  refine h s.heap.objs.size _ rfl (fun b o e => Heap.get?_push_of_some _ e) (Nat.le_refl _) (fun b hb => ?_) ⟨⟨_, Heap.get?_push_size _ rfl, rfl, rfl⟩, hT.push _⟩ (Walks.tuple (A := A.in1) hh _ l (Nat.ne_of_lt hlt) (intItems xs))
  show b < (s.heap.push _).objs.size
  rw [Heap.size_push]
  obtain e | e := List.mem_cons.mp hb
  · rw [e]
    exact Nat.lt_succ_self _
  · rw [List.mem_singleton.mp e] <;> skip
    exact Nat.lt_succ_of_lt hlt
theorem min_tup {xs : Array (Int × Tok)} (hh : A.handled = none) (hT : s.heap.IsTuple l (intItems xs)) (hne : 0 < xs.size)
    (h : ∀ h' tk i t, i ∈ xs.toList.map (·.1) → (∀ b o, s.heap.get? b = some o → h'.get? b = some o) → Q (.int i t) { s with heap := h', toks := tk }) : wpAny (model prog w) A (call (.builtin "min") [.ref l]) Q E s := by
  refine call_min_walk (tup_walk hh hT fun I s2 es k1 hI hfp st W => ⟨I, _, _, _, _, _, _, rfl, W, st, hfp, by simpa [intItems] using hne, CmpOf.ints_lt (numAt xs) (fun _ _ => intItems_at), fun v h' tk hP hk => ?_⟩)
  obtain ⟨h1, _⟩ := argBest_lt (numAt xs) ((intItems xs).size - 1)
  obtain ⟨t, rfl⟩ := intItems_at hP
  rw [es]
  refine h h' tk _ t ?_ fun b o e => hk b o (fun m => ?_) (k1 b o e)
  · rw [numAt_eq]
    refine PySem.getD_mem ?_
    rw [List.length_map]
    rw [Array.length_toList]
    have z : (intItems xs).size = xs.size := Array.size_map ..
    have p : 0 < (intItems xs).size := by rw [z]; exact hne
    exact Nat.lt_of_lt_of_le (Nat.lt_of_le_of_lt h1 (Nat.sub_lt p Nat.zero_lt_one)) (Nat.le_of_eq z)
  · have := Heap.lt_size e
    rw [List.mem_singleton.mp m] at this
    exact absurd this (Nat.not_lt.mpr hI)
theorem max_tup {xs : Array (Int × Tok)} (hh : A.handled = none) (hT : s.heap.IsTuple l (intItems xs)) (hne : 0 < xs.size)
    (h : ∀ h' tk i t, i ∈ xs.toList.map (·.1) → (∀ b o, s.heap.get? b = some o → h'.get? b = some o) → Q (.int i t) { s with heap := h', toks := tk }) : wpAny (model prog w) A (call (.builtin "max") [.ref l]) Q E s := by
  refine call_max_walk (tup_walk hh hT fun I s2 es k1 hI hfp st W => ⟨I, _, _, _, _, _, _, rfl, W, st, hfp, by simpa [intItems] using hne, CmpOf.ints_gt (numAt xs) (fun _ _ => intItems_at), fun v h' tk hP hk => ?_⟩)
  obtain ⟨h1, _⟩ := argBest_gt (numAt xs) ((intItems xs).size - 1)
  obtain ⟨t, rfl⟩ := intItems_at hP
  rw [es]
  refine h h' tk _ t ?_ fun b o e => hk b o (fun m => ?_) (k1 b o e)
  · rw [numAt_eq]
    refine PySem.getD_mem ?_
    rw [List.length_map]
    rw [Array.length_toList]
    have z : (intItems xs).size = xs.size := Array.size_map ..
    have p : 0 < (intItems xs).size := by rw [z]; exact hne
    exact Nat.lt_of_lt_of_le (Nat.lt_of_le_of_lt h1 (Nat.sub_lt p Nat.zero_lt_one)) (Nat.le_of_eq z)
  · have := Heap.lt_size e
    rw [List.mem_singleton.mp m] at this
    exact absurd this (Nat.not_lt.mpr hI)
end
section
variable {X : Cx}
/-- min(t), max(t) of a tuple of ints: one of them -/
def rMmT (K : PySem.W.Frag) : List V → Hp → VK → Prop := fun vs H Q => ∃ (a : Addr) (ns : List Int), vs = [V.ref a] ∧ SqT K H a (ns.map V.int) ∧ 0 < ns.length ∧ ∀ m, m ∈ ns → Q (.int m) H
theorem cr_min2 (K : PySem.W.Frag) (e : X.K = K) (hc : X.calm = true) : CallR X (.builtin "min") (rMmT K) := by
  subst e
  intro pins s σ H vs us Q I
  intro r h
  rcases h with ⟨a, ns, rfl, hs, hne, q⟩
  obtain ⟨its, rv, hl, _⟩ := I.tuple hs
  rw [Vals.ref1 r]
  obtain ⟨xs, ex⟩ := rv.ints.allInts.items
  have hn : numsOf (intItems xs).toList = ns := by rw [← ex]; exact rv.ints.numsOf
  rw [nums_intItems] at hn
  subst hn
  rw [ex] at hl
  exact min_tup (I.ok.hd hc) hl (by simpa using hne) fun h' tk m t' hm hk => ⟨.int _, H, I.kept hk, ⟨_, rfl⟩, q m hm⟩
theorem cr_max2 (K : PySem.W.Frag) (e : X.K = K) (hc : X.calm = true) : CallR X (.builtin "max") (rMmT K) := by
  subst e
  intro pins s σ H vs us Q I
  intro r h
  rcases h with ⟨a, ns, rfl, hs, hne, q⟩
  obtain ⟨its, rv, hl, _⟩ := I.tuple hs
  rw [Vals.ref1 r]
  obtain ⟨xs, ex⟩ := rv.ints.allInts.items
  have hn : numsOf (intItems xs).toList = ns := by rw [← ex]; exact rv.ints.numsOf
  rw [nums_intItems] at hn
  subst hn
  rw [ex] at hl
  exact max_tup (I.ok.hd hc) hl (by simpa using hne) fun h' tk m t' hm hk => ⟨.int _, H, I.kept hk, ⟨_, rfl⟩, q m hm⟩
end
end Zm

set_option maxRecDepth 100000
set_option maxHeartbeats 3900000
/-! Sets of texts: set(xs) of a list of texts, sorted(..) of such a set. -/
namespace Ts
open PySem PySem.Spec PyProof.Rows L2
abbrev tk (P : Program) (w : World) := PySem.strKind P w
/-- an entry of the text x -/
def En (P : Program) (w : World) (e : Int × Value) (x : Str) : Prop := (∃ u, e.2 = Value.str x u) ∧ e.1 = (tk P w).hash x
/-- the set of texts at a: those of L, each once; its table rises and can be walked -/
def At (P : Program) (w : World) (h : Heap) (a : Addr) (L : List Str) : Prop := ∃ o es ep t, h.get? a = some o ∧ o.ExactSet ∧ o.data = .set es ep t ∧ Paired (En P w) es.toList L ∧ L.Nodup ∧
  es.size < scanBound ∧ t.fits es.size = true ∧ Ris t.place.toList ∧ (w.params.followText "set-order" = true ∨ t.led = true)
theorem At.moved {P : Program} {w : World} {h h' : Heap} {a : Addr} {L : List Str} (R : At P w h a L) (k : ∀ o, h.get? a = some o → h'.get? a = some o) : At P w h' a L := let ⟨o, es, ep, t, ho, r⟩ := R; ⟨o, es, ep, t, k o ho, r⟩
theorem pair_perm {α β : Type} {R : α → β → Prop} {xs' xs : List α} (p : xs'.Perm xs) : ∀ {ys : List β}, Paired R xs ys → ∃ ys', ys'.Perm ys ∧ Paired R xs' ys' := by
  induction p with
  | nil => exact fun h => ⟨_, .refl _, h⟩
  | cons a _ ih =>
    intro ys h
    cases h with
    | cons r t =>
      obtain ⟨zs, p, q⟩ := ih t
      exact ⟨_ :: zs, p.cons _, .cons r q⟩
  | swap a b l =>
    intro ys h
    cases h with
    | cons r t =>
      cases t with
      | cons r' t' => exact ⟨_, .swap _ _ _, .cons r' (.cons r t')⟩
  | trans _ _ i1 i2 =>
    intro ys h
    obtain ⟨zs, p, q⟩ := i2 h
    obtain ⟨us, p', q'⟩ := i1 q
    exact ⟨us, p'.trans p, q'⟩
theorem elems {P : Program} {w : World} : ∀ {l : List (Int × Value)} {L : List Str}, Paired (En P w) l L → ElemsOf (tk P w) l
  | _, _, .nil => fun e he => nomatch he
  | e0 :: l, x :: L, .cons h r => fun e he => by
    rcases List.mem_cons.mp he with z | z
    · subst z
      obtain ⟨⟨u, h1⟩, h2⟩ := h
      exact ⟨⟨x, by rw [h1]; exact strKind_is P w x u, h2⟩, by rw [h1]; rfl⟩
    · exact elems r e z
theorem found {P : Program} {w : World} : ∀ {l : List (Int × Value)} {L : List Str}, Paired (En P w) l L → ∀ x, x ∈ L ↔ ∃ e ∈ l, (tk P w).is x e.2 = true
  | _, _, .nil, x => ⟨(fun h => nomatch h), (fun ⟨e, he, _⟩ => nomatch he)⟩
  | e0 :: l, y :: L, .cons h r, x => by
    obtain ⟨⟨u, h1⟩, _⟩ := h
    have key : (tk P w).is x e0.2 = true ↔ x = y := by
      rw [h1]
      constructor
      · intro z
        have z : Value.isStrOf x (Value.str y u) = true := z
        obtain ⟨t, e⟩ := Value.isStrOf_shape z
        injection e with e _
        exact e.symm
      · intro z
        subst z
        exact strKind_is P w x u
    rw [List.mem_cons, found r x]
    constructor
    · rintro (z | ⟨e, he, q⟩)
      · exact ⟨e0, List.mem_cons_self, key.2 z⟩
      · exact ⟨e, List.mem_cons_of_mem _ he, q⟩
    · rintro ⟨e, he, q⟩
      rcases List.mem_cons.mp he with z | z
      · subst z
        exact .inl (key.1 q)
      · exact .inr ⟨e, z, q⟩
section
variable {P : Program} {w : World} {A : Around} {E : Value → Shared → Prop} {s : Shared} {a : Addr} {L : List Str}
/-- the entries are laid, and laid anew where the table is too full -/
theorem lay {f : Bool → Sem Unit} (hf0 : ∀ (b : Bool) (s₁ : Shared) (Q' : Unit → Shared → Prop), Q' () s₁ → wpAny (model P w) A (f b) Q' E s₁) {o : Obj} {es : Array (Int × Value)} {ep : Nat} {t : SetTable} (ho : s.heap.get? a = some o) (hx : o.ExactSet) (hd : o.data = .set es ep t)
    {es1 : Array (Int × Value)} {t2 : SetTable} (g1 : Paired (En P w) es1.toList L) (nd : L.Nodup) (hb1 : es1.size < scanBound) (fit : t2.fits es1.size = true) (rise : Ris t2.place.toList) (led : w.params.followText "set-order" = true ∨ t2.led = true) {was : Bool} {R : Option Bool → Shared → Prop}
    (hR : ∀ h' L', Heap.SameBut a s.heap h' → At P w h' a L' → L'.Perm L → R (some true) { s with heap := h' }) :
    wpAny (model P w) A (do
        storeSet a es1 t2
        if (!was && t2.tooFull) = true then do
            f (relayAll t2 es1 (SetTable.grown es1.size)).2.2
            storeSet a (relayAll t2 es1 (SetTable.grown es1.size)).1 (relayAll t2 es1 (SetTable.grown
                es1.size)).2.1
            pure (some true)
          else pure (some true)) R E s :=
              by
  refine wpAny_bind (wpAny_storeSet_of ho hd ?_ (fits_of_scanBound
      hb1))
  have ho1 := store_at (es' := es1) (t' := t2) ho
      hd
  have but := Heap.SameBut.update s.heap a (Obj.putSet es1 t2)
  split
  · have pm := relayAll_perm t2 es1 (SetTable.grown
        es1.size)
    have fit3 := relayAll_fits t2 es1 (SetTable.grown es1.size)
    have rise3 := relayAll_ris t2 es1 (SetTable.grown es1.size)
    have led3 := relayAll_led t2 es1 (SetTable.grown es1.size)
    generalize relayAll t2 es1 (SetTable.grown es1.size) = Z at pm fit3 rise3 led3 ⊢
    obtain ⟨es2, t3, gave⟩ := Z
    dsimp only at pm fit3 rise3 led3 ⊢
    have same : es2.size = es1.size := by rw [← Array.length_toList, pm.length_eq, Array.length_toList]
    obtain ⟨L2, p2, g2⟩ := pair_perm pm g1
    refine wpAny_bind (hf0 _ _ _ (wpAny_bind (wpAny_storeSet_of ho1 rfl ?_ (fits_of_scanBound (by rw [same]; exact hb1)))))
    exact wpAny_pure (hR _ L2 (but.trans (Heap.SameBut.update _ a _)) ⟨_, es2, _, t3, store_at (es' := es2) (t' := t3) ho1 rfl, hx, rfl, g2, p2.nodup_iff.mpr nd, by rw [same]; exact hb1, fit3, rise3, led.imp id fun z => by rw [led3]; exact z⟩ p2)
  · exact wpAny_pure (hR _ L but ⟨_, es1, _, t2, ho1, hx, rfl, g1, nd, hb1, fit, rise, led⟩ (.refl _))
theorem add {x : Str} {u : Tok} {Q : Bool → Shared → Prop} (R : At P w s.heap a L) (room : L.length + 1 < scanBound)
    (hQ : ∀ b h' L', Heap.SameBut a s.heap h' → At P w h' a L' → (∀ y, y ∈ L' ↔ y ∈ L ∨ y = x) → L'.length ≤ L.length + 1 → Q b { s with heap := h' }) :
    wpAny (model P w) A (setAddHashed a (.str x u) ((tk P w).hash x)) Q E s := by
  obtain ⟨o, es, ep, t, ho, hx, hd, g, nd, hb, fit, rise, led⟩ := R
  have len : es.size = L.length := by rw [← Array.length_toList, g.length]
  have ky : (tk P w).is x (.str x u) = true := strKind_is P w x u
  have sc : (Value.str x u).scannable = true := rfl
  have el := elems g
  unfold setAddHashed
      setAddHashedIn
  refine wpAny_holding (wpAny_bind (wpAny_setState_of ho hd fit ?_))
  dsimp only
  rw [byScan_of sc hb el]
  simp only [↓reduceIte]
  unfold setAddByScan
  refine wpAny_bind (wpAny_bind (wpAny_rule (wpAny_bind (wpAny_setScan_of ky ho hd fit el ?_))))
  cases at_ : List.findIdx? (fun e => (tk P w).is x e.2) es.toList with
  | some j =>
    dsimp only
    obtain ⟨hj, pj, _⟩ := List.findIdx?_eq_some_iff_getElem.mp at_
    have mem : x ∈ L := (found g x).2 ⟨es.toList[j], List.getElem_mem hj, pj⟩
    exact wpAny_pure (wpAny_pure (hQ _ s.heap L (Heap.SameBut.refl a s.heap) ⟨o, es, ep, t, ho, hx, hd, g, nd, hb, fit, rise, led⟩ (fun y => ⟨.inl, fun z => z.elim id fun e => e ▸ mem⟩) (Nat.le_succ _)))
  | none =>
    dsimp only
    have out : x ∉ L := fun z => by
      obtain ⟨e, he, q⟩ := (found g x).1 z
      have c := List.findIdx?_eq_none_iff.mp at_ e he
      rw [q] at c
      cases c
    have told : ∀ (b : Bool) {s₁ : Shared} {Q' : Unit → Shared → Prop}, Q' () s₁ → wpAny (model P w) A (match b with | true => rule "set.scan.the-table-gave-way" | false => pure ()) Q' E s₁ := fun b s₁ Q' q => by
      cases b
      · exact wpAny_pure q
      · exact wpAny_rule q
    have pm := layNew_perm t es ((tk P w).hash x) (.str x u)
    have fit1 := layNew_fits t es ((tk P w).hash x) (.str x u)
    have rise1 := layNew_ris t es ((tk P w).hash x) (.str x u) rise
    have led1 := layNew_led t es ((tk P w).hash x) (.str x u)
    generalize layNew t es ((tk P w).hash x) (.str x u) = Z at pm fit1 rise1 led1 ⊢
    obtain ⟨es1, t1, was, gave⟩ := Z
    dsimp only at pm fit1 rise1 led1 ⊢
    rw [Array.toList_push] at pm
    have pc : es1.toList.Perm (((tk P w).hash x, Value.str x u) :: es.toList) := pm.trans (List.perm_append_singleton _ _)
    obtain ⟨L1, p1, g1⟩ := pair_perm pc (Paired.cons (⟨⟨u, rfl⟩, rfl⟩ : En P w ((tk P w).hash x, Value.str x u) x) g)
    have nd1 : L1.Nodup := p1.nodup_iff.mpr (List.nodup_cons.mpr ⟨out, nd⟩)
    have len1 : L1.length = L.length + 1 := by rw [p1.length_eq, List.length_cons]
    have size1 : es1.size = L.length + 1 := by rw [← Array.length_toList, g1.length, len1]
    have hb1 : es1.size < scanBound := by rw [size1]; exact room
    have ledt : w.params.followText "set-order" = true ∨ t1.led = true := led.imp id fun z => by rw [led1]; exact z
    have fin : ∀ b h' L', Heap.SameBut a s.heap h' → At P w h' a L' → L'.Perm L1 → Q b { s with heap := h' } := fun b h' L' sb r p => hQ b h' L' sb r (fun y => by
      rw [p.mem_iff, p1.mem_iff, List.mem_cons]
      exact Or.comm) (by rw [p.length_eq, len1]; exact Nat.le_refl _)
    refine wpAny_bind (told _ ?_)
    split
    · refine wpAny_bind ?_
      rw [hashByValue_scannable 8 sc]
      refine wpAny_pure (lay ?_ ho hx hd g1 nd1 hb1 ?_ ?_ ?_ ?_)
      · exact fun b s₁ Q' q => by cases b <;> first | exact wpAny_pure q | exact wpAny_rule q
      · first | (split <;> first | exact fit1 | exact SetTable.fits_plain_off fit1) | exact fit1
      · first | (split <;> exact rise1) | exact rise1
      · first | (split <;> exact ledt) | exact ledt
      · exact fun h' L' sb r p => by dsimp only; exact wpAny_pure (fin _ h' L' sb r p)
    · refine wpAny_bind ?_
      refine wpAny_pure ?_
      simp only [↓reduceIte]
      refine lay ?_ ho hx hd g1 nd1 hb1 fit1 rise1 ledt ?_
      · exact fun b s₁ Q' q => by cases b <;> first | exact wpAny_pure q | exact wpAny_rule q
      · exact fun h' L' sb r p => by dsimp only; exact wpAny_pure (fin _ h' L' sb r p)
/-- the loop of set.update over texts -/
theorem update {I : Addr} {fp wr : List Addr} {G : Array GenState → Array GenState → Prop} {n : Nat} {Pv : Nat → Value → Prop} {St : Nat → Shared → Prop} {R : Result → Shared → Prop} (W : WalksS P w A.in1 I fp wr G n Pv St) (c : Addr) (out : c ∉ fp) (xs : List Str) (hn : n = xs.length)
    (few : xs.length + 1 < scanBound) (val : ∀ i v, Pv i v → ∃ x t, xs[i]? = some x ∧ v = .str x t) : ∀ (k i : Nat) (s : Shared), n - i = k → i ≤ n → St i s → (∃ L, L.length ≤ i ∧ At P w s.heap c L ∧ ∀ y, y ∈ L ↔ y ∈ xs.take i) →
      (∀ s' L, Moved (c :: wr) G s s' → At P w s'.heap c L → (∀ y, y ∈ L ↔ y ∈ xs) → L.length ≤ n → R (.ok (.ret .none)) s') → codeAny (model P w) A (.builtin "set.update.loop" ⟨[.ref c, .ref I], []⟩) R s := by
  have cw : c ∉ wr := fun h => out (W.sub _ h)
  have more : ∀ b ∈ wr, b ∈ c :: wr := fun b hb => List.mem_cons_of_mem _ hb
  intro k
  induction k with
  | zero =>
    intro i s hk hi st ⟨L, hl, hS, hm⟩ hR
    have ein : i = n := by omega
    subst ein
    refine codeAny_builtin F.entry_set_update_loop
        ?_
    rw [Around.under_plainId F.plain_set_update_loop _] <;> skip
    refine wpAny_bind (m := pyNext (.ref I)) (W.done s _ _ st fun s' mv => ?_)
    rw [List.take_of_length_le (by omega)] at hm
    exact wpAny_pure (hR s' L (mv.mono more) (hS.moved fun o e => mv.heap c o cw e) hm hl)
  | succ k ih =>
    intro i s hk hi st ⟨L, hl, hS, hm⟩ hR
    have lt : i < n := by omega
    refine codeAny_builtin F.entry_set_update_loop
        ?_
    rw [Around.under_plainId F.plain_set_update_loop _] <;> skip
    refine wpAny_bind (m := pyNext (.ref I)) (W.item i s _ _ lt st fun v s' pv st' mv => ?_)
    obtain ⟨z, t, hz, rfl⟩ := val i v pv
    have hS' : At P w s'.heap c L := hS.moved fun o e => mv.heap c o cw e
    refine wpAny_bind (m := holding [Value.str z t] (setAdd c (.str z t))) (wpAny_holding ?_)
    unfold setAdd
    refine wpAny_holding (wpAny_bind ((tk P w).pyHash (k := z) (strKind_is _ _ _ _) ?_))
    refine add (s := { s' with toks := s'.toks + 1 }) hS' (by omega) fun b h' L2 sb hS2 mem hl2 => ?_
    have hm2 : ∀ y, y ∈ L2 ↔ y ∈ xs.take (i + 1) := fun y => by
      rw [mem y, hm y, List.take_add_one, hz, List.mem_append]
      simp
    refine wpAny_pure ⟨plainId_quiet F.plain_set_update_loop _, ih (i + 1) _ (by omega) lt (W.frame _ s' _ _ st' (Nat.le_succ _) fun b hb o e => ?_) ⟨L2, by omega, hS2, hm2⟩ fun s'' L3 mv2 hS3 hm3 hl3 => ?_⟩
    · rw [sb.2 b (fun q => out (q ▸ hb))]
      exact e
    · refine hR s'' L3 (Moved.trans W.gtrans ((mv.mono more).then_heap (Nat.le_succ _) fun b o hb e => ?_) mv2) hS3 hm3 hl3
      rw [sb.2 b (fun q => hb (q ▸ List.mem_cons_self))]
      exact e
abbrev emptyO (w : World) : Obj := { cls := .type "set", dict := none, data := .set #[] 0 (.fresh 0 0 (!w.params.followText "set-order")) }
theorem at_empty {h : Heap} {a : Addr} (ho : h.get? a = some (emptyO w)) : At P w h a [] := ⟨_, #[], 0, _, ho, ⟨rfl, rfl, rfl⟩, rfl, .nil, .nil, (by decide), (by rfl), List.Pairwise.nil, by
    show _ ∨ (!w.params.followText "set-order") =
        true
    cases w.params.followText
        "set-order"
    · exact .inr rfl
    · exact .inl rfl⟩
/-- set(xs), xs a list of texts -/
theorem made {l : Addr} {items : Array Value} (xs : List Str) {Q : Value → Shared → Prop} (hh : A.handled = none) (hl : s.heap.IsList l items) (it : StrsAre items.toList xs) (few : xs.length + 1 < scanBound)
    (h : ∀ (h' : Heap) (t : Nat) (L : List Str), At P w h' s.heap.objs.size L → (∀ y, y ∈ L ↔ y ∈ xs) → L.length ≤ xs.length → (∀ b o, s.heap.get? b = some o → h'.get? b = some o) → Q (.ref s.heap.objs.size) { s with heap := h', toks := t }) :
    wpAny (model P w) A (call (.type "set") [.ref l]) Q E s :=
        by
  have size : items.size = xs.length := by rw [← StrsAre.len_eq it, Array.length_toList]
  rcases F.called_set.mro with ⟨c, tl, hmro⟩
  have made := F.called_set.made
  have sub := F.called_set.sub
  refine wpAny_call (codeAny_of_tree (show wpAny _ _ (callAny (.type "set") _) _ _ _ from ?_))
  refine wpAny_pure ⟨Code.quiet_builtin _ (by decide +kernel), codeAny_builtin F.entry_type_call
      ?_⟩
  rw [Around.under_plain (weight_type_call_type "set" [.ref l] []) rfl] <;> skip
  have f1 := F.called_set.notType
  have f2 := F.called_set.canCreate
  have f3 := F.typeCall_set_1 (.ref l)
  repeat (any_goals (first | assumption |
      wp_step))
  refine codeAny_mono (code_set_led1 (.ref l) (E := E) (Q₁ := fun obj s₁ => obj = .ref s.heap.objs.size ∧ s₁ = { s with heap := s.heap.push (emptyO w) }) ⟨rfl, rfl⟩) fun r s₁ hr => ?_
  cases r with
  | error e => exact hr
  | ok fl =>
    cases fl with
    | ret obj =>
      obtain ⟨rfl, rfl⟩ := hr
      have here : (s.heap.push (emptyO w)).get? s.heap.objs.size = some (emptyO w) := Heap.get?_push_size _ rfl
      have ty : Shared.TypeIs { s with heap := s.heap.push (emptyO w) } (.ref s.heap.objs.size) "set" := ⟨_, here, rfl⟩
      have look := F.called_set.init.lookup
      have bind := F.called_set.init.bind (.ref s.heap.objs.size)
      repeat (any_goals (first | assumption |
          wp_step))
      refine codeAny_mono (codeAny_call_builtin (R := wants (fun r s₂ => r = .none ∧ ∃ h' t L, s₂ = { s with heap := h', toks := t } ∧ At P w h' s.heap.objs.size L ∧ (∀ y, y ∈ L ↔ y ∈ xs) ∧ L.length ≤ xs.length ∧
          (∀ b o, s.heap.get? b = some o → h'.get? b = some o)) E) F.called_set.init.plain F.entry_set_init (check_set_init_1 ty ?_)) fun r₂ s₂ hr₂ => ?_
      · obtain ⟨⟨ocls, odict, odata, oslots⟩, hol, hcl, nl, hdl⟩ := hl
        simp only at hcl hdl
        subst hcl hdl
        have hol' : (s.heap.push (emptyO w)).get? l = some { cls := .type "list", dict := odict, data := .seq items nl, slots := oslots } := Heap.get?_push_of_some _ hol
        have g1 := F.sub_list_set
        have g2 := F.sub_list_frozenset
        have g3 : (Value.type "list" == Value.type "dict") = false := by decide
        have hl1 : (s.heap.push (emptyO w)).IsList l items := ⟨_, hol', rfl, nl, rfl⟩
        unfold Builtin.«set.__init__» noKeywords
            Builtin.Frozenset.updateFrom
        generalize hPI : pyIter = PI
        wp_walk
        subst hPI
        refine wpAny_pyIter_list hl1 (wpAny_bind (wpAny_runValue ?_))
        have lS : l < s.heap.objs.size := Heap.lt_size hol
        have nI : l ≠ (s.heap.push (emptyO w)).objs.size := by
          rw [Heap.size_push]
          exact Nat.ne_of_lt (Nat.lt_succ_of_lt lS)
        have nS : s.heap.objs.size ∉ [(s.heap.push (emptyO w)).objs.size, l] := by
          rw [Heap.size_push]
          simp only [List.mem_cons, List.mem_singleton, List.not_mem_nil, or_false, not_or]
          exact ⟨Nat.ne_of_lt (Nat.lt_succ_self _), Nat.ne_of_gt lS⟩
        have val : ∀ (i : Nat) (v : Value), items[i]? = some v → ∃ x t, xs[i]? = some x ∧ v = .str x t := fun i v hv => by
          have hi : i < xs.length := by rw [← size]; exact (Array.getElem?_eq_some_iff.mp hv).1
          obtain ⟨t, e⟩ := SS.strs_at it i v (by rw [Array.getElem?_toList]; exact hv)
          refine ⟨xs[i], t, List.getElem?_eq_getElem hi, ?_⟩
          rw [e, List.getD_eq_getElem?_getD]
          rw [List.getElem?_eq_getElem hi] <;> rfl
        refine update ((Walks.list (by simp [hh]) _ l nI items).toS) s.heap.objs.size nS xs size few val (items.size - 0) 0 _ (by omega) (Nat.zero_le _) ⟨⟨_, Heap.get?_push_size _ rfl, rfl, rfl⟩, (hl1.push _)⟩ ⟨[], Nat.le_refl _, at_empty (Heap.get?_push_of_some _ here), fun y => ⟨(fun q => nomatch q), fun q => by simp at q⟩⟩ ?_
        intro s' L mv hS mem hlen
        obtain ⟨h', g4, d', t', os'⟩ := s'
        obtain rfl : g4 = s.gens := mv.gens
        obtain rfl : d' = s.drawn := mv.drawn
        obtain rfl : os' = s.os := mv.os
        rw [size] at hlen
        refine wpAny_pure (wpAny_pure ⟨rfl, h', t', L, rfl, hS, mem, hlen, fun b o e => ?_⟩)
        have b0 : b < s.heap.objs.size := Heap.lt_size e
        have b2 : b ≠ (s.heap.push (emptyO w)).objs.size := by
          rw [Heap.size_push]
          exact Nat.ne_of_lt (Nat.lt_succ_of_lt b0)
        refine mv.heap b o ?_ (Heap.get?_push_of_some _ (Heap.get?_push_of_some _ e))
        simp only [List.mem_cons, List.mem_singleton, List.not_mem_nil, or_false, not_or]
        exact ⟨Nat.ne_of_lt b0, b2⟩
      · cases r₂ with
        | error e => exact hr₂
        | ok fl₂ =>
          cases fl₂ with
          | ret r =>
            obtain ⟨rfl, h', t, L, rfl, q1, q2, q3, q4⟩ := hr₂
            repeat (any_goals (first | assumption |
                wp_step))
            exact h _ _ _ q1 q2 q3 q4
          | _ => exact hr₂.elim
    | _ => exact hr.elim
end
end Ts

set_option maxRecDepth 100000
set_option maxHeartbeats 3900000
namespace Ts
open PySem PySem.Spec PyProof.Rows L2
/-- the set of texts, over the hand layer -/
def SetT (P : Program) (w : World) (a : Addr) (L : List Str) : HO := .ext fun h => At P w h a L
theorem setT_ok {P : Program} {w : World} {H : Hp} {h : Heap} {a : Addr} {L : List Str} (R : At P w h a L) : ObjOk P w H h a (SetT P w a L) := by
  have ⟨o, _, _, _, ho, _⟩ := R
  exact ⟨R, ⟨o, ho⟩, fun h1 h2 p k => p.moved k⟩
section
variable {X : Cx}
/-- set(xs) -/
def rSet (K : PySem.W.Frag) (P : Program) (w : World) : List V → Hp → VK → Prop := fun vs H Q => ∃ (l : Addr) (xs : List Str), vs = [.ref l] ∧ SqL K H l (xs.map V.str) ∧ xs.length < 4000 ∧
  ∀ a L, H a = none → L.Nodup → (∀ y, y ∈ L ↔ y ∈ xs) → Q (.ref a) (upd H a (SetT P w a L))
theorem cr_set (hc : X.calm = true) : CallR X (.type "set") (rSet X.K X.prog X.w) := by
  intro pins s σ H vs us Q I
  intro r h
  obtain ⟨l, xs, rfl, hl, few, q⟩ := h
  rw [Vals.ref1 r]
  rcases I.list hl with ⟨its, rv, pl, _⟩
  refine made (P := X.prog) (w := X.w) xs (I.ok.hd hc) pl.isList (by simpa using rv.strs) (by unfold scanBound; omega) fun h' t L R mem len k => ?_
  exact ⟨.ref s.heap.objs.size, upd H s.heap.objs.size (SetT X.prog X.w s.heap.objs.size L), I.laid (t' := t) k (Nat.le_refl _) (setT_ok R), rfl, q _ L (I.hok.fresh (Nat.le_refl _)) (let ⟨_, _, _, _, _, _, _, _, n, _⟩ := R; n) mem⟩
theorem texts : ∀ {l : List Value} {P : Program} {w : World} {es : List (Int × Value)} {L : List Str}, l = es.map (·.2) → Paired (En P w) es L → StrsAre l L
  | _, P, w, [], _, e, .nil => by
    subst e
    exact .nil
  | _, P, w, e0 :: es, x :: L, e, .cons h r => by
    subst e
    obtain ⟨⟨u, h1⟩, _⟩ := h
    rw [List.map_cons, h1]
    exact .cons x u (texts rfl r)
/-- sorted(s) -/
def rSrt (P : Program) (w : World) : List V → Hp → VK → Prop := fun vs H Q => ∃ (a : Addr) (L : List Str), vs = [.ref a] ∧ H a = some (SetT P w a L) ∧ L.length < 64 ∧
  ∀ (ys : List Str) (p : Addr), ys.Perm L → ys.Nodup → sortedS ys = true → H p = none → Q (.ref p) (upd H p (.lst (ys.map V.str)))
theorem cr_srt (hc : X.calm = true) : CallR X (.builtin "sorted") (rSrt X.prog X.w) := by
  intro pins s σ H vs us Q I
  intro r h
  obtain ⟨a, L, rfl, ha, h64, q⟩ := h
  have R : At X.prog X.w s.heap a L := (I.hok a _ ha).1
  obtain ⟨o, es, ep, t, ho, hx, hd, g, nd, hb, fit, rise, led⟩ := R
  rw [Vals.ref1 r]
  have pX : X.A.handled = none := I.ok.hd hc
  refine Calls.call_function_entry kind_sorted plain_sorted entry_sorted (args_sorted1 _)
      ?_
  unfold Builtin.«sorted»
  refine wpAny_bind (m := checkCount "sorted" 1 1 _) ?_
  refine wpAny_pure ?_
  refine wpAny_bind (collect_set (A := X.A.in1) pX ⟨o, ho, hx.1, hd⟩ fit hb rise led fun s1 vs k1 hz g1 o1 pm => ?_)
  obtain ⟨es', pe, ev⟩ : ∃ es' : List (Int × Value), es'.Perm es.toList ∧ vs = es'.map (·.2) := by
    have self : ∀ l : List (Int × Value), Paired (fun (v : Value) (e : Int × Value) => v = e.2) (l.map (·.2)) l := fun l => by
      induction l with
      | nil => exact .nil
      | cons e r ih => exact .cons rfl ih
    obtain ⟨zs, pz, qz⟩ := pair_perm pm (self es.toList)
    have eq : ∀ {l : List Value} {zs : List (Int × Value)}, Paired (fun (v : Value) (e : Int × Value) => v = e.2) l zs → l = zs.map (·.2) := fun h => by
      induction h with
      | nil => rfl
      | cons h _ ih => rw [List.map_cons, h, ih]
    exact ⟨zs, pz, eq qz⟩
  obtain ⟨L', p', g'⟩ := pair_perm pe g
  have hS : StrsAre vs L' := texts ev g'
  have hvl : vs.length = L.length := by rw [StrsAre.len_eq hS, p'.length_eq]
  refine wpAny_bind (wpAny_newList ?_ (by rw [sizeLine_eq, hvl]; omega))
  have hoL : (s1.heap.push (seqObj "list" vs.toArray 0)).get? s1.heap.objs.size = some (seqObj "list" vs.toArray 0) := Heap.get?_push_size _
      rfl
  refine wpAny_bind (wpAny_holding (wpAny_call_entry slot_list_sort ⟨_, hoL, rfl⟩ entry_list_sort
    (list_sort_treeK strKind_oneLt (s := { s1 with heap := s1.heap.push (seqObj "list" vs.toArray 0) }) hoL hS.keysOf (fun v₁ v₂ rest e => keyKind_strs (by rw [← e]; exact hS)) (by rw [hvl]; exact h64) fun st' hp hs => ⟨_, rfl, ?_⟩) (args_list_sort _)))
  obtain ⟨ys, y1, y2, y3⟩ := sorted_out_str hS hp hs
  obtain ⟨c, hc'⟩ := sortedHeap_at (vs := vs) (out := (arrOf st').map (·.2)) hoL
  have yp : ys.Perm L := y2.trans p'
  have few : (ys.map V.str).length ≤ sizeLine := by rw [List.length_map, yp.length_eq, sizeLine_eq]; omega
  have hn : H s1.heap.objs.size = none := I.hok.fresh hz
  have old : ∀ b u, s.heap.get? b = some u → (sortedHeap (s1.heap.push (seqObj "list" vs.toArray 0)) s1.heap.objs.size vs ((arrOf st').map (·.2))).get? b = some u := fun b u e => by
    have q := k1 b u e
    have lt := Heap.lt_size q
    rw [sortedHeap_old (Nat.ne_of_lt lt) (by rw [size_push']; exact Nat.lt_succ_of_lt lt)]
    exact Heap.get?_push_of_some _
        q
  have J : Inv X pins σ (upd H s1.heap.objs.size (.lst (ys.map V.str))) { s with heap := sortedHeap (s1.heap.push (seqObj "list" vs.toArray 0)) s1.heap.objs.size vs ((arrOf st').map (·.2)), gens := s1.gens, drawn := s1.drawn, toks := s1.toks } :=
    I.call (ch := []) (Un.laid old hz hn) (I.hok.laid old hz ⟨few, ((arrOf st').map (·.2)).toList, c, vals_of_strs y1, by rw [Array.toArray_toList]; exact hc'⟩) (by rw [g1]; exact I.bare) (fun _ z => nomatch z)
  refine wpAny_pure ⟨_, rfl, .ref s1.heap.objs.size, _, ?_, rfl, q ys _ yp (yp.nodup_iff.mpr nd) y3 hn⟩
  cases s1
  cases s
  cases o1
  exact J
end
end Ts

set_option maxRecDepth 100000
set_option maxHeartbeats 3900000
/-! sorted(xs), xs a list of pairs of a text and a whole number, any number of them. -/
namespace Pr
open PySem PySem.Spec PyProof.Rows L2 SrtO
abbrev Pl := Str × Int
/-- by the text, then by the number -/
def lt (p q : Pl) : Bool := if p.1 = q.1 then decide (p.2 < q.2) else decide (p.1.cps.toList < q.1.cps.toList)
theorem cps_eq {a b : Str} (h : a.cps.toList = b.cps.toList) : a = b := by
  have e := congrArg List.toArray h
  rw [Array.toArray_toList, Array.toArray_toList] at e
  cases a
  cases b
  cases e
  rfl
theorem lt_yes {p q : Pl} : lt p q = true ↔ p.1.cps.toList < q.1.cps.toList ∨ (p.1 = q.1 ∧ p.2 < q.2) := by
  unfold lt
  by_cases e : p.1 = q.1
  · rw [if_pos e]
    rw [decide_eq_true_eq]
    constructor
    · exact fun h => .inr ⟨e, h⟩
    · rintro (h | h)
      · rw [e] at h
        exact absurd h (List.lt_irrefl _)
      · exact h.2
  · rw [if_neg e]
    rw [decide_eq_true_eq]
    constructor
    · exact .inl
    · rintro (h | h)
      · exact h
      · exact absurd h.1 e
theorem lt_no {p q : Pl} : lt p q = false ↔ q.1.cps.toList < p.1.cps.toList ∨ (p.1 = q.1 ∧ q.2 ≤ p.2) := by
  have y := lt_yes (p := p) (q := q)
  constructor
  · intro h
    have n : ¬ (p.1.cps.toList < q.1.cps.toList ∨ (p.1 = q.1 ∧ p.2 < q.2)) := fun z => by
      rw [y.mpr z] at h
      cases h
    by_cases e : p.1 = q.1
    · refine .inr ⟨e, ?_⟩
      have : ¬ p.2 < q.2 := fun z => n (.inr ⟨e, z⟩)
      omega
    · refine .inl ?_
      have h1 : q.1.cps.toList ≤ p.1.cps.toList := List.not_lt.mp fun z => n (.inl z)
      refine Classical.byContradiction fun h2 => e (cps_eq (List.le_antisymm (List.not_lt.mp h2) h1))
  · intro h
    cases hb : lt p q with
    | false => rfl
    | true =>
      exfalso
      rcases y.mp hb with a | ⟨a, b⟩
      · rcases h with c | ⟨c, _⟩
        · exact List.lt_irrefl _ (List.lt_trans a c)
        · rw [c] at a
          exact List.lt_irrefl _ a
      · rcases h with c | ⟨_, d⟩
        · rw [a] at c
          exact List.lt_irrefl _ c
        · omega
theorem swo {α : Type} (k : α → Pl) : Swo fun v u => lt (k v) (k u) := by
  refine ⟨fun x y h => ?_, fun x y z h1 h2 =>
      ?_⟩
  · refine lt_no.mpr ?_
    rcases lt_yes.mp h with a | ⟨a, b⟩
    · exact .inl a
    · exact .inr ⟨a.symm, by omega⟩
  · refine lt_no.mpr ?_
    rcases lt_no.mp h1 with a | ⟨a, a'⟩ <;> rcases lt_no.mp h2 with b | ⟨b, b'⟩
    · exact .inl (List.lt_trans a b)
    · exact .inl (by rw [b]; exact a)
    · exact .inl (by rw [← a]; exact b)
    · exact .inr ⟨b.trans a, by omega⟩
/-- v is the pair of x and y -/
def Is (h : Heap) (v : Value) (p : Pl) : Prop := ∃ a o t u n, v = .ref a ∧ h.get? a = some o ∧ o.cls = .type "tuple" ∧ o.data = .seq #[.str p.1 t, .int p.2 u] n
theorem Is.keeps {h h' : Heap} {v : Value} {p : Pl} (x : Is h v p) (k : ∀ b o, h.get? b = some o → o.cls = .type "tuple" → h'.get? b = some o) : Is h' v p := let ⟨a, o, t, u, n, e, ho, hc, hd⟩ := x; ⟨a, o, t, u, n, e, k _ _ ho hc, hc, hd⟩
theorem firsts {h : Heap} : ∀ {vs : List Value}, (∀ v ∈ vs, ∃ p, Is h v p) → ∃ fs : List Value, PySem.W.KatTups h vs fs ∧ fs.length = vs.length ∧ ∀ f ∈ fs, ∃ x t, f = Value.str x t
  | [], _ => ⟨[], PySem.W.KatTups.nil, rfl, fun _ m => nomatch m⟩
  | v :: vs, hp => by
    obtain ⟨fs, k1, k2, k3⟩ := firsts (vs := vs) fun z m => hp z (List.mem_cons_of_mem _ m)
    obtain ⟨p, a, o, t, u, n, rfl, ho, hc, hd⟩ := hp v List.mem_cons_self
    refine ⟨.str p.1 t :: fs, PySem.W.KatTups.cons ho hc hd rfl k1, by rw [List.length_cons, List.length_cons, k2], fun f m => ?_⟩
    rcases List.mem_cons.mp m with rfl | m
    · exact ⟨p.1, t, rfl⟩
    · exact k3 f m
section
variable {prog : Program} {w : World} {A : Around} {E : Value → Shared → Prop} {s : Shared}
theorem cmp {vs : List Value} {k : Value → Pl} (hp : ∀ v ∈ vs, Is s.heap v (k v)) : Cmp prog w A s (tuples' true) (fun p => p.1 ∈ vs) (lt2 fun v u => lt (k v) (k u)) := by
  intro p q m m'
  have i1 := hp _ m
  have i2 := hp _ m'
  show wpAny (model prog w) A (keyLt' (tuples' true) p.1 q.1) (fun r s' => s' = s ∧ r = lt (k p.1) (k q.1)) (fun _ _ => False) s
  unfold lt
  generalize k p.1 = f at i1 ⊢
  generalize k q.1 = g at i2 ⊢
  obtain ⟨x, y⟩ := f
  obtain ⟨x', y'⟩ := g
  obtain ⟨a, o, t, u, n, e, ho, hc, hd⟩ := i1
  obtain ⟨a', o', t', u', n', e', ho', hc', hd'⟩ := i2
  rw [e, e']
  dsimp only at hd hd' ⊢
  refine PySem.W.kat_lt ho hd ho' hd'
      ?_
  show PySem.W.KatLex prog w A true (decide (2 < 2)) _ [(.str x t, .str x' t'), (.int y u, .int y' u')] 0 s
  refine PySem.W.kat_cons (SeqAt.EqAt.str_str x t x' t' prog w _ _ (PySem.W.kat_go (fun e1 => ?_) (fun e1 => ?_)))
  · have ex : x = x' := eq_of_beq e1
    refine PySem.W.kat_yes (PySem.W.kat_cons (SeqAt.EqAt.int_int y u y' u' prog w _ _ (PySem.W.kat_go (fun e2 => ?_) (fun e2 => ?_))))
    · have ey : y = y' := by simpa using
          e2
      refine PySem.W.kat_yes (PySem.W.kat_nil ⟨rfl, ?_⟩)
      rw [if_pos ex, ey]
      exact (decide_eq_false (Int.lt_irrefl _)).symm
    · refine PySem.W.kat_no (PySem.W.kat_one _ _ (PyProof.Rows.lt_int ?_))
      exact (show s = s ∧ decide (y < y') = (if x = x' then decide (y < y') else decide (x.cps.toList < x'.cps.toList)) from ⟨rfl, (if_pos ex).symm⟩)
  · have ex : ¬ x = x' := fun z => by
      rw [z] at e1
      simp at e1
    exact PySem.W.kat_no (oneLt_str ⟨rfl, (if_neg ex).symm⟩)
theorem sortable {a : Addr} {vs : List Value} {k : Value → Pl} (h0 : 0 < vs.length) (hp : ∀ v ∈ vs, Is s.heap v (k v)) (ha : ∀ o, s.heap.get? a = some o → o.cls ≠ .type "tuple") : SortableO prog w A s a vs fun v u => lt (k v) (k u) := by
  intro h' keep
  have hp' : ∀ v ∈ vs, Is h' v (k v) := fun v m => (hp v m).keeps fun b o e c => keep b o (fun z => by subst z; exact ha o e c) e
  obtain ⟨fs, k1, k2, k3⟩ := firsts fun v m => ⟨_, hp' v m⟩
  refine ⟨tuples' true, fun Q E hq => ?_, cmp hp'⟩
  refine PySem.W.kat_kind (T := .type "str") k1 (by omega) (fun f m => ?_) (by rfl) ?_
  · obtain ⟨x, t, rfl⟩ := k3 f m
    exact PySem.W.Looks.now
  · have e : (Value.type "str" != Value.type "tuple") = true := by decide +kernel
    rw [e]
    exact hq
end
/-- sorted(xs) -/
def rSp (K : PySem.W.Frag) : List V → Hp → VK → Prop := fun vs H Q => ∃ (a : Addr) (xs : List V) (k : V → Pl), vs = [V.ref a] ∧ SqL K H a xs ∧ (∀ x ∈ xs, ∃ t, x = V.ref t ∧ H t = some (.tup [.str (k x).1, .int (k x).2])) ∧
  ∀ ys p, Srtd (fun x y => lt (k x) (k y)) ys → ys.Perm xs → H p = none → Q (.ref p) (upd H p (.lst ys))
section
variable {X : Cx}
theorem cr_sp : CallR X (.builtin "sorted") (rSp X.K) := by
  intro pins s σ H vs us Q I
  intro r h
  rcases h with ⟨a, xs, k, rfl, hs, hx, q⟩
  rcases I.list hs with ⟨its, rv, hl, hz⟩
  rcases vals1 r with ⟨u, rfl, ru⟩
  have same_as : u = Value.ref a := ru
  subst same_as
  obtain ⟨e1, e2⟩ := refs_back rv fun x m => let ⟨t, e, _⟩ := hx x m; ⟨t, e⟩
  have pairs : ∀ v ∈ its, Is s.heap v (k (backV v)) := fun v hv => by
    obtain ⟨t, rfl⟩ := e2 v hv
    obtain ⟨t', e, ht⟩ := hx (V.ref t) (by rw [e1]; exact List.mem_map.mpr ⟨_, hv, rfl⟩)
    cases e
    rcases I.hok _ _ ht with ⟨_, its2, r2, o, ho, hc, n, hd⟩
    obtain ⟨u1, u2, rfl, ⟨t1, rfl⟩, ⟨t2, rfl⟩⟩ := vals2 r2
    exact ⟨t, o, t1, t2, n, rfl, ho, hc,
        hd⟩
  refine sorted_ord (swo fun u => k (backV u)) hl.isList (by rw [← rv.length]; exact hz) (fun h2 h₁ b hb kk => ?_) fun out h1 h2 => ?_
  · refine sortable (s := { s with heap := h₁ }) (by omega) (fun v m => (pairs v m).keeps fun b o e _ => (kk b o e).2) fun o e => ?_
    cases e.symm.trans hb
    exact fun c => absurd (Value.type.inj c) (by decide)
  · have h3 : ∀ u ∈ out, ∃ a, u = Value.ref a := fun u hu => e2 u (h2.perm.mem_iff.mp
        hu)
    obtain ⟨n, hn⟩ := sortedAll_at s.heap its out.toArray
    have pm : (out.map backV).Perm xs := by
      rw [e1]
      exact h2.perm.map backV
    refine ⟨.ref (s.heap.objs.size + 1), upd H _ (.lst (out.map backV)), I.laid (t' := s.toks) (fun b o e => sortedAll_old e) (Nat.le_succ _) ⟨?_, out, n, vals_back h3, hn⟩, rfl, q _ _ (srtd_map h1) pm (I.hok.fresh (Nat.le_succ _))⟩
    rw [pm.length_eq]
    exact hz
end
end Pr

set_option maxRecDepth 100000
set_option maxHeartbeats 3900000
namespace K
open PySem PySem.Spec PyProof.Rows L2
/-! ### what is shown in few signs -/
/-- an int of few figures -/
def SmI (i : Int) : Prop := i.natAbs < 1000000000
theorem SmI.weight {i : Int} (h : SmI i) : PyData.weight (.int i) ≤ 40 := by
  unfold SmI at h
  show (if (i == 0) = true then 0 else i.natAbs.log2 + 1) ≤ 40
  split
  · omega
  · rename_i hi
    have hi : i ≠ 0 := fun e => hi (by rw [e]; rfl)
    have : i.natAbs.log2 < 39 := (Nat.log2_lt (by omega)).mpr (Nat.lt_trans h (by decide))
    omega
theorem SmI.short {i : Int} (h : SmI i) : PyData.intsShort 13 (.int i) = true :=
  decide_eq_true (PyData.shown_int_le (Nat.lt_trans h (by decide)))
mutual
theorem sho : ∀ d : PyData, d.hasDict = false → PyData.weight d < 1920 → PyData.showable d = true
  | .none, _, _ => rfl
  | .bool _, _, _ => rfl
  | .str _, _, _ => rfl
  | .int i, _, h => by
    refine decide_eq_true ?_
    have h : (if (i == 0) = true then 0 else i.natAbs.log2 + 1) < 1920 := h
    by_cases e : i = 0
    · rw [e]
      decide
    · rw [if_neg (fun z => e (eq_of_beq z))] at h
      omega
  | .list xs, h, k => shoAll xs h k
  | .tuple xs, h, k => shoAll xs h k
  | .dict _, h, _ => nomatch h
theorem shoAll : ∀ xs : List PyData, PyData.hasDictAll xs = false → PyData.weightAll xs < 1920 → PyData.showableAll xs = true
  | [], _, _ => rfl
  | x :: xs, h, k => by
    have h : (PyData.hasDict x || PyData.hasDictAll xs) = false := h
    rw [Bool.or_eq_false_iff] at h
    have k : PyData.weight x + 1 + PyData.weightAll xs < 1920 := k
    show (PyData.showable x && PyData.showableAll xs) = true
    rw [sho x h.1 (by omega), shoAll xs h.2 (by omega)]
    rfl
end
theorem lay0 {d : PyData} (h : PySem.SeqAt.shaped d = true) (k : PyData.weight d ≤ 2 ^ 20) : PyData.layable0 d = true := by
  unfold PySem.SeqAt.shaped at h
  unfold PyData.layable0
  rw [h, decide_eq_true k]
  rfl
theorem SmI.sho {i : Int} (h : SmI i) : PyData.showable (.int i) = true := K.sho _ rfl (by have := h.weight; omega)
theorem shaped_of {d : PyData} (h : PyData.canLay0 d = true) (k : PyData.depth d ≤ 64) : PySem.SeqAt.shaped d = true := by
  unfold PySem.SeqAt.shaped
  rw [h, decide_eq_true k]
  rfl
theorem same_eq {d : PyData} (h : PySem.SeqAt.shaped d = true) : (!PyData.eqv d d) = false := by
  rw [PySem.SeqAt.eqv_refl d (PySem.SeqAt.canLay_of_shaped h)]
  rfl
/-! ### repr of data -/
section
variable {X : Cx}
def rRepD (K : PySem.W.Frag) : List V → Hp → VK → Prop := fun xs H Q => ∃ (p : Addr) (d : PyData), xs = [.ref p] ∧ Dp K H (.ref p) d ∧ d.hasDict = false ∧ d.showable = true ∧ d.depth ≤ 30 ∧ d.shown.length ≤ sizeLine ∧ Q (.str d.shown) H
theorem call_repD (hg : X.A.guards = some []) (hu : X.A.units + 64 < cLine) : CallR X (.builtin "repr") (rRepD X.K) := by
  rintro pins s σ H xs us Q I r ⟨p, d, rfl, hd, hn, hs, hdep, hz, q⟩
  rcases vals1 r with ⟨u, rfl, rx⟩
  cases (show u = Value.ref p from rx)
  obtain ⟨as, ra⟩ := Dp.reads I d _ _ hd rx
  exact repr_of_reads' ra hs (PyData.noDict_hsm hn) hg (by omega) (fun _ _ e => e) (fun h' u tk hk' => ⟨.str _, H, I.kept (t' := tk) hk', ⟨_, rfl⟩, q⟩) hz
end
/-- data that is shown in few signs -/
def Few (d : PyData) : Prop := PyData.canLay0 d = true ∧ PyData.depth d ≤ 30 ∧ d.hasDict = false ∧ PyData.weight d ≤ 1900 ∧ PyData.intsShort 13 d = true
theorem Few.shaped {d : PyData} (h : Few d) : PySem.SeqAt.shaped d = true := shaped_of h.1 (Nat.le_trans h.2.1 (by decide))
theorem Few.shows {d : PyData} (h : Few d) : d.hasDict = false ∧ d.showable = true ∧ d.depth ≤ 30 ∧ d.shown.length ≤ sizeLine :=
  ⟨h.2.2.1, sho d h.2.2.1 (Nat.lt_of_le_of_lt h.2.2.2.1 (by decide)), h.2.1, PyData.shown_fits_of_layable0 (B := 13) (by decide) (by decide) (lay0 h.shaped (Nat.le_trans h.2.2.2.1 (by decide))) h.2.2.2.2⟩
theorem ints_lay : ∀ ns : List Int, PyData.canLayAll0 (ns.map PyData.int) = true ∧ PyData.depthAll (ns.map PyData.int) = 0
  | [] => ⟨rfl, rfl⟩
  | n :: r => by
    obtain ⟨a, b⟩ := ints_lay r
    refine ⟨?_, ?_⟩
    · show (true && PyData.canLayAll0 (r.map PyData.int)) = true
      rw [a]
      rfl
    · show max 0 (PyData.depthAll (r.map PyData.int)) = 0
      rw [b]
      rfl
theorem ints_shaped (ns : List Int) : PySem.SeqAt.shaped (.list (ns.map PyData.int)) = true := by
  obtain ⟨a, b⟩ := ints_lay ns
  exact shaped_of a (show PyData.depthAll (ns.map PyData.int) + 1 ≤ 64 by omega)
theorem ints_dp {K : PySem.W.Frag} {H : Hp} : ∀ ns : List Int, DpAll K H (ns.map V.int) (ns.map PyData.int)
  | [] => .nil
  | n :: r => .cons (.int n) (ints_dp r)
theorem map_at {α β : Type} {f : α → β} {xs : List α} {i : Nat} {v : β} (h : (xs.map f)[i]? = some v) : ∃ x, xs[i]? = some x ∧ f x = v := by
  rw [List.getElem?_map] at h
  cases e : xs[i]? with
  | none =>
    rw [e] at h
    cases h
  | some k =>
    rw [e] at h
    exact ⟨k, rfl, Option.some.inj h⟩
theorem SmI.of {i w : Int} (hw : w < 1000000) (h : -w ≤ i) (k : i ≤ w) : SmI i := by
  unfold SmI
  omega
end K

set_option maxRecDepth 100000
set_option maxHeartbeats 3900000
namespace K
open PySem PySem.Spec PyProof.Rows L2
/-! ### calls of own defs by keywords -/
structure CalN (P : Program) (w : World) (K : PySem.W.Frag) (mg : Str → Option Value) (base : Heap) (k : Nat) (x : Str) (sp : Sp) (n : Nat) (ks : List Str) (gV : List V → List V → List V) : Prop where
  ex : ∃ (f : Addr) (fd : FuncData) (ps : List Str) (g : List Value → List Value → List Value), FnOk P w K mg base CX0 k f fd ps sp ∧ mg x = some (.ref f) ∧ PySem.W.keepIn K (.ref f) = true ∧ KBn K fd ps n ks g gV
section
variable {X : Cx} {k j n : Nat} {x : Str} {sp : Sp} {p pos : Pos} {e : Expr} {es : List Expr} {kws : List Keyword} {t tk : TA} {ks : List Str} {gV : List V → List V → List V}
theorem pe_cN (c : CalN X.prog X.w X.K X.mg X.base k x sp n ks gV) (hr : Room j X.A) (hk : k ≤ j) (hg : Gl X x) (ha : PA X (e :: es) t) (hkw : PK X kws tk)
    (hall : (backToKw pos (keywordEach kws X.env)).all (·.1.isSome) = true := by rfl) (hks : (backToKw pos (keywordEach kws X.env)).filterMap (·.1) = ks := by rfl)
    (nodb : (x == ("__debug__" : Str)) = false := by decide) (est : starEach (e :: es) X.env = (false, eval e X.env) :: starEach es X.env := by rfl)
    (plain : ((backTo pos (starEach (e :: es) X.env)).any (·.1) || (backToKw pos (keywordEach kws X.env)).any (·.1.isNone)) = false := by rfl) :
    PE X (.Call (.Name x p) (e :: es) kws pos) (tCallN n ks.length sp gV E0 t tk) := by
  obtain ⟨f, fd, ps, g, F, hm, kp, b⟩ := c.ex
  exact pe_callN F (hr.mono hk) hg hm kp b pass0 ha hkw hall hks nodb est plain
theorem pe_cN0 (c : CalN X.prog X.w X.K X.mg X.base k x sp 0 ks gV) (hr : Room j X.A) (hk : k ≤ j) (hg : Gl X x) (hkw : PK X kws tk)
    (hall : (backToKw pos (keywordEach kws X.env)).all (·.1.isSome) = true := by rfl) (hks : (backToKw pos (keywordEach kws X.env)).filterMap (·.1) = ks := by rfl)
    (nodb : (x == ("__debug__" : Str)) = false := by decide)
    (plain : ((backTo pos (starEach [] X.env)).any (·.1) || (backToKw pos (keywordEach kws X.env)).any (·.1.isNone)) = false := by rfl) :
    PE X (.Call (.Name x p) [] kws pos) (tCallN 0 ks.length sp gV E0 tNil tk) := by
  obtain ⟨f, fd, ps, g, F, hm, kp, b⟩ := c.ex
  refine ⟨fun pins s σ H Q I h => ?_⟩
  refine wpAny_Call_Name_kw (ld_glob (x := x) I hg hm ?_ nodb)
  refine PySem.W.callWith_KW0 (h₀ := X.base) I.ok.mod.kin kp hall ?_ plain
  refine thn (hkw.run pos pins s σ H _ I h) fun ws s2 ⟨zs, H2, J, rz, m1, m2, qq⟩ => ⟨J.kIn, ?_⟩
  rw [hks]
  exact run_fnN F (hr.mono hk) b pass0 J .nil rz m1 m2 qq
end
theorem kbn_of {K : PySem.W.Frag} {x qual : Str} {st : Stmt} {f : Addr} {fd : FuncData} {ps : List Str} (F : Fun K x qual st f fd) (n : Nat) (ks : List Str) (g : {α : Type} → List α → List α → List α)
    (hrel : ∀ {vs : List V} {us : List Value} {zs : List V} {ws : List Value}, Vals vs us → Vals zs ws → Vals (g vs zs) (g us ws))
    (h : ∀ (kV doc pm : Value) (an : Option Addr) (cdv ct : Value) (us ws : List Value), us.length = n → ws.length = ks.length → bindArgs (PySem.W.fnOf x qual (defArgs st) (defBody st) (defScope st) .none kV doc pm an cdv ct) ⟨us, ks.zip ws⟩ = pure (ps.zip (g us ws))) :
    KBn K fd ps n ks (fun us ws => g us ws) (fun us ws => g us ws) := by
  obtain ⟨_, _, kV, doc, pm, an, cdv, ct, _, rfl, _, _⟩ := F.ex
  exact ⟨fun s us ws _ l1 l2 => .of_eq (h kV doc pm an cdv ct us ws l1 l2), fun a b => hrel a b⟩
end K

set_option maxRecDepth 100000
set_option maxHeartbeats 3900000
namespace K
open PySem PySem.Spec PyProof.Rows L2
/-! ### equal things, dicts among them -/
/-- equal: the same data, or tuples, lists, dicts of equal things; of nesting below n -/
def EqW (K : PySem.W.Frag) (H : Hp) : Nat → V → V → Prop
  | 0 => fun _ _ => False
  | n + 1 => fun x y => (∃ d, Dp K H x d ∧ Dp K H y d ∧ PySem.SeqAt.shaped d = true) ∨ (∃ a, x = .ref a ∧ y = .ref a) ∨ (∃ a b xs ys, x = .ref a ∧ y = .ref b ∧ SqT K H a xs ∧ SqT K H b ys ∧ Paired (EqW K H n) xs ys) ∨ EqR K H (EqW K H n) x y
section
variable {X : Cx} {pins : List (Addr × Obj)} {σ : L2.St} {H : Hp} {s :
    Shared}
theorem tup_run (I : Inv X pins σ H s) {A : Around} {F : V → V → Prop} (hu : A.units < cLine) (ih : ∀ x y v u, F x y → RelV x v → RelV y u → SeqAt.EqP X.prog X.w A.in1 s v u true) {a b : Addr} {xs ys : List V} (ha : SqT X.K H a xs) (hb : SqT X.K H b ys) (hp : Paired F xs ys)
    (E Q : Value → Shared → Prop) (q : Q (.bool true) s) : wpAny (model X.prog X.w) A (richCompare .Eq (.ref a) (.ref b)) Q E s := by
  obtain ⟨us, r1, p1, _⟩ := I.tuple ha
  obtain ⟨ws, r2, p2, _⟩ := I.tuple hb
  have hsz : us.toArray.size = ws.toArray.size :=
      by
    rw [List.size_toArray]
    rw [List.size_toArray, ← r1.length, ← r2.length]
    exact Paired.length hp
  refine GQ.rc_tupG hsz hu (fun _ s' => s' = s) p1 p2 (fun j h1 h2 s' e => ?_) (fun s' e => by rw [e]; exact q) rfl
  subst e
  have k := items_run ih hp r1 r2 j (by simpa using h1) (by simpa using h2)
  exact (by simpa using k : SeqAt.EqP X.prog X.w A.in1 s' us.toArray[j] ws.toArray[j] true) E _ ⟨rfl, rfl⟩
theorem eqW_run (I : Inv X pins σ H s) : ∀ (n : Nat) (A : Around), A.units + n + 64 < cLine → ∀ (x y : V) (v u : Value), EqW X.K H n x y → RelV x v → RelV y u → SeqAt.EqP X.prog X.w A s v u true
  | 0, _, _, _, _, _, _, h, _, _ => (show False from
      h).elim
  | n + 1, A, hu, x, y, v, u, h, rx, ry =>
      by
    have ih := eqW_run I n A.in1 (by show A.units + 1 + n + 64 < cLine; omega)
    rcases h with ⟨d, h1, h2, hs⟩ | ⟨a, rfl, rfl⟩ | ⟨a, b, xs, ys, rfl, rfl, h1, h2, hp⟩ | h
    · obtain ⟨as, r1⟩ := Dp.reads I d _ _ h1 rx
      obtain ⟨bs, r2⟩ := Dp.reads I d _ _ h2 ry
      have cl := SeqAt.canLay_of_shaped hs
      have k := SeqAt.eqAt_reads d d A s v u as bs r1 r2 cl cl (SeqAt.room_of_shaped hs (by omega))
      rw [SeqAt.eqv_refl d cl] at k
      exact k.eqP
    · cases (show v = Value.ref a from
          rx)
      cases (show u = Value.ref a from
          ry)
      exact (SeqAt.EqAt.same _).eqP
    · cases (show v = Value.ref a from
          rx)
      cases (show u = Value.ref b from
          ry)
      by_cases e : a = b
      · subst e
        exact (SeqAt.EqAt.same _).eqP
      · exact SeqAt.eqP_refs e (tup_run I (by omega) ih h1 h2 hp)
    · have step := eqR_run I (A := A) (by omega) ih h rx ry
      obtain ⟨a, b, rfl, rfl⟩ : ∃ a b, x = .ref a ∧ y = .ref b :=
          by
        obtain ⟨a, b, _, _, e1, e2, _⟩ | ⟨a, b, _, _, e1, e2, _⟩ := h
        · exact ⟨a, b, e1, e2⟩
        · exact ⟨a, b, e1, e2⟩
      cases (show v = Value.ref a from
          rx)
      cases (show u = Value.ref b from
          ry)
      by_cases e : a = b
      · subst e
        exact (SeqAt.EqAt.same _).eqP
      · exact SeqAt.eqP_refs e step
end
section
variable {X : Cx}
/-- a == b, of two tuples or two dicts that are equal -/
def rEqW (K : PySem.W.Frag) : R2 := fun x y H Q => ∃ n, n ≤ 30 ∧ ((∃ a b xs ys, x = .ref a ∧ y = .ref b ∧ SqT K H a xs ∧ SqT K H b ys ∧ Paired (EqW K H n) xs ys) ∨ EqR K H (EqW K H n) x y) ∧ Q (.bl true) H
theorem op_eqW (hu : X.A.units + 128 < cLine) : OpR X (compareOp .Eq) (rEqW X.K) := by
  intro pins s σ H x y v u Q I rx
  intro ry h
  obtain ⟨n, hn, h, q⟩ := h
  have ih := eqW_run I n X.A.in1 (by show X.A.units + 1 + n + 64 < cLine; omega)
  rcases h with ⟨a, b, xs, ys, rfl, rfl, h1, h2, hp⟩ | h
  · cases (show v = Value.ref a from
        rx)
    cases (show u = Value.ref b from
        ry)
    exact tup_run I (A := X.A) (by omega) ih h1 h2 hp _ _ ⟨.bl true, H, I, rfl, q⟩
  · exact eqR_run I (A := X.A) (by omega) ih h rx ry _ _ ⟨.bl true, H, I, rfl, q⟩
end
end K

set_option maxRecDepth 100000
set_option maxHeartbeats 3900000
namespace K
open PySem PySem.Spec PyProof.Rows L2
/-! ### what is shown has no great letters -/
/-- no T, no F among its signs -/
def Cf (t : Str) : Prop := 84 ∉ t.cps.toList ∧ 70 ∉ t.cps.toList
theorem none_in {x y : Str} {k : Nat} (h : k ∉ x.cps.toList) (e : y.cps.toList.head? = some k) : (Builtin.Str.occurrences x y 0 x.length 1).isEmpty = true := by
  cases z : (Builtin.Str.occurrences x y 0 x.length 1).isEmpty with
  | true => rfl
  | false =>
    obtain ⟨i, hi, hs⟩ := (StrLaws.found_iff x y).mp (by rw [z]; rfl)
    refine absurd ?_ h
    unfold Builtin.Str.subAt at hs
    have hs := eq_of_beq hs
    have e2 : (x.cps.extract i (i + y.length)).toList.head? = some k := by rw [hs]; exact e
    have : k ∈ (x.cps.extract i (i + y.length)).toList := List.mem_of_mem_head? e2
    rw [Array.toList_extract] at this
    exact List.mem_of_mem_drop (List.mem_of_mem_take this)
theorem Cf.true_out {x : Str} (h : Cf x) : (Builtin.Str.occurrences x "True" 0 x.length 1).isEmpty = true := none_in h.1 (by decide +kernel)
theorem Cf.false_out {x : Str} (h : Cf x) : (Builtin.Str.occurrences x "False" 0 x.length 1).isEmpty = true := none_in h.2 (by decide +kernel)
theorem Cf.app {a b : Str} (h : Cf a) (k : Cf b) : Cf (a ++ b) := ⟨fun m => (mem_cps_append.mp m).elim h.1 k.1, fun m => (mem_cps_append.mp m).elim h.2 k.2⟩
theorem Cf.join {sep : Str} (hs : Cf sep) {ts : List Str} (h : ∀ t ∈ ts, Cf t) : Cf (Str.join sep ts) :=
  ⟨fun m => ((mem_join sep 84 ts).mp m).elim (fun ⟨t, ht, hc⟩ => (h t ht).1 hc) fun z => hs.1 z.2, fun m => ((mem_join sep 70 ts).mp m).elim (fun ⟨t, ht, hc⟩ => (h t ht).2 hc) fun z => hs.2 z.2⟩
theorem cf_int (i : Int) : Cf (PyData.int i).shown := ⟨shown_int_free' (by decide) i, shown_int_free' (by decide) i⟩
/-- a text of small letters -/
def Low (x : Str) : Prop := x.cps.size ≤ 10 ∧ ∀ c ∈ x.cps.toList, 97 ≤ c ∧ c < 123
theorem low_char : ∀ c : Nat, 97 ≤ c → c < 123 → Builtin.Str.reprChar 39 c = [c] ∧ Builtin.Str.reprChar 34 c = [c] := by
  have all : (List.range 123).all (fun c => decide (c < 97) || (decide (Builtin.Str.reprChar 39 c = [c]) && decide (Builtin.Str.reprChar 34 c = [c]))) = true := by decide +kernel
  intro c h1 h2
  have := List.all_eq_true.mp all c (List.mem_range.mpr h2)
  rw [Bool.or_eq_true, Bool.and_eq_true, decide_eq_true_eq, decide_eq_true_eq, decide_eq_true_eq] at this
  exact this.resolve_left (by omega)
theorem fold_low {q : Nat} (hq : q = 39 ∨ q = 34) : ∀ (l : List Nat) (acc : Array Nat), (∀ c ∈ l, 97 ≤ c ∧ c < 123) → (l.foldl (fun out c => out ++ (Builtin.Str.reprChar q c).toArray) acc).toList = acc.toList ++ l
  | [], acc, _ => by simp
  | c :: r, acc, h => by
    obtain ⟨h1, h2⟩ := h c List.mem_cons_self
    have e : Builtin.Str.reprChar q c = [c] := by
      rcases hq with rfl | rfl
      · exact (low_char c h1 h2).1
      · exact (low_char c h1 h2).2
    rw [List.foldl_cons, e, fold_low hq r _ fun d hd => h d (List.mem_cons_of_mem _ hd)]
    simp
theorem quote_is (x : Str) : reprQuote x = 39 ∨ reprQuote x = 34 := by
  unfold reprQuote
  split <;> first | exact .inl rfl | exact .inr rfl
theorem Low.signs {x : Str} (h : Low x) : (reprText x).cps.toList = [reprQuote x] ++ x.cps.toList ++ [reprQuote x] := by
  unfold reprText
  show ((x.cps.foldl (fun out c => out ++ (Builtin.Str.reprChar (reprQuote x) c).toArray) #[reprQuote x]).push (reprQuote x)).toList = _
  rw [Array.toList_push, ← Array.foldl_toList, fold_low (quote_is x) _ _ h.2]
theorem cf_str {x : Str} (h : Low x) : Cf (PyData.str x).shown := by
  rw [PyData.shown_str]
  have q := quote_is x
  have no : ∀ k : Nat, k ≠ 39 → k ≠ 34 → k < 97 → k ∉ (reprText x).cps.toList := fun k k1 k2 k3 m => by
    rw [h.signs, List.mem_append, List.mem_append, List.mem_singleton] at m
    rcases m with (m | m) | m
    · rcases q with q | q <;> omega
    · have := h.2 k m
      omega
    · rcases q with q | q <;> omega
  exact ⟨no 84 (by decide) (by decide) (by decide), no 70 (by decide) (by decide) (by decide)⟩
theorem len_str {x : Str} (h : Low x) : (PyData.str x).shown.length ≤ 12 := by
  rw [PyData.shown_str]
  have e : (reprText x).length = (reprText x).cps.toList.length := by rw [Array.length_toList]; rfl
  have s := h.1
  rw [e, h.signs, List.length_append, List.length_append, Array.length_toList]
  show 1 + x.cps.size + 1 ≤ 12
  omega
theorem cf_all {xs : List PyData} (h : ∀ x ∈ xs, Cf x.shown) : ∀ t ∈ PyData.shownAll xs, Cf t := fun t ht => ⟨shownAll_free (fun x hx => (h x hx).1) t ht, shownAll_free (fun x hx => (h x hx).2) t ht⟩
theorem cf_tup {xs : List PyData} (h : ∀ x ∈ xs, Cf x.shown) : Cf (PyData.tuple xs).shown := by
  rw [PyData.shown_tuple]
  refine Cf.app (Cf.app (by unfold Cf; decide +kernel) (Cf.join (by unfold Cf; decide +kernel) (cf_all h))) ?_
  split <;> (unfold Cf; decide +kernel)
theorem cf_kv : ∀ {kvs : List (PyData × PyData)}, (∀ p ∈ kvs, Cf p.1.shown ∧ Cf p.2.shown) → ∀ t ∈ PyData.shownKv kvs, Cf t
  | [], _, t, ht => by
    rw [PyData.shownKv_nil] at ht
    cases ht
  | (k, v) :: r, h, t, ht => by
    rw [PyData.shownKv_cons, List.mem_cons] at ht
    rcases ht with rfl | ht
    · have := h (k, v) List.mem_cons_self
      exact (this.1.app (by unfold Cf; decide +kernel)).app this.2
    · exact cf_kv (fun p hp => h p (List.mem_cons_of_mem _ hp)) t ht
theorem cf_dict {kvs : List (PyData × PyData)} (h : ∀ p ∈ kvs, Cf p.1.shown ∧ Cf p.2.shown) : Cf (PyData.dict kvs).shown := by
  rw [PyData.shown_dict]
  exact Cf.app (Cf.app (by unfold Cf; decide +kernel) (Cf.join (by unfold Cf; decide +kernel) (cf_kv h))) (by unfold Cf; decide +kernel)
/-! how long -/
theorem len_join {m : Nat} : ∀ {ts : List Str}, (∀ t ∈ ts, t.length ≤ m) → (Str.join ", " ts).length ≤ (m + 2) * ts.length
  | [], _ => Nat.zero_le _
  | [x], h => by
    rw [join_one]
    have := h x List.mem_cons_self
    simp only [List.length_cons,
        List.length_nil]
    omega
  | x :: y :: r, h => by
    rw [join_cons_cons, strLen_append, strLen_append]
    have h1 := h x List.mem_cons_self
    have h2 := len_join (ts := y :: r) fun t ht => h t (List.mem_cons_of_mem _ ht)
    have e : (", " : Str).length = 2 := by decide +kernel
    rw [e, List.length_cons (a := x), Nat.mul_succ]
    omega
theorem len_all {m : Nat} : ∀ {xs : List PyData}, (∀ x ∈ xs, x.shown.length ≤ m) → ∀ t ∈ PyData.shownAll xs, t.length ≤ m
  | [], _, t, ht => by
    rw [PyData.shownAll_nil] at ht
    cases ht
  | x :: r, h, t, ht => by
    rw [PyData.shownAll_cons] at ht
    rw [List.mem_cons] at ht
    rcases ht with rfl | ht
    · exact h x List.mem_cons_self
    · exact len_all (fun y hy => h y (List.mem_cons_of_mem _ hy)) t ht
theorem len_tup {m : Nat} {xs : List PyData} (h : ∀ x ∈ xs, x.shown.length ≤ m) : (PyData.tuple xs).shown.length ≤ (m + 2) * xs.length + 3 := by
  rw [PyData.shown_tuple, strLen_append, strLen_append]
  have h1 := len_join (len_all h)
  rw [PyData.shownAll_length] at h1
  have e : ("(" : Str).length = 1 := by decide +kernel
  have e2 : ((if xs.length == 1 then ",)" else ")" : String) : Str).length ≤ 2 := by split <;> decide +kernel
  omega
theorem len_kv {m : Nat} : ∀ {kvs : List (PyData × PyData)}, (∀ p ∈ kvs, p.1.shown.length + p.2.shown.length ≤ m) → (∀ t ∈ PyData.shownKv kvs, t.length ≤ m + 2) ∧ (PyData.shownKv kvs).length = kvs.length
  | [], _ => by
    rw [PyData.shownKv_nil]
    exact ⟨fun t h => (nomatch h), rfl⟩
  | (k, v) :: r, h => by
    obtain ⟨a, b⟩ := len_kv (kvs := r) fun p hp => h p (List.mem_cons_of_mem _ hp)
    rw [PyData.shownKv_cons]
    refine ⟨fun t ht => ?_, by simp [b]⟩
    rcases List.mem_cons.mp ht with rfl | ht
    · have := h (k, v) List.mem_cons_self
      rw [strLen_append]
      rw [strLen_append]
      have e : (": " : Str).length = 2 := by decide +kernel
      dsimp only at this
      omega
    · exact a t ht
theorem len_dict {m : Nat} {kvs : List (PyData × PyData)} (h : ∀ p ∈ kvs, p.1.shown.length + p.2.shown.length ≤ m) : (PyData.dict kvs).shown.length ≤ (m + 4) * kvs.length + 2 := by
  rw [PyData.shown_dict, strLen_append, strLen_append]
  obtain ⟨a, b⟩ := len_kv h
  have h1 := len_join a
  rw [b, show m + 2 + 2 = m + 4 from rfl] at h1
  have e : ("{" : Str).length = 1 := by decide +kernel
  have e2 : ("}" : Str).length = 1 := by decide +kernel
  omega
theorem len_int {i : Int} (h : SmI i) : (PyData.int i).shown.length ≤ 13 := of_decide_eq_true h.short
end K

set_option maxRecDepth 100000
set_option maxHeartbeats 3900000
namespace K
open PySem PySem.Spec PyProof.Rows L2
/-! ### a dict comprehension put under a name; a text taken out of a list -/
section
variable {X : Cx}
theorem sw_dict {kx vx : Expr} {gs : List Comprehension} {scope : Scope} {pos py : Pos} {y : Str} {l : Nat} {env : Env} (hk : env.scope.kind = .function) (hy : env.scope.names.lookup y = some .local) (hl : (py.line == pos.line) = true)
    (ha : (scope.names.any fun (n, k) => n == y && (k == .local || k == .cell)) = false) : swapsWith (.DictComp kx vx gs scope pos) (some (.Name y py)) l env = pure true := by
  have k1 : env.kindOf y = some .local := hy
  have k2 : env.blockKind = .function := by
    unfold Env.blockKind
    rw [hk]
    rfl
  unfold swapsWith
  simp only [k2, k1, ha, Expr.pos, hl] <;> rfl
theorem ps_setDc {i : Nat} {y : Str} {py : Pos} {kx vx tg iter : Expr} {ifs : List Expr} {scope : Scope} {own : List (Str × Nat)} {pos spos : Pos} {wi : TI} {g : TG} {tt : TT} {tk tv : TE} (hc : X.calm = true) (hN : X.N.Nodup) (hy : X.N[i]? = some y) (hyl : X.env.scope.names.lookup y = some .local)
    (hsw : swapsWith (.DictComp kx vx [⟨tg, iter, ifs, 0⟩] scope pos) (some (.Name y py)) spos.line X.env = pure true) (hi : PI X tg iter wi) (ok : BlkOk X.N X.env.scope scope own)
    (hg : ∀ (s : Shared) (H : Hp) (C : Addr) (cl : List (Str × Addr)) (fp : List Addr), PG (X.blk s H scope (compEnvC scope cl C X.env) fp) tg g)
    (ht : ∀ (s : Shared) (H : Hp) (C : Addr) (cl : List (Str × Addr)) (fp : List Addr), PTs (X.blk s H scope (compEnvC scope cl C X.env) fp) ifs tt)
    (hk : ∀ (s : Shared) (H : Hp) (C : Addr) (cl : List (Str × Addr)) (fp : List Addr), PE (X.blk s H scope (compEnvC scope cl C X.env) fp) kx
        tk)
    (he : ∀ (s : Shared) (H : Hp) (C : Addr) (cl : List (Str × Addr)) (fp : List Addr), PE (X.blk s H scope (compEnvC scope cl C X.env) fp) vx tv)
    (hs : ∀ x, foldedSetIterable iter X.env x = pure x := by intro _; rfl) :
    PS X (.Assign [.Name y py] (.DictComp kx vx [⟨tg, iter, ifs, 0⟩] scope pos) spos) (tAsg (tDc wi g tt tk tv (own.map (·.2))) (gName i)) := by
  refine ⟨fun pins s σ H D I h => ?_⟩
  rw [exec_Assign_Name_used _ _ _ _ hsw] <;> skip
  refine wpAny_bind (wpAny_standAt (wpAny_bind
      ?_))
  show wpAny _ X.A (do let _ ← comprehension (.DictComp kx vx [⟨tg, iter, ifs, 0⟩] scope pos) scope X.env (firstIterPos [⟨tg, iter, ifs, 0⟩] pos) newDict false (eval iter X.env) (some (assign (.Name y py) X.env))) _ _ s
  have h : tDc wi g tt tk tv (own.map (·.2)) σ H (fun x H1 => gName i x σ H1 D.nx) := h
  refine wpAny_bind (thn (dc_core (Qf := fun _ s2 => SP X pins D .next s2) hc hN I hi ok hg ht hk he hs h fun L C s' m H' I' q hn f => ?_) fun _ s2 hq => wpAny_pure (wpAny_pure hq))
  show wpAny _ _ (assign (.Name y py) X.env (.ref L)) _ _
      _
  refine wpAny_assign_Name (store_ok2 (v := V.ref L) I' hN hy (.inl hyl) rfl (fun s2 I2 ⟨a, sb, ha⟩ => ?_) (.inr
      hyl))
  rcases f with ⟨f0, f1, f2, f3, f4, f5⟩
  have away : C ≠ a := by
    rcases ha with z | z
    · exact z ▸ f1
    · exact fun e => (f4 y a z e.symm).elim
  exact ⟨m, hn.sameBut sb away, fun h3 sb3 => ⟨_, H', I2.turned (t' := s2.toks) (fun b o hb e => (sb3.2 b hb).trans e) f0 f1 f3 f4 f5, q⟩⟩
def eqs (x : Str) (v : Value) : Bool := match v with
  | .str y _ => y == x
  | _ => false
theorem eqs_gives {x : Str} {t : Tok} : ∀ {us : List Value} {xs : List Str}, Vals (xs.map V.str) us → ∀ y ∈ us, MeetsSeq.EqGives y (.str x t) (eqs x y)
  | _, [], .nil => fun y hy => nomatch hy
  | _, z :: r, .cons ⟨u, e⟩ h => fun y hy => by
    rcases List.mem_cons.mp hy with k | k
    · subst k
      subst e
      show MeetsSeq.EqGives (.str z u) (.str x t) (z == x)
      rw [← SeqAt.str_beq]
      exact SeqRoads2.EqGives.str z x u t
    · exact eqs_gives h y k
theorem erase_mapS : ∀ (l : List Str) (j : Nat), (l.map V.str).eraseIdx j = (l.eraseIdx j).map V.str
  | [], _ => rfl
  | _ :: _, 0 => rfl
  | a :: r, j + 1 => congrArg (V.str a :: ·) (erase_mapS r j)
theorem strs_get : ∀ {xs : List Str} {us : List Value} {j : Nat} {x : Str}, Vals (xs.map V.str) us → xs[j]? = some x → ∃ t, us[j]? = some (.str x t)
  | z :: r, _, 0, x, .cons ⟨u, e⟩ h, k => by
    obtain rfl := Option.some.inj k
    exact ⟨u, congrArg some e⟩
  | z :: r, _, j + 1, x, .cons _ h, k => strs_get (xs := r) (j := j) h k
def rRemS : V → List V → Hp → VK → Prop := fun x xs H Q => ∃ (l : Addr) (ns : List Str) (k : Str) (j : Nat), x = .ref l ∧ xs = [.str k] ∧ H l = some (.lst (ns.map V.str)) ∧ ns[j]? = some k ∧ (∀ m : Nat, m < j → ns[m]? ≠ some k) ∧ Q .non (upd H l (.lst ((ns.eraseIdx j).map V.str)))
theorem mt_removeS : MtM X "list.remove" rRemS := by
  intro pins s σ H x xs v us Q I rx
  intro rxs h
  rcases h with ⟨l, ns, k, j, rfl, rfl, hH, hj, hno, q⟩
  cases rx
  rcases rxs.one with ⟨u, rfl, ru⟩
  obtain ⟨t, rfl⟩ := ru
  rcases I.lstM hH with ⟨z, its, n, r, hl, e⟩
  have rl := r.length
  rw [List.length_map] at hl z rl
  have jn : j < ns.length := (List.getElem?_eq_some_iff.mp hj).1
  have jl : j < its.toArray.size := by
    rw [List.size_toArray]
    omega
  have at' : ∀ (m : Nat) (x : Str) (hm : m < its.toArray.size), ns[m]? = some x → ∃ tm, its.toArray[m] = .str x tm := fun m x hm e1 => by
    obtain ⟨tm, ht⟩ := strs_get r e1
    obtain ⟨h1, h2⟩ := List.getElem?_eq_some_iff.mp ht
    exact ⟨tm, by simpa using h2⟩
  refine call_meets PySem.F.slot_list_remove ⟨_, e, rfl⟩ PySem.F.entry_list_remove (PySem.F.args_list_remove_2 _
      _)
    (MeetsSeq.list_remove l its.toArray n (.str k t) (eqs k) (fun y hy => eqs_gives r y (by simpa using hy)) j jl ?_ ?_ (by rw [List.size_toArray]; omega)) ⟨e, ?_⟩
  · obtain ⟨tj, e1⟩ := at' j k jl hj
    rw [e1]
    exact beq_self_eq_true k
  · intro m hm hmj
    have mn : m < ns.length := by omega
    obtain ⟨tm, e1⟩ := at' m ns[m] hm (List.getElem?_eq_getElem mn)
    rw [e1]
    refine beq_eq_false_iff_ne.mpr fun e2 => hno m hmj
        ?_
    rw [List.getElem?_eq_getElem mn, e2]
  · have rr := r.eraseIdx j
    rw [erase_mapS] at rr
    refine ⟨.non, _, I.lset (its' := its.eraseIdx j) (t' := s.toks) hH e ?_ rr ?_, rfl,
        q⟩
    · show its.toArray.eraseIdxIfInBounds j = (its.eraseIdx
          j).toArray
      rw [List.eraseIdxIfInBounds_toArray] <;> skip
    · have := len_erase ns j
      rw [List.length_map]
      omega
end
/-! ### states: dicts of names -/
def sK (f : Str → V) (ys : List Str) : List (Key × V) := ys.map fun y => (Sum.inr y, f y)
theorem sK_val {f : Str → V} : ∀ {ys : List Str} {y : Str}, y ∈ ys → valV (sK f ys) (Sum.inr y) = some (f y)
  | z :: r, y, h => by
    unfold valV sK
    rw [List.map_cons, List.find?_cons]
    by_cases e : z = y
    · subst e
      simp
    · have : decide ((Sum.inr z : Key) = Sum.inr y) = false := decide_eq_false fun k => e (Sum.inr.inj k)
      simp only [this]
      have ih := sK_val (f := f) (ys := r) ((List.mem_cons.mp h).resolve_left fun k => e k.symm)
      unfold valV sK at ih
      exact ih
def fput (f : Str → V) (y : Str) (v : V) : Str → V := fun z => if z = y then v else f z
theorem sK_put {f : Str → V} {ys : List Str} {y : Str} {v : V} (h : y ∈ ys) : putK (sK f ys) (Sum.inr y) v = sK (fput f y v) ys := by
  unfold putK sK
  rw [if_pos]
  · rw [List.map_map]
    refine List.map_congr_left fun z _ => ?_
    show (if (Sum.inr z : Key) = Sum.inr y then ((Sum.inr z : Key), v) else (Sum.inr z, f z)) = _
    unfold fput
    by_cases e : z = y
    · rw [if_pos (by rw [e]), if_pos e]
    · rw [if_neg (fun k : (Sum.inr z : Key) = Sum.inr y => e (Sum.inr.inj k)), if_neg e]
  · rw [List.any_map, List.any_eq_true]
    exact ⟨y, h, decide_eq_true rfl⟩
theorem sK_new {f : Str → V} {ys : List Str} {y : Str} {v : V} (h : y ∉ ys) : putK (sK f ys) (Sum.inr y) v = sK (fput f y v) (ys ++ [y]) := by
  unfold putK sK
  rw [if_neg]
  · rw [List.map_append]
    congr 1
    · refine List.map_congr_left fun z hz => ?_
      unfold fput
      rw [if_neg fun e : z = y => h (by rw [← e]; exact hz)]
    · show [((Sum.inr y : Key), v)] = [(Sum.inr y, fput f y v y)]
      unfold fput
      rw [if_pos rfl]
  · rw [List.any_map, List.any_eq_true]
    rintro ⟨z, hz, e⟩
    have e2 : (Sum.inr z : Key) = Sum.inr y := of_decide_eq_true e
    rw [Sum.inr.inj e2] at hz
    exact h hz
/-- what a name is worth: a number or a row of numbers -/
inductive Cel (K : PySem.W.Frag) (H : Hp) : V → PyData → Prop
  | num (i : Int) (h : SmI i) : Cel K H (.int i) (.int i)
  | row {a : Addr} {ns : List Int} (h : SqT K H a (ns.map V.int)) (l : ns.length ≤ 100) (k : ∀ i ∈ ns, SmI i) : Cel K H (.ref a) (.tuple (ns.map .int))
/-- a state of these names: what each is worth -/
def StW (K : PySem.W.Frag) (H : Hp) (a : Addr) (ys : List Str) (f : Str → V) (g : Str → PyData) : Prop := H a = some (.dK (sK f ys)) ∧ ∀ y ∈ ys, Cel K H (f y) (g y)
def stW (ys : List Str) (g : Str → PyData) : PyData := .dict (ys.map fun y => (.str y, g y))
theorem Cel.dp {K : PySem.W.Frag} {H : Hp} {v : V} {d : PyData} (h : Cel K H v d) : Dp K H v d ∧ PySem.SeqAt.shaped d = true := by
  cases h with
  | num i _ => exact ⟨.int i, rfl⟩
  | @row a ns h l _ =>
    obtain ⟨c1, c2⟩ := ints_lay ns
    exact ⟨.tup h (ints_dp ns), shaped_of c1 (show PyData.depthAll (ns.map PyData.int) + 1 ≤ 64 by omega)⟩
theorem Cel.sq {K : PySem.W.Frag} {H H' : Hp} {v : V} {d : PyData} (h : Cel K H v d) (k : ∀ a xs, SqT K H a xs → SqT K H' a xs) : Cel K H' v d := by
  cases h with
  | num i h => exact .num i h
  | row h l m => exact .row (k _ _ h) l m
/-- alike, told and due -/
theorem StW.eq {K : PySem.W.Frag} {H : Hp} {a b : Addr} {ys : List Str} {f1 f2 : Str → V} {g : Str → PyData} (h1 : StW K H a ys f1 g) (h2 : StW K H b ys f2 g) (n : Nat) : EqR K H (EqW K H (n + 1)) (.ref a) (.ref b) := by
  refine .inr ⟨a, b, _, _, rfl, rfl, h1.1, h2.1, ?_, fun p hp => ?_⟩
  · unfold sK
    rw [List.length_map, List.length_map]
  · unfold sK at hp
    obtain ⟨y, hy, rfl⟩ := List.mem_map.mp hp
    obtain ⟨d1, sh⟩ := (h1.2 y hy).dp
    exact ⟨f2 y, sK_val hy, .inl ⟨g y, d1, ((h2.2 y hy).dp).1, sh⟩⟩
end K

set_option maxRecDepth 100000
set_option maxHeartbeats 3900000
namespace K
open PySem PySem.Spec PyProof.Rows L2
/-! ### repr of states -/
section
variable {X : Cx} {pins : List (Addr × Obj)} {σ : L2.St} {H : Hp} {s :
    Shared}
theorem reads_ints {h : Heap} : ∀ {ns : List Int} {us : List Value}, Vals (ns.map V.int) us → ReadsAll h us (ns.map PyData.int) []
  | [], _, .nil => .nil
  | n :: r, _, .cons ⟨t, e⟩ hr => by
    subst e
    exact (ReadsAll.cons (.int n t) (reads_ints (ns := r) hr) : ReadsAll h _ _ ([] ++ []))
theorem Cel.reads (I : Inv X pins σ H s) {v : V} {d : PyData} {u : Value} (h : Cel X.K H v d) (r : RelV v u) : Reads s.heap u d [] := by
  cases h with
  | num i _ =>
    obtain ⟨t, rfl⟩ := r
    exact .int i t
  | @row a ns h _ _ =>
    cases (show u = Value.ref a from r)
    obtain ⟨its, rv, ⟨o, ho, hc, n, hd⟩, _⟩ := I.tuple h
    exact Reads.tuple ho hc hd (by simpa using reads_ints rv)
/-- the entries of a state -/
theorem state_entries (I : Inv X pins σ H s) {f : Str → V} {g : Str → PyData} : ∀ {ys : List Str} {va : List (Key × Value)} {es : List DictEntry}, (∀ y ∈ ys, Cel X.K H (f y) (g y)) → KV (sK f ys) va → Pairs (mixKind X.prog X.w) es va →
    ReadsAll s.heap (es.map (·.key)) (ys.map PyData.str) [] ∧ ReadsAll s.heap (es.map (·.val)) (ys.map g) []
  | [], _, _, _, .nil, .nil => ⟨.nil, .nil⟩
  | y :: r, _, _, hc, .cons (b := b) ⟨h1, h2⟩ hr, .cons (e := e) k1 k2 kr => by
    obtain ⟨a1, a2⟩ := state_entries I (ys := r) (fun z hz => hc z (List.mem_cons_of_mem _ hz)) hr kr
    have h1 : (Sum.inr y : Key) = b.1 := h1
    rw [← h1] at k1
    obtain ⟨t, et⟩ : ∃ t, e.key = .str y t := by
      rcases keyIs_shape (show keyIs (Sum.inr y) e.key = true from k1) with ⟨i, t, z, _⟩ | ⟨x, t, z, e⟩
      · cases z
      · obtain rfl := Sum.inr.inj z
        exact ⟨t, e⟩
    refine ⟨?_, ?_⟩
    · show ReadsAll s.heap (e.key :: _) (.str y :: _) []
      rw [et]
      exact (ReadsAll.cons (.str y t) a1 : ReadsAll s.heap _ _ ([] ++ []))
    · show ReadsAll s.heap (e.val :: _) (g y :: _) []
      rw [k2]
      exact (ReadsAll.cons ((hc y List.mem_cons_self).reads I h2) a2 : ReadsAll s.heap _ _ ([] ++ []))
theorem StW.reads (I : Inv X pins σ H s) {a : Addr} {ys : List Str} {f : Str → V} {g : Str → PyData} (h : StW X.K H a ys f g) : Reads s.heap (.ref a) (stW ys g) [a] ∧ a ≠ sysModules := by
  obtain ⟨_, ya, va, ra, o, es, ep, ho, hx, hd, _, hp, _⟩ := (show ObjOk X.prog X.w H s.heap a (.dK (sK f ys)) from I.hok a _ h.1)
  obtain ⟨r1, r2⟩ := state_entries I h.2 ra hp
  refine ⟨?_, fun e => by rw [e] at ya; exact absurd ya (by decide)⟩
  have := Reads.dict (kvs := ys.map fun y => (.str y, g y)) ho hx.1 hd (by rw [List.map_map]; exact r1) (by rw [List.map_map]; exact r2)
  exact this
end
/-- how a state is shown -/
structure Fine (d : PyData) : Prop where
  sh : d.showable = true
  dp : d.depth ≤ 29
  ln : d.shown.length ≤ 4000000
  cf : Cf d.shown
theorem Cel.fine {K : PySem.W.Frag} {H : Hp} {v : V} {d : PyData} (h : Cel K H v d) : d.showable = true ∧ d.depth ≤ 1 ∧ d.shown.length ≤ 1503 ∧ Cf d.shown := by
  cases h with
  | num i h => exact ⟨h.sho, Nat.zero_le _, Nat.le_trans (len_int h) (by decide), cf_int i⟩
  | @row a ns h l k =>
    have all : ∀ ns : List Int, (∀ i ∈ ns, SmI i) → PyData.showableAll (ns.map .int) = true := fun ns => by
      induction ns with
      | nil => exact fun _ => rfl
      | cons n r ih =>
        intro k
        show (PyData.showable (.int n) && PyData.showableAll (r.map .int)) = true
        rw [(k n List.mem_cons_self).sho, ih fun i hi => k i (List.mem_cons_of_mem _ hi)]
        rfl
    refine ⟨all ns k, ?_, ?_, cf_tup fun x hx => ?_⟩
    · show PyData.depthAll (ns.map .int) + 1 ≤ 1
      rw [(ints_lay ns).2]
      exact Nat.le_refl _
    · have := len_tup (m := 13) (xs := ns.map .int) fun x hx => by
        obtain ⟨i, hi, rfl⟩ := List.mem_map.mp hx
        exact len_int (k i hi)
      rw [List.length_map] at this
      have e : (13 + 2) * ns.length ≤ 15 * 100 := Nat.mul_le_mul_left 15 l
      omega
    · obtain ⟨i, hi, rfl⟩ := List.mem_map.mp hx
      exact cf_int i
theorem StW.fine {K : PySem.W.Frag} {H : Hp} {a : Addr} {ys : List Str} {f : Str → V} {g : Str → PyData} (h : StW K H a ys f g) (lo : ∀ y ∈ ys, Low y) (few : ys.length ≤ 1000) : (stW ys g).showable = true ∧ (stW ys g).depth ≤ 2 ∧ (stW ys g).shown.length ≤ 1600000 ∧ Cf (stW ys g).shown := by
  have hc := h.2
  refine ⟨?_, ?_, ?_, ?_⟩
  · show PyData.showableKv (ys.map fun y => (.str y, g y)) = true
    clear few lo h
    induction ys with
    | nil => rfl
    | cons y r ih =>
      show (PyData.showable (.str y) && PyData.showable (g y) && PyData.showableKv (r.map fun y => (.str y, g y))) = true
      rw [(hc y List.mem_cons_self).fine.1, ih fun z hz => hc z (List.mem_cons_of_mem _ hz)]
      rfl
  · show PyData.depthKv (ys.map fun y => (.str y, g y)) + 1 ≤ 2
    have : PyData.depthKv (ys.map fun y => (.str y, g y)) ≤ 1 := by
      clear few lo h
      induction ys with
      | nil => exact Nat.zero_le _
      | cons y r ih =>
        show max (max 0 (PyData.depth (g y))) (PyData.depthKv (r.map fun y => (.str y, g y))) ≤ 1
        have h1 := (hc y List.mem_cons_self).fine.2.1
        have h2 := ih fun z hz => hc z (List.mem_cons_of_mem _ hz)
        omega
    omega
  · have := len_dict (m := 1515) (kvs := ys.map fun y => (.str y, g y)) fun p hp => by
      obtain ⟨y, hy, rfl⟩ := List.mem_map.mp hp
      have h1 := len_str (lo y hy)
      have h2 := (hc y hy).fine.2.2.1
      dsimp only
      omega
    rw [List.length_map] at this
    have e : (1515 + 4) * ys.length ≤ 1519 * 1000 := Nat.mul_le_mul_left 1519 few
    show (PyData.dict (ys.map fun y => (.str y, g y))).shown.length ≤ _
    omega
  · exact cf_dict fun p hp => by
      obtain ⟨y, hy, rfl⟩ := List.mem_map.mp hp
      exact ⟨cf_str (lo y hy), (hc y hy).fine.2.2.2⟩
/-- a state, or where it goes on and how -/
def RdW (K : PySem.W.Frag) (H : Hp) (v : V) (d : PyData) : Prop :=
  (∃ a ys f g, v = .ref a ∧ StW K H a ys f g ∧ d = stW ys g) ∨ ∃ t a x i ys f g, v = .ref t ∧ SqT K H t [.str x, .int i, .ref a] ∧ StW K H a ys f g ∧ d = .tuple [.str x, .int i, stW ys g]
section
variable {X : Cx}
def rRepW (K : PySem.W.Frag) : List V → Hp → VK → Prop := fun xs H Q => ∃ (p : Addr) (d : PyData), xs = [.ref p] ∧ RdW K H (.ref p) d ∧ d.showable = true ∧ d.depth ≤ 30 ∧ d.shown.length ≤ sizeLine ∧ Q (.str d.shown) H
theorem call_repW (hg : X.A.guards = some []) (hu : X.A.units + 64 < cLine) : CallR X (.builtin "repr") (rRepW X.K) := by
  rintro pins s σ H xs us Q I r ⟨p, d, rfl, hd, hs, hdep, hz, q⟩
  rcases vals1 r with ⟨u, rfl, rx⟩
  cases (show u = Value.ref p from rx)
  obtain ⟨as, ra, no⟩ : ∃ as, Reads s.heap (.ref p) d as ∧ sysModules ∉ as := by
    rcases hd with ⟨a, ys, f, g, e, h, rfl⟩ | ⟨t, a, x, i, ys, f, g, e, ht, h, rfl⟩
    · cases e
      obtain ⟨r1, r2⟩ := h.reads I
      exact ⟨_, r1, by rw [List.mem_singleton]; exact fun z => r2 z.symm⟩
    · cases e
      obtain ⟨r1, r2⟩ := h.reads I
      obtain ⟨its, rv, ⟨o, ho, hc, n, hdd⟩, _⟩ := I.tuple ht
      match its, rv with
      | [_, _, _], .cons ⟨tx, e1⟩ (.cons ⟨ti, e2⟩ (.cons e3 .nil)) =>
        have e3 : _ = Value.ref a := e3
        subst e1 e2 e3
        have := Reads.tuple (xs := [.str x, .int i, stW ys g]) ho hc hdd (ReadsAll.cons (.str x tx) (ReadsAll.cons (.int i ti) (ReadsAll.cons r1 .nil)))
        exact ⟨_, this, by simpa using fun z : sysModules = a => r2 z.symm⟩
  exact repr_of_reads' ra hs (fun _ => no) hg (by omega) (fun _ _ e => e) (fun h' u tk hk' => ⟨.str _, H, I.kept (t' := tk) hk', ⟨_, rfl⟩, q⟩) hz
end
end K

set_option maxRecDepth 100000
set_option maxHeartbeats 3900000
namespace K
open PySem PySem.Spec PyProof.Rows L2
/-! ### calls of own defs that run where no repr is under way -/
structure CalG (P : Program) (w : World) (K : PySem.W.Frag) (mg : Str → Option Value) (base : Heap) (k : Nat) (x : Str) (sp : Sp) : Prop where
  ex : ∃ (f : Addr) (fd : FuncData) (ps : List Str), FnG P w K mg base CX0 k f fd ps sp ∧ mg x = some (.ref f) ∧ PySem.W.keepIn K (.ref f) = true ∧ Binds K fd ps []
section
variable {X : Cx} {k j : Nat} {x : Str} {sp : Sp} {p pos : Pos} {e : Expr} {es : List Expr} {t : TA} {f : Addr} {fd : FuncData} {ps : List Str}
theorem run_fnG {pins : List (Addr × Obj)} {σ : L2.St} {H : Hp} {s : Shared} {Q : VK} {us : List Value} {vs : List V} (F : FnG X.prog X.w X.K X.mg X.base CX0 k f fd ps sp) (hq : X.A.guards = some []) (hr : Room k X.A) (hb : Binds X.K fd ps [])
    (I : Inv X pins σ H s) (r : Vals vs us) (h : sp vs H Q E0) : wpAny (model X.prog X.w) X.A (call (.ref f) us) (EP X pins σ Q) X.xe s := by
  have h' : sp (vs ++ []) H Q E0 := by rwa [List.append_nil]
  have hl : (us ++ []).length = ps.length := by rw [← (r.append (.nil : Vals [] [])).length]; exact F.len _ _ _ _ h'
  refine wpAny_call (codeAny_mono (F.run X.A X.stack s H ⟨us, []⟩ (us ++ []) (vs ++ []) Q E0 hq hr I.env0 (hb s us I.kIn hl) (r.append .nil) h') fun r s' hq => ?_)
  cases r with
  | error e => exact (pass0 (X := X)) pins σ H s e s' I hq
  | ok fl =>
    cases fl with
    | ret u => exact I.after hq
    | next => exact False.elim hq
    | brk => exact False.elim hq
    | cont => exact False.elim hq
theorem pe_cG (c : CalG X.prog X.w X.K X.mg X.base k x sp) (hq : X.A.guards = some []) (hr : Room j X.A) (hk : k ≤ j) (hg : Gl X x) (ha : PA X (e :: es) t)
    (hdb : (x == ("__debug__" : Str)) = false := by decide) (he : starEach (e :: es) X.env = (false, eval e X.env) :: starEach es X.env := by rfl) (hpl : (backTo pos (starEach es X.env)).any (·.1) = false := by rfl)
        :
    PE X (.Call (.Name x p) (e :: es) [] pos) (tCall sp [] E0 t) := by
  obtain ⟨f, fd, ps, F, hm, kp, b⟩ := c.ex
  refine ⟨fun pins s σ H Q I h => ?_⟩
  refine wpAny_Call_Name_kw (ld_glob I hg hm ?_
      hdb)
  refine PySem.W.callWith_K (h₀ := X.base) I.ok.mod.kin kp (thn (ha.run pos pins s σ H _ I h) fun us s1 ⟨vs, H1, I1, r, q⟩ => ⟨I1.kIn, ?_⟩) he hpl
  exact run_fnG F hq (hr.mono hk) b I1 r (by simpa using q)
end
end K

set_option maxRecDepth 100000
set_option maxHeartbeats 3900000
namespace K
open PySem PySem.Spec PyProof.Rows L2
def topS (i : Nat) : Stmt := PySem.Challenge.pw_withinall_k10_beginnings_and_behind_call.main.body.getD i (.Pass ⟨0, 0, 0, 0⟩)
abbrev sTape : Stmt := topS 13
abbrev sDraw : Stmt := topS 14
abbrev sPick : Stmt := topS 15
/-! ### the tape -/
/-- at t the tape of the draws: [own, cell, count], at most n counted -/
def Tp (H : Hp) (t : Addr) (n : Nat) : Prop := ∃ a b c : Int, H t = some (.lst [.int a, .int b, .int c]) ∧ 0 ≤ c ∧ c ≤ (n : Int)
/-- all but t as it was -/
def But (t : Addr) (H H' : Hp) : Prop := ∀ x o, H x = some o → x ≠ t → H' x = some o
theorem But.refl {t : Addr} {H : Hp} : But t H H := fun _ _ h _ => h
theorem But.trans {t : Addr} {H H1 H2 : Hp} (a : But t H H1) (b : But t H1 H2) : But t H H2 := fun x o h n => b x o (a x o h n) n
theorem But.new {t p : Addr} {H : Hp} {o : HO} (h : H p = none) : But t H (upd H p o) := fun x u e _ => by
  rw [upd_ne (ne_of_none e h)]
  exact e
theorem But.set {t : Addr} {H : Hp} {o : HO} : But t H (upd H t o) := fun x u e n => by
  rw [upd_ne n]
  exact e
theorem But.seq {K : PySem.W.Frag} {t a : Addr} {H H' : Hp} {xs : List V} (b : But t H H') (h : SqL K H a xs) (n : a ≠ t) : SqL K H' a xs := by
  rcases h with (⟨h⟩ | ⟨o, h⟩) | ⟨h⟩
  · exact .inl (.inl (b _ _ h n))
  · exact .inl (.inr ⟨o, b _ _ h n⟩)
  · exact .inr h
theorem same_new {H : Hp} {p : Addr} {o : HO} (h : H p = none) : Same H (upd H p o) := fun b x e => by
  rw [upd_ne (ne_of_none e h)]
  exact e
def primes : List Int := [2147483489, 2147483477, 2147483423, 2147483399, 2147483353, 2147483323, 2147483269, 2147483249]
theorem prime_at {i : Int} (h0 : 0 ≤ i) (h1 : i < 8) : ∃ q : Int, atI (primes.map V.int) i = some (.int q) ∧ 0 < q ∧ q < 2147483648 := by
  have : i = 0 ∨ i = 1 ∨ i = 2 ∨ i = 3 ∨ i = 4 ∨ i = 5 ∨ i = 6 ∨ i = 7 := by omega
  rcases this with rfl | rfl | rfl | rfl | rfl | rfl | rfl | rfl
  · exact ⟨2147483489, atI_nat (j := 0) rfl, by decide, by decide⟩
  · exact ⟨2147483477, atI_nat (j := 1) rfl, by decide, by decide⟩
  · exact ⟨2147483423, atI_nat (j := 2) rfl, by decide, by decide⟩
  · exact ⟨2147483399, atI_nat (j := 3) rfl, by decide, by decide⟩
  · exact ⟨2147483353, atI_nat (j := 4) rfl, by decide, by decide⟩
  · exact ⟨2147483323, atI_nat (j := 5) rfl, by decide, by decide⟩
  · exact ⟨2147483269, atI_nat (j := 6) rfl, by decide, by decide⟩
  · exact ⟨2147483249, atI_nat (j := 7) rfl, by decide, by decide⟩
section
variable {P : Program} {w : World} {K : PySem.W.Frag} {mg : Str → Option Value} {base : Heap}
def spTape (K : PySem.W.Frag) : Sp := fun vs H Q _ => ∃ (a : Addr) (ns : List Int) (k : Nat), vs = [.ref a, .int (k : Int)] ∧ SqL K H a (ns.map V.int) ∧ ns.length ≤ 63 ∧ k < 1000 ∧
  ∀ (p : Addr) (H' : Hp), Same H H' → H p = none → Tp H' p 0 → Q (.ref p) H'
theorem scT : FnScope ["script", "k", "cell", "own"] ["script", "k"] (defScope sTape) := ⟨rfl, rfl, rfl, by decide +kernel, rfl, by decide +kernel, by decide +kernel⟩
theorem ok_tape {f : Addr} {fd : FuncData} (F : Fun K "_law_tape" "_law_tape" sTape f fd) (ml : mg "len" = none) : FnOk P w K mg base CX0 1 f fd ["script", "k"] (spTape K) := by
  refine F.ok scT (fun vs H Q E h => ?_) (fun cdv A outer s H vs Q E hr h => ?_)
  · obtain ⟨a, ns, k, rfl, _⟩ := h
    rfl
  · obtain ⟨a, ns, k, rfl, hS, hl, hk, q⟩ := h
    refine ⟨_, pss_cons (ps_set (i := 2) scT.nd rfl (.inl rfl) (pe_op op_add (pe_op op_mul pe_int (pv 1)) pe_int))
      (pss_cons (ps_if (pt_cmpR op_lt (pv 1) (pe_callB call_len_seq (by rfl) ml PySem.boot_len (pa_cons (pv 0) pa_nil)) (nomark _)) (pss_one (ps_set (i := 2) scT.nd rfl (.inl rfl) (pe_ix ix_list (pv 0) (pv 1) (fun _ _ => rfl)))) pss_nil)
      (pss_cons (ps_set (i := 3) scT.nd rfl (.inl rfl) pe_int)
      (pss_cons (ps_if (pt_cmpR op_ge (pv 2) (pe_op op_pow pe_int pe_int) (nomark _)) (pss_one (ps_set (i := 3) scT.nd rfl (.inl rfl) (pe_op op_sub (pv 2) (pe_op op_pow pe_int pe_int)))) pss_nil)
      (pss_one (ps_ret (pe_lst (pa_cons (pv 3) (pa_cons (pe_op op_add (pe_op op_modN (pv 2) pe_int) (pe_op op_mul pe_int (pv 1))) (pa_cons pe_int pa_nil))))))))), ?_⟩
    -- behind the first if: the cell is any number
    have tail : ∀ c : Int, ∀ D : Ends, D.rt = Q → (tSeq (tAsg (tC (.int 0)) (gName 3)) (tSeq (tIfS (tTest (tOp (rI0 fun i j => .bl (decide (j ≤ i))) (tVar 2) (tOp (rI CPow fun i j => .int (i ^ j.toNat)) (tC (.int 10)) (tC (.int 18)))))
        (tAsg (tOp (rI0 fun i j => .int (i - j)) (tVar 2) (tOp (rI CPow fun i j => .int (i ^ j.toNat)) (tC (.int 10)) (tC (.int 18)))) (gName 3)) tNext)
        (tRet (tLst (tCons (tVar 3) (tCons (tOp (rI0 fun i j => .int (i + j)) (tOp (rI (fun _ j => j ≠ 0) fun i j => .int (i.fmod j)) (tVar 2) (tC (.int 4611686018427387847))) (tOp (rI CMul fun i j => .int (i * j)) (tC (.int 59)) (tVar 1))) (tCons (tC (.int 0)) tNil))))))) D [some (.ref a), some (.int (k : Int)), some (.int c), none] H := by
      intro c D hD
      have fin : ∀ own : Int, (tRet (tLst (tCons (tVar 3) (tCons (tOp (rI0 fun i j => .int (i + j)) (tOp (rI (fun _ j => j ≠ 0) fun i j => .int (i.fmod j)) (tVar 2) (tC (.int 4611686018427387847))) (tOp (rI CMul fun i j => .int (i * j)) (tC (.int 59)) (tVar 1))) (tCons (tC (.int 0)) tNil))))) D [some (.ref a), some (.int (k : Int)), some (.int c), some (.int own)] H := by
        intro own
        refine ⟨_, rfl, _, rfl, _, _, rfl, rfl, (by show (4611686018427387847 : Int) ≠ 0; decide), _, rfl, _, _, rfl, rfl, .inl ⟨by decide, by decide⟩, _, _, rfl, rfl, (by show 3 ≤ sizeLine; decide), fun p hp => ?_⟩
        rw [hD]
        exact q p _ (same_new hp) hp ⟨_, _, _, upd_same, Int.le_refl _, Int.le_refl _⟩
      refine ⟨_, rfl, _, _, rfl, rfl, ⟨by decide, by decide, by decide⟩, _, _, rfl, rfl, _, rfl, ?_⟩
      refine ite2 (fun _ => ?_) (fun _ => ?_)
      · exact ⟨_, rfl, _, _, rfl, rfl, ⟨by decide, by decide, by decide⟩, _, _, rfl, rfl, fin _⟩
      · exact fin 0
    refine ⟨_, rfl, _, _, rfl, rfl, .inl ⟨by decide, by decide⟩, _, _, rfl, rfl, ?_⟩
    refine ⟨_, rfl, _, rfl, a, _, rfl, .inl hS, _, _, rfl, rfl, _, rfl, ?_⟩
    refine ite2 (fun hlt => ?_) (fun _ => ?_)
    · have hlt' : k < ns.length := by
        have := of_decide_eq_true hlt
        simp only [List.length_map] at this
        omega
      have g : (ns.map V.int)[k]? = some (.int ns[k]) := by
        rw [List.getElem?_map, List.getElem?_eq_getElem hlt']
        rfl
      refine ⟨_, rfl, _, rfl, a, _, _, _, rfl, rfl, hS, atI_nat g, ?_⟩
      exact tail _ _ rfl
    · exact tail _ _ rfl

/-! ### a draw -/
def spDraw : Sp := fun vs H Q _ => ∃ (t : Addr) (n : Nat) (m : Int), vs = [.ref t, .int m] ∧ Tp H t n ∧ n < 1000000 ∧ 0 < m ∧ m < 1073741824 ∧
  ∀ (r : Int) (H' : Hp), 0 ≤ r → r < m → Tp H' t (n + 1) → But t H H' → Q (.int r) H'
theorem scD : FnScope ["tape", "many", "digit", "primes", "prime", "first", "second"] ["tape", "many"] (defScope sDraw) := ⟨rfl, rfl, rfl, by decide +kernel, rfl, by decide +kernel, by decide +kernel⟩
theorem ok_draw {f : Addr} {fd : FuncData} (F : Fun K "_law_draw" "_law_draw" sDraw f fd) : FnOk P w K mg base CX0 1 f fd ["tape", "many"] spDraw := by
  refine F.ok scD (fun vs H Q E h => ?_) (fun cdv A outer s H vs Q E hr h => ?_)
  · obtain ⟨t, n, m, rfl, _⟩ := h
    rfl
  · obtain ⟨t, n, m, rfl, ⟨a, b, c, hT, c0, c1⟩, hn, m0, m1, q⟩ := h
    have px : ∀ _ _, _ = _ := fun (_ _ : Nat) => (rfl : (0:Nat) = 0)
    refine ⟨_, pss_cons (ps_if (pt_cmpR op_ge (pe_ix ix_list (pv 0) pe_int (fun _ _ => rfl)) (pv 1) (nomark _))
        (pss_cons (ps_set (i := 2) scD.nd rfl (.inl rfl) (pe_op op_mod (pe_ix ix_list (pv 0) pe_int (fun _ _ => rfl)) (pv 1)))
        (pss_cons (ps_asg (pe_op op_fdivN (pe_ix ix_list (pv 0) pe_int (fun _ _ => rfl)) (pv 1)) (pg_sub (pv 0) pe_int set_list))
        (pss_one (ps_ret (pv 2))))) pss_nil)
      (pss_cons (ps_asg (pe_op op_add (pe_ix ix_list (pv 0) pe_int (fun _ _ => rfl)) pe_int) (pg_sub (pv 0) pe_int set_list))
      (pss_cons (ps_set (i := 3) scD.nd rfl (.inl rfl) (pe_lst (pa_cons pe_int (pa_cons pe_int (pa_cons pe_int (pa_cons pe_int (pa_cons pe_int (pa_cons pe_int (pa_cons pe_int (pa_cons pe_int pa_nil)))))))))) 
      (pss_cons (ps_set (i := 4) scD.nd rfl (.inl rfl) (pe_ix ix_list (pv 3) (pe_op op_mod (pe_ix ix_list (pv 0) pe_int (fun _ _ => rfl)) pe_int) (fun _ _ => rfl)))
      (pss_cons (ps_set (i := 5) scD.nd rfl (.inl rfl) (pe_op op_add (pe_op op_mul (pe_op op_mod (pe_ix ix_list (pv 0) pe_int (fun _ _ => rfl)) (pv 4)) (pe_op op_add (pe_op op_mul pe_int (pe_ix ix_list (pv 0) pe_int (fun _ _ => rfl))) pe_int)) (pe_op op_mul pe_int (pe_ix ix_list (pv 0) pe_int (fun _ _ => rfl)))))
      (pss_cons (ps_set (i := 5) scD.nd rfl (.inl rfl) (pe_op op_mod (pe_op op_pow (pv 5) pe_int) (pv 4)))
      (pss_cons (ps_set (i := 6) scD.nd rfl (.inl rfl) (pe_op op_add (pe_op op_add (pe_op op_mul (pv 5) (pv 5)) (pe_op op_mod (pe_ix ix_list (pv 0) pe_int (fun _ _ => rfl)) pe_int)) (pe_ix ix_list (pv 0) pe_int (fun _ _ => rfl))))
      (pss_one (ps_ret (pe_op op_mod (pe_op op_fdivN (pe_op op_mod (pe_op op_pow (pv 6) pe_int) (pe_ix ix_list (pv 3) (pe_op op_mod (pe_op op_add (pe_ix ix_list (pv 0) pe_int (fun _ _ => rfl)) pe_int) pe_int) (fun _ _ => rfl))) pe_int) (pv 1)))))))))), ?_⟩
    have at0 : ∀ x y z : V, atI [x, y, z] (0 : Int) = some x := fun x y z => atI_nat (j := 0) rfl
    have at1 : ∀ x y z : V, atI [x, y, z] (1 : Int) = some y := fun x y z => atI_nat (j := 1) rfl
    have at2 : ∀ x y z : V, atI [x, y, z] (2 : Int) = some z := fun x y z => atI_nat (j := 2) rfl
    refine ⟨_, rfl, t, _, 0, _, rfl, rfl, SqL.of hT, at0 _ _ _, _, rfl, a, m, rfl, rfl, _, rfl, ?_⟩
    refine ite2 (fun _ => ?_) (fun _ => ?_)
    · refine ⟨_, rfl, t, _, 0, _, rfl, rfl, SqL.of hT, at0 _ _ _, _, rfl, a, m, rfl, rfl, m0, ?_⟩
      refine ⟨_, rfl, t, _, 0, _, rfl, rfl, SqL.of hT, at0 _ _ _, _, rfl, a, m, rfl, rfl, ⟨by omega, by omega⟩, ?_⟩
      refine ⟨_, rfl, t, _, 0, 0, rfl, rfl, hT, rfl, ?_⟩
      refine ⟨_, rfl, ?_⟩
      exact q _ _ (Int.emod_nonneg _ (by omega)) (Int.emod_lt_of_pos _ m0) ⟨_, _, _, upd_same, c0, by omega⟩ .set
    · -- tape[2] = tape[2] + 1
      refine ⟨_, rfl, t, _, 2, _, rfl, rfl, SqL.of hT, at2 _ _ _, _, _, rfl, rfl, ?_⟩
      refine ⟨_, rfl, t, _, 2, 2, rfl, rfl, hT, rfl, ?_⟩
      -- primes
      refine ⟨(by show 8 ≤ sizeLine; decide), fun p hp => ?_⟩
      have tp : t ≠ p := ne_of_none (show (upd H t (.lst [.int a, .int b, .int (c + 1)])) t = some (.lst [.int a, .int b, .int (c + 1)]) from upd_same) hp
      have hT2 : (upd (upd H t (.lst [.int a, .int b, .int (c + 1)])) p (.lst (primes.map V.int))) t = some (.lst [.int a, .int b, .int (c + 1)]) := by
        rw [upd_ne tp, upd_same]
      have hP : (upd (upd H t (.lst [.int a, .int b, .int (c + 1)])) p (.lst (primes.map V.int))) p = some (.lst (primes.map V.int)) := upd_same
      have hB : But t H (upd (upd H t (.lst [.int a, .int b, .int (c + 1)])) p (.lst (primes.map V.int))) := But.set.trans (.new hp)
      show (tSeq _ _) _ _ (upd (upd H t (.lst [.int a, .int b, .int (c + 1)])) p (.lst (primes.map V.int)))
      revert hT2 hP hB
      generalize (upd (upd H t (.lst [.int a, .int b, .int (c + 1)])) p (.lst (primes.map V.int))) = H2
      intro hT2 hP hB
      obtain ⟨q1, a1, p1, l1⟩ := prime_at (i := (c + 1) % 8) (Int.emod_nonneg _ (by decide)) (Int.emod_lt_of_pos _ (by decide))
      obtain ⟨q2, a2, p2, l2⟩ := prime_at (i := (c + 1 + 3) % 8) (Int.emod_nonneg _ (by decide)) (Int.emod_lt_of_pos _ (by decide))
      refine ⟨_, rfl, _, rfl, t, _, 2, _, rfl, rfl, SqL.of hT2, at2 _ _ _, _, _, rfl, rfl, (by show (0 : Int) < 8; decide), p, _, _, _, rfl, rfl, SqL.of hP, a1, ?_⟩
      have x0 : 0 ≤ b % q1 := Int.emod_nonneg _ (by omega)
      have x1 : b % q1 < q1 := Int.emod_lt_of_pos _ p1
      have e1 : 0 ≤ b % q1 * (2 * (c + 1) + 7) := Int.mul_nonneg x0 (by omega)
      have e2 : b % q1 * (2 * (c + 1) + 7) ≤ 2147483648 * 3000000 := Int.mul_le_mul (by omega) (by omega) (by omega) (by decide)
      -- first
      refine ⟨_, rfl, t, _, 1, _, rfl, rfl, SqL.of hT2, at1 _ _ _, _, rfl, _, _, rfl, rfl, p1, _, rfl, t, _, 2, _, rfl, rfl, SqL.of hT2, at2 _ _ _, _, _, rfl, rfl, .inl ⟨by decide, by decide⟩, _, _, rfl, rfl, _, _, rfl, rfl, .inl ⟨by omega, by omega⟩,
        _, rfl, t, _, 2, _, rfl, rfl, SqL.of hT2, at2 _ _ _, _, _, rfl, rfl, .inl ⟨by decide, by decide⟩, _, _, rfl, rfl, ?_⟩
      refine ⟨_, rfl, _, _, rfl, rfl, ⟨by decide, by decide, by omega⟩, _, rfl, _, _, rfl, rfl, p1, ?_⟩
      generalize (b % q1 * (2 * (c + 1) + 7) + 7001 * (c + 1)) ^ (3 : Int).toNat = y
      have y0 : 0 ≤ y % q1 := Int.emod_nonneg _ (by omega)
      have y1 : y % q1 < q1 := Int.emod_lt_of_pos _ p1
      have f1 : 0 ≤ y % q1 * (y % q1) := Int.mul_nonneg y0 y0
      have f2 : y % q1 * (y % q1) ≤ 2147483648 * 2147483648 := Int.mul_le_mul (by omega) (by omega) y0 (by decide)
      have z0 : 0 ≤ b % 1000033 := Int.emod_nonneg _ (by decide)
      have z1 : b % 1000033 < 1000033 := Int.emod_lt_of_pos _ (by decide)
      -- second
      refine ⟨_, rfl, _, rfl, _, _, rfl, rfl, .inl ⟨by omega, by omega⟩, _, rfl, t, _, 1, _, rfl, rfl, SqL.of hT2, at1 _ _ _, _, _, rfl, rfl, (by show (0 : Int) < 1000033; decide), _, _, rfl, rfl, _, rfl, t, _, 2, _, rfl, rfl, SqL.of hT2, at2 _ _ _, _, _, rfl, rfl, ?_⟩
      -- return
      refine ⟨_, rfl, _, _, rfl, rfl, ⟨by decide, by decide, by omega⟩, _, rfl, _, rfl, t, _, 2, _, rfl, rfl, SqL.of hT2, at2 _ _ _, _, _, rfl, rfl, _, _, rfl, rfl, (by show (0 : Int) < 8; decide), p, _, _, _, rfl, rfl, SqL.of hP, a2, _, _, rfl, rfl, p2, _, _, rfl, rfl, ⟨by decide, by decide⟩, _, rfl, _, _, rfl, rfl, m0, ?_⟩
      exact q _ _ (Int.emod_nonneg _ (by omega)) (Int.emod_lt_of_pos _ m0) ⟨_, _, _, hT2, by omega, by omega⟩ hB
end
end K

set_option maxRecDepth 100000
set_option maxHeartbeats 3900000
namespace K
open PySem PySem.Spec PyProof.Rows L2
/-- a def that may be called by its name -/
structure Df (K : PySem.W.Frag) (mg : Str → Option Value) (x : Str) (st : Stmt) (f : Addr) (fd : FuncData) (ps : List Str) : Prop where
  fn : Fun K x x st f fd
  mgf : mg x = some (.ref f)
  bd : Binds K fd ps []
/-- names that are read off the built-ins -/
structure Bs (mg : Str → Option Value) : Prop where
  len : mg "len" = none
  range : mg "range" = none
  list : mg "list" = none
  tuple : mg "tuple" = none
  int : mg "int" = none
  str : mg "str" = none
  isinstance : mg "isinstance" = none
  sorted : mg "sorted" = none
  set : mg "set" = none
  zip : mg "zip" = none
  enumerate : mg "enumerate" = none
  repr : mg "repr" = none
  min : mg "min" = none
  max : mg "max" = none
theorem same_but {t : Addr} {H0 H1 H2 : Hp} (s : Same H0 H1) (n : H0 t = none) (b : But t H1 H2) : Same H0 H2 := fun x o e => b x o (s x o e) (ne_of_none e n)
theorem But.of {H H' : Hp} {t : Addr} (s : Same H H') : But t H H' := fun x o h _ => s x o h
theorem Tp.same {H H' : Hp} {t : Addr} {n : Nat} (h : Tp H t n) (s : Same H H') : Tp H' t n := let ⟨a, b, c, e, x, y⟩ := h; ⟨a, b, c, s _ _ e, x, y⟩
theorem Tp.ne {H : Hp} {t p : Addr} {n : Nat} (h : Tp H t n) (hp : H p = none) : p ≠ t := fun z => by
  obtain ⟨a, b, c, e, _⟩ := h
  rw [z, e] at hp
  cases hp
theorem Tp.new {H : Hp} {t p : Addr} {n : Nat} {o : HO} (h : Tp H t n) (hp : H p = none) : Tp (upd H p o) t n := h.same (same_new hp)
theorem Tp.mono {H : Hp} {t : Addr} {n m : Nat} (h : Tp H t n) (l : n ≤ m) : Tp H t m := let ⟨a, b, c, e, x, y⟩ := h; ⟨a, b, c, e, x, by omega⟩

/-! ### things that never change: tuples of numbers, texts, truths, None, and of such -/
mutual
def Im (H : Hp) : PyData → V → Prop
  | .none, v => v = .non
  | .bool b, v => v = .bl b
  | .int i, v => v = .int i
  | .str x, v => v = .str x
  | .tuple ds, v => ∃ (a : Addr) (xs : List V), v = .ref a ∧ H a = some (.tup xs) ∧ ImAll H ds xs
  | .list _, _ => False
  | .dict _, _ => False
def ImAll (H : Hp) : List PyData → List V → Prop
  | [], vs => vs = []
  | d :: ds, vs => ∃ v r, vs = v :: r ∧ Im H d v ∧ ImAll H ds r
end
mutual
/-- they stand wherever tuples stay -/
theorem Im.keep {H H' : Hp} (k : ∀ a xs, H a = some (.tup xs) → H' a = some (.tup xs)) : ∀ (d : PyData) (v : V), Im H d v → Im H' d v
  | .none, v, h => by unfold Im at h ⊢; exact h
  | .bool b, v, h => by unfold Im at h ⊢; exact h
  | .int i, v, h => by unfold Im at h ⊢; exact h
  | .str x, v, h => by unfold Im at h ⊢; exact h
  | .tuple ds, v, h => by
    unfold Im at h ⊢
    obtain ⟨a, xs, e, h1, h2⟩ := h
    exact ⟨a, xs, e, k a xs h1, ImAll.keep k ds xs h2⟩
  | .list _, v, h => by unfold Im at h; exact h.elim
  | .dict _, v, h => by unfold Im at h; exact h.elim
theorem ImAll.keep {H H' : Hp} (k : ∀ a xs, H a = some (.tup xs) → H' a = some (.tup xs)) : ∀ (ds : List PyData) (vs : List V), ImAll H ds vs → ImAll H' ds vs
  | [], vs, h => by unfold ImAll at h ⊢; exact h
  | d :: ds, vs, h => by
    unfold ImAll at h ⊢
    obtain ⟨v, r, e, h1, h2⟩ := h
    exact ⟨v, r, e, Im.keep k d v h1, ImAll.keep k ds r h2⟩
end
theorem keep_same {H H' : Hp} (s : Same H H') : ∀ a xs, H a = some (HO.tup xs) → H' a = some (HO.tup xs) := fun a xs e => s a _ e
theorem keep_but {H H' : Hp} {t : Addr} {n : Nat} (b : But t H H') (hT : Tp H t n) : ∀ a xs, H a = some (HO.tup xs) → H' a = some (HO.tup xs) := fun a xs e => b a _ e (by
  obtain ⟨x, y, w, hT, _, _⟩ := hT
  exact ne_of e hT (fun z => by cases z))
theorem Im.same {H H' : Hp} {d : PyData} {v : V} (h : Im H d v) (s : Same H H') : Im H' d v := Im.keep (keep_same s) d v h
theorem Im.but {H H' : Hp} {t : Addr} {n : Nat} {d : PyData} {v : V} (h : Im H d v) (b : But t H H') (hT : Tp H t n) : Im H' d v := Im.keep (keep_but b hT) d v h
theorem ImAll.same {H H' : Hp} {d : List PyData} {v : List V} (h : ImAll H d v) (s : Same H H') : ImAll H' d v := ImAll.keep (keep_same s) d v h
theorem ImAll.but {H H' : Hp} {t : Addr} {n : Nat} {d : List PyData} {v : List V} (h : ImAll H d v) (b : But t H H') (hT : Tp H t n) : ImAll H' d v := ImAll.keep (keep_but b hT) d v h
mutual
theorem Im.dp {K : PySem.W.Frag} {H : Hp} : ∀ (d : PyData) (v : V), Im H d v → Dp K H v d
  | .none, v, h => by unfold Im at h; subst h; exact .non
  | .bool b, v, h => by unfold Im at h; subst h; exact .bl b
  | .int i, v, h => by unfold Im at h; subst h; exact .int i
  | .str x, v, h => by unfold Im at h; subst h; exact .str x
  | .tuple ds, v, h => by
    unfold Im at h
    obtain ⟨a, xs, e, h1, h2⟩ := h
    subst e
    exact .tup (SqT.of h1) (ImAll.dp ds xs h2)
  | .list _, v, h => by unfold Im at h; exact h.elim
  | .dict _, v, h => by unfold Im at h; exact h.elim
theorem ImAll.dp {K : PySem.W.Frag} {H : Hp} : ∀ (ds : List PyData) (vs : List V), ImAll H ds vs → DpAll K H vs ds
  | [], vs, h => by unfold ImAll at h; subst h; exact .nil
  | d :: ds, vs, h => by
    unfold ImAll at h
    obtain ⟨v, r, e, h1, h2⟩ := h
    subst e
    exact .cons (Im.dp d v h1) (ImAll.dp ds r h2)
end
theorem ImAll.nil {H : Hp} : ImAll H [] [] := by unfold ImAll; rfl
theorem ImAll.cons {H : Hp} {d : PyData} {ds : List PyData} {v : V} {vs : List V} (h : Im H d v) (t : ImAll H ds vs) : ImAll H (d :: ds) (v :: vs) := by
  unfold ImAll
  exact ⟨v, vs, rfl, h, t⟩
theorem Im.int {H : Hp} {i : Int} : Im H (.int i) (.int i) := by unfold Im; rfl
theorem Im.str {H : Hp} {x : Str} : Im H (.str x) (.str x) := by unfold Im; rfl
theorem Im.tup {H : Hp} {a : Addr} {xs : List V} {ds : List PyData} (e : H a = some (.tup xs)) (h : ImAll H ds xs) : Im H (.tuple ds) (.ref a) := by
  unfold Im
  exact ⟨a, xs, rfl, e, h⟩
theorem ImAll.strs {H : Hp} : ∀ xs : List Str, ImAll H (xs.map PyData.str) (xs.map V.str)
  | [] => .nil
  | x :: r => .cons .str (ImAll.strs r)
theorem ImAll.app {H : Hp} : ∀ {ds es : List PyData} {vs us : List V}, ImAll H ds vs → ImAll H es us → ImAll H (ds ++ es) (vs ++ us)
  | [], es, vs, us, h, k => by
    unfold ImAll at h
    subst h
    exact k
  | d :: ds, es, vs, us, h, k => by
    unfold ImAll at h
    obtain ⟨v, r, e, h1, h2⟩ := h
    subst e
    exact .cons h1 (h2.app k)
theorem ImAll.length {H : Hp} : ∀ {ds : List PyData} {vs : List V}, ImAll H ds vs → vs.length = ds.length
  | [], vs, h => by
    unfold ImAll at h
    subst h
    rfl
  | d :: ds, vs, h => by
    unfold ImAll at h
    obtain ⟨v, r, e, h1, h2⟩ := h
    subst e
    simp [h2.length]
theorem ImAll.get {H : Hp} : ∀ {ds : List PyData} {vs : List V} {i : Nat} {d : PyData}, ImAll H ds vs → ds[i]? = some d → ∃ v, vs[i]? = some v ∧ Im H d v
  | [], vs, i, d, h, k => by cases k
  | c :: ds, vs, i, d, h, k => by
    unfold ImAll at h
    obtain ⟨v, r, e, h1, h2⟩ := h
    subst e
    cases i with
    | zero =>
      cases k
      exact ⟨v, rfl, h1⟩
    | succ i => exact h2.get (i := i) k
theorem ImAll.getv {H : Hp} : ∀ {ds : List PyData} {vs : List V} {i : Nat} {v : V}, ImAll H ds vs → vs[i]? = some v → ∃ d, ds[i]? = some d ∧ Im H d v
  | [], vs, i, d, h, k => by
    unfold ImAll at h
    subst h
    cases k
  | c :: ds, vs, i, d, h, k => by
    unfold ImAll at h
    obtain ⟨v, r, e, h1, h2⟩ := h
    subst e
    cases i with
    | zero =>
      cases k
      exact ⟨c, rfl, h1⟩
    | succ i => exact h2.getv (i := i) k
section
variable {P : Program} {w : World} {K : PySem.W.Frag} {mg : Str → Option Value} {base : Heap}
theorem Df.cal {x : Str} {st : Stmt} {f : Addr} {fd : FuncData} {ps : List Str} {k : Nat} {sp : Sp} (D : Df K mg x st f fd ps) (ok : FnOk P w K mg base CX0 k f fd ps sp) : C8.Cal P w K mg base k x sp [] := ⟨f, fd, ps, [], ok, D.mgf, D.fn.kp, D.bd, .nil⟩
theorem call_lenS {X : Cx} {p : Addr} {ys : List V} {H : Hp} (h : SqL X.K H p ys ∨ SqT X.K H p ys) : SqL X.K H p ys ∨ SqT X.K H p ys := h
/-! ### a pick, a word -/
theorem But.seqT {t a : Addr} {H H' : Hp} {xs : List V} (b : But t H H') (h : SqT K H a xs) (n : a ≠ t) : SqT K H' a xs := by
  rcases h with (⟨h⟩ | ⟨o, h⟩) | ⟨h⟩
  · exact .inl (.inl (b _ _ h n))
  · exact .inl (.inr ⟨o, b _ _ h n⟩)
  · exact .inr h
def spPick (K : PySem.W.Frag) : Sp := fun vs H Q _ => ∃ (t l : Addr) (n : Nat) (xs : List V), vs = [.ref t, .ref l] ∧ Tp H t n ∧ n < 1000000 ∧ (SqL K H l xs ∨ SqT K H l xs) ∧ l ≠ t ∧ 0 < xs.length ∧ xs.length < 100000 ∧
  ∀ (i : Nat) (v : V) (H' : Hp), xs[i]? = some v → Tp H' t (n + 1) → But t H H' → Q v H'
theorem scP : FnScope ["tape", "some"] ["tape", "some"] (defScope sPick) := ⟨rfl, rfl, rfl, by decide +kernel, rfl, by decide +kernel, by decide +kernel⟩
theorem ok_pick (B : Bs mg) (c_draw : C8.Cal P w K mg base 1 "_law_draw" spDraw []) {f : Addr} {fd : FuncData} (F : Fun K "_law_pick" "_law_pick" sPick f fd) : FnOk P w K mg base CX0 2 f fd ["tape", "some"] (spPick K) := by
  refine F.ok scP (fun vs H Q E h => ?_) (fun cdv A outer s H vs Q E hr h => ?_)
  · obtain ⟨t, l, n, xs, rfl, _⟩ := h
    rfl
  · obtain ⟨t, l, n, xs, rfl, hT, hn, hl, hlt, l0, l1, q⟩ := h
    refine ⟨_, pss_one (ps_ret (pe_ix ix_seq (pv 1) (C8.pe_c c_draw hr (by decide) (by rfl) (pa_cons (pv 0) (pa_cons (pe_callB call_len_seq (by rfl) B.len PySem.boot_len (pa_cons (pv 1) pa_nil)) pa_nil))) (fun _ _ => rfl))), ?_⟩
    refine ⟨_, rfl, _, rfl, _, rfl, l, xs, rfl, hl, t, n, _, rfl, hT, hn, by omega, by omega, fun r H' r0 r1 hT' hb => ?_⟩
    have hi : r.toNat < xs.length := by omega
    obtain ⟨v, g⟩ : ∃ v, xs[r.toNat]? = some v := ⟨_, List.getElem?_eq_getElem hi⟩
    have e : atI xs r = some v := by
      have := atI_nat (v := v) g
      rwa [Int.toNat_of_nonneg r0] at this
    rcases hl with hl | hl
    · exact .inl ⟨l, xs, r, v, rfl, rfl, hb.seq hl hlt, e, q r.toNat v H' g hT' hb⟩
    · exact .inr (.inl ⟨l, xs, r, v, rfl, rfl, hb.seqT hl hlt, e, q r.toNat v H' g hT' hb⟩)
abbrev s_law_a_word : Stmt := topS 16
def spWord : Sp := fun vs H Q _ => ∃ (t : Addr) (n : Nat) (m : Int), vs = [.ref t, .int m] ∧ Tp H t n ∧ n < 999000 ∧ 0 < m ∧ m < 1000000 ∧
  ∀ (r : Int) (H' : Hp), -m ≤ r → r ≤ m → Tp H' t (n + 3) → But t H H' → Q (.int r) H'
theorem scW : FnScope ["tape", "wide", "some"] ["tape", "wide"] (defScope s_law_a_word) := ⟨rfl, rfl, rfl, by decide +kernel, rfl, by decide +kernel, by decide +kernel⟩
theorem ok_word (B : Bs mg) (c_draw : C8.Cal P w K mg base 1 "_law_draw" spDraw []) (c_pick : C8.Cal P w K mg base 2 "_law_pick" (spPick K) []) {f : Addr} {fd : FuncData} (F : Fun K "_law_a_word" "_law_a_word" s_law_a_word f fd) : FnOk P w K mg base CX0 3 f fd ["tape", "wide"] spWord := by
  refine F.ok scW (fun vs H Q E h => ?_) (fun cdv A outer s H vs Q E hr h => ?_)
  · obtain ⟨t, n, m, rfl, _⟩ := h
    rfl
  · obtain ⟨t, n, m, rfl, hT, hn, m0, m1, q⟩ := h
    refine ⟨_, (pss_cons (ps_set (i := 2) scW.nd rfl (.inl rfl) (pe_lst (pa_cons pe_int (pa_cons pe_int (pa_cons (pe_op op_sub pe_int pe_int) (pa_cons (pv 1) (pa_cons (pe_op op_sub pe_int (pv 1)) (pa_cons (pe_op op_sub (C8.pe_c c_draw hr (by decide) (by rfl) (pa_cons (pv 0) (pa_cons (pe_op op_add (pe_op op_mul pe_int (pv 1)) pe_int) pa_nil))) (pv 1)) (pa_cons (C8.pe_c c_draw hr (by decide) (by rfl) (pa_cons (pv 0) (pa_cons (pe_op op_add (pv 1) pe_int) pa_nil))) pa_nil)))))))))
      (pss_one (ps_ret (C8.pe_c c_pick hr (by decide) (by rfl) (pa_cons (pv 0) (pa_cons (pv 2) pa_nil)))))), ?_⟩
    refine ⟨_, _, rfl, rfl, _, rfl, _, rfl, _, _, rfl, rfl, _, rfl, _, rfl, _, _, rfl, rfl, .inl ⟨by decide, by decide⟩, _, _, rfl, rfl, t, n, _, rfl, hT, by omega, by omega, by omega, fun r H1 r0 r1 hT1 b1 => ?_⟩
    refine ⟨_, rfl, _, _, rfl, rfl, _, rfl, _, rfl, _, _, rfl, rfl, t, n + 1, _, rfl, hT1, by omega, by omega, by omega, fun r' H2 r0' r1' hT2 b2 => ?_⟩
    refine ⟨(by show 7 ≤ sizeLine; decide), fun p hp => ?_⟩
    have hp' := Tp.ne hT2 hp
    refine ⟨_, rfl, _, rfl, t, p, n + 1 + 1, _, rfl, hT2.new hp, by omega, .inl (SqL.of upd_same), hp', (by show 0 < 7; decide), (by show 7 < 100000; decide), fun i v H3 g hT3 b3 => ?_⟩
    have b : But t H H3 := (b1.trans b2).trans ((But.new hp).trans b3)
    have key : ∀ z : Int, v = .int z → -m ≤ z → z ≤ m → Q v H3 := fun z e h1 h2 => by
      subst e
      exact q z H3 h1 h2 hT3 b
    match i, g with
    | 0, g => exact key _ (Option.some.inj g).symm (by omega) (by omega)
    | 1, g => exact key _ (Option.some.inj g).symm (by omega) (by omega)
    | 2, g => exact key _ (Option.some.inj g).symm (by omega) (by omega)
    | 3, g => exact key _ (Option.some.inj g).symm (by omega) (by omega)
    | 4, g => exact key _ (Option.some.inj g).symm (by omega) (by omega)
    | 5, g => exact key _ (Option.some.inj g).symm (by omega) (by omega)
    | 6, g => exact key _ (Option.some.inj g).symm (by omega) (by omega)
    | (i + 7), g => simp at g
end
end K

set_option maxRecDepth 100000
set_option maxHeartbeats 3900000
namespace K
open PySem PySem.Spec PyProof.Rows L2
/-- all but F's addresses as it was -/
def Bt (F : Addr → Prop) (H H' : Hp) : Prop := ∀ x o, H x = some o → ¬ F x → H' x = some o
theorem Bt.refl {F : Addr → Prop} {H : Hp} : Bt F H H := fun _ _ h _ => h
theorem Bt.trans {F : Addr → Prop} {H H1 H2 : Hp} (a : Bt F H H1) (b : Bt F H1 H2) : Bt F H H2 := fun x o h n => b x o (a x o h n) n
theorem Bt.of {F : Addr → Prop} {H H' : Hp} (s : Same H H') : Bt F H H' := fun x o h _ => s x o h
theorem Bt.same {H H' : Hp} (b : Bt (fun _ => False) H H') : Same H H' := fun x o h => b x o h id
theorem Bt.new {F : Addr → Prop} {p : Addr} {H : Hp} {o : HO} (h : H p = none) : Bt F H (upd H p o) := .of (same_new h)
theorem Bt.set {F : Addr → Prop} {D : Addr} {H H1 : Hp} {o : HO} (b : Bt F H H1) (h : H D = none) : Bt F H (upd H1 D o) := fun x u e n => by
  rw [upd_ne (ne_of_none e h)]
  exact b x u e n
section
variable {J : It} {n : Nat} {G : Hp → Prop} {Y : Nat → Hp → V → Hp →
    Prop}
/-- a comprehension: R of the turn, what is made so far and the heap -/
theorem lc_w (w : Walk J n G Y) {g : TG} {tt : TT} {te : TE} {vs : List Nat} {σ : L2.St} {H1 : Hp} {D : Addr} {Qd : Hp → Prop} (F : Addr → Prop) (R : Nat → List V → Hp → Prop) (hF : ¬ F D) (hD : H1 D = none) (hn : n < sizeLine)
    (st : ∀ i acc H H', R i acc H → But D H H' → R i acc H') (h0 : R 0 [] H1) (hG : ∀ i acc H, i ≤ n → Bt F H1 H → R i acc H → G H)
    (hs : ∀ i acc x H H', i < n → Bt F H1 H → R i acc H → H D = some (.lst acc) → acc.length ≤ i → Y i H x H' → ∀ (N : VK) (N0 : Hp → Prop), (∀ y H4, Bt F H H4 → R (i + 1) (acc ++ [y]) H4 → N y H4) → (∀ H3, Bt F H H3 → R (i + 1) acc H3 → N0 H3) →
      g x (wipe σ vs) H' fun σ2 H2 => wipe σ2 vs = wipe σ vs ∧ tt σ2 H2 fun b H3 => if b = true then te σ2 H3 N else N0 H3)
    (hd : ∀ acc H, Bt F H1 H → H D = some (.lst acc) → acc.length ≤ n → R n acc H → Qd H) :
    ∃ W : Nat → Nat → Hp → Prop, (∃ m, W 0 m (upd H1 D (.lst []))) ∧ ∀ i m H, W i m H
        →
      (J.stop i H ∧ Qd H) ∨ (J.go i H ∧ ∃ Nx : Hp → Prop, (∀ H', Nx H' → ∃ m', m' < m ∧ W (i + 1) m' H') ∧ ∀ x H', J.yld i H x H' → g x (wipe σ vs) H' fun σ2 H2 => wipe σ2 vs = wipe σ vs ∧ tt σ2 H2 fun b H3
          =>
        if b = true then te σ2 H3 fun y H4 => ∃ acc, H4 D = some (.lst acc) ∧ acc.length < sizeLine ∧ Nx (upd H4 D (.lst (acc ++ [y]))) else Nx H3) :=
            by
  refine lc_it w (Qd := Qd) (fun i H => Bt F H1 H ∧ ∃ acc, H D = some (.lst acc) ∧ acc.length ≤ i ∧ R i acc H) ⟨.new hD, [], upd_same, Nat.le_refl _, st _ _ _ _ h0 .set⟩ (fun i H hi ⟨b, acc, _, _, r⟩ => hG i acc H hi b r) (fun i x H H' hi ⟨b, acc, hA, hl, r⟩ y => ?_) fun H ⟨b, acc, hA, hl, r⟩ => hd acc H b hA hl r
  refine hs i acc x H H' hi b r hA hl y _ _ (fun y H4 b4 r4 => ⟨acc, b4 _ _ hA hF, Nat.lt_of_le_of_lt hl (Nat.lt_of_lt_of_le hi (Nat.le_of_lt hn)), (b.trans b4).set hD, acc ++ [y], upd_same, by simp; omega, st _ _ _ _ r4 .set⟩) fun H3 b3 r3 => ⟨b.trans b3, acc, b3 _ _ hA hF, by omega, r3⟩
end
/-! ### rules with their part named (a comprehension's block wants it so) -/
theorem ixL (K : PySem.W.Frag) {X : Cx} (h : X.K = K) : IxR X (rIxL K) := by subst h; exact ix_list
theorem ixT (K : PySem.W.Frag) {X : Cx} (h : X.K = K) : IxR X (rIxT K) := by subst h; exact ix_tup
theorem inS (K : PySem.W.Frag) {X : Cx} (h : X.K = K) : OpR X (compareOp .In) (rIn K false) := by subst h; exact op_in_seq
theorem notInS (K : PySem.W.Frag) {X : Cx} (h : X.K = K) : OpR X (compareOp .NotIn) (rIn K true) := by subst h; exact op_notIn_seq
/-! ### names -/
abbrev Sx := SX.S
/-- a name: a small letter, the h-th, then up to three more -/
def Nm (h : Nat) (x : Str) : Prop := ∃ l : List Nat, x = Sx ((97 + h) :: l) ∧ l.length ≤ 3 ∧ ∀ c ∈ l, 97 ≤ c ∧ c < 123
def abc : Str := "abcdefghijklmnopqrstuvwxyz"
theorem abc_at : ∀ i : Nat, i < 26 → abc.cps.toList[i]? = some (97 + i) := by decide +kernel
theorem abc_len : abc.length ≤ sizeLine := by decide +kernel
theorem main_cps : ("main" : Str) = Sx [109, 97, 105, 110] := by decide +kernel
theorem mane_cps : ("mane" : Str) = Sx [109, 97, 110, 101] := by decide +kernel
theorem Sx_inj {a b : List Nat} (h : Sx a = Sx b) : a = b := by
  have e : (Sx a).cps.toList = (Sx b).cps.toList := by rw [h]
  exact e
theorem Nm.head {h k : Nat} {x : Str} (a : Nm h x) (b : Nm k x) : h = k := by
  obtain ⟨l, e, _⟩ := a
  obtain ⟨m, f, _⟩ := b
  rw [e] at f
  have := Sx_inj f
  injection this with z _
  omega
theorem join_nil (ys : List (List Nat)) : Txt.join ("" : Str) (ys.map Sx) = Sx ys.flatten := by
  have e : ("" : Str) = Sx [] := by decide +kernel
  rw [e]
  refine (SX.join_S [] ys).trans ?_
  congr 1
  induction ys with
  | nil => rfl
  | cons a r ih =>
    cases r with
    | nil => simp [TL.joinL]
    | cons b r => simpa [TL.joinL] using ih
end K

set_option maxRecDepth 100000
set_option maxHeartbeats 3900000
namespace K
open PySem PySem.Spec PyProof.Rows L2
theorem Tp.at {H H' : Hp} {t D : Addr} {n : Nat} (h : Tp H t n) (b : But D H H') (ne : t ≠ D) : Tp H' t n := let ⟨a, x, c, e, y, z⟩ := h; ⟨a, x, c, b _ _ e ne, y, z⟩
theorem Tp.ne' {H : Hp} {t p : Addr} {n : Nat} (h : Tp H t n) (hp : H p = none) : t ≠ p := (h.ne hp).symm
theorem But.back {H H' : Hp} {t p : Addr} {n : Nat} (b : But t H H') (hT : Tp H' t n) (hp : H' p = none) : H p = none := by
  cases e : H p with
  | none => rfl
  | some o =>
    have := b p o e (hT.ne hp)
    rw [hp] at this
    cases this
theorem But.put {H H' : Hp} {t p : Addr} {o : HO} (b : But t H H') (hp : H p = none) : But t H (upd H' p o) := fun x u e n => by
  rw [upd_ne (ne_of_none e hp)]
  exact b x u e n
theorem join_signs (l : List Nat) : Txt.join ("" : Str) (l.map fun c => Sx [c]) = Sx l := by
  have e : (l.map fun c => Sx [c]) = (l.map fun c => [c]).map Sx := by rw [List.map_map]; rfl
  rw [e, join_nil]
  congr 1
  induction l with
  | nil => rfl
  | cons a r ih =>
    have := ih (by rw [List.map_map]; rfl)
    simpa using this
theorem fm_nat {x : Int} {k m : Nat} (e : x = (k : Int)) : x.fmod (m : Int) = ((k % m : Nat) : Int) := by
  subst e
  rw [Int.fmod_eq_emod_of_nonneg _ (by omega)] <;> skip
  omega
section
variable {P : Program} {w : World} {K : PySem.W.Frag} {mg : Str → Option Value} {base : Heap}
abbrev s_law_fresh : Stmt := topS 17
def Fresh (f : Nat) (xs : List Str) : Prop := ∀ (i : Nat) (x : Str), xs[i]? = some x → Nm ((f + 3 * i) % 26) x ∧ x ≠ "main"
def spFresh : Sp := fun vs H Q _ => ∃ (t : Addr) (n m : Nat), vs = [.ref t, .int (m : Int)] ∧ m ≤ 8 ∧ Tp H t n ∧ n < 900000 ∧
  ∀ (l : Addr) (xs : List Str) (f : Nat) (H' : Hp), H l = none → H' l = some (.lst (xs.map V.str)) → xs.length = m → Fresh f xs → Tp H' t (n + 100) → But t H H' → Q (.ref l) H'
theorem scF : FnScope ["tape", "many", "letters", "first", "found", "k", "more", "name", "turn"] ["tape", "many"] (defScope s_law_fresh) := ⟨rfl, rfl, rfl, by decide +kernel, rfl, by decide +kernel, by decide +kernel⟩
theorem ok_fresh (B : Bs mg) (c_draw : C8.Cal P w K mg base 1 "_law_draw" spDraw []) {f : Addr} {fd : FuncData} (F : Fun K "_law_fresh" "_law_fresh" s_law_fresh f fd) : FnOk P w K mg base CX0 2 f fd ["tape", "many"] spFresh := by
  refine F.ok scF (fun vs H Q E h => ?_) (fun cdv A outer s H vs Q E hr h => ?_)
  · obtain ⟨t, n, m, rfl, _⟩ := h
    rfl
  · obtain ⟨t, n, m, rfl, hm, hT, hn, q⟩ := h
    refine ⟨_, (pss_cons (ps_set (i := 2) scF.nd rfl (.inr rfl) pe_str)
      (pss_cons (ps_set (i := 3) scF.nd rfl (.inl rfl) (C8.pe_c c_draw hr (by decide) (by rfl) (pa_cons (pv 0) (pa_cons pe_int pa_nil))))
      (pss_cons (ps_set (i := 4) scF.nd rfl (.inl rfl) (pe_lst pa_nil))
      (pss_cons (ps_for PassesOwn.never rfl (pi_range1 (by rfl) B.range (pa_cons (pv 1) pa_nil)) (pg_name (i := 5) scF.nd rfl (.inl rfl))
      (pss_cons (ps_set (i := 6) scF.nd rfl (.inl rfl) (pe_join pe_str (pe_lc (own := [("turn", 8)]) (g := gName 8) (tt := tYes) (by rfl) scF.nd (pi_range1 (by rfl) B.range (pa_cons (C8.pe_c c_draw hr (by decide) (by rfl) (pa_cons (pv 0) (pa_cons pe_int pa_nil))) pa_nil)) (blkOk_by (own := [("turn", 8)]) (N := ["tape", "many", "letters", "first", "found", "k", "more", "name", "turn"]) (sc := defScope s_law_fresh) (by decide +kernel)) (fun _ _ _ _ _ => (pg_name (i := 8) scF.nd rfl (.inl rfl) (hf := .inr rfl))) (fun _ _ _ _ _ => pts_nil) (fun _ _ _ _ _ => (pe_ix ix_str (pv 2) (C8.pe_c c_draw hr (by decide) (by rfl) (pa_cons (pv 0) (pa_cons pe_int pa_nil))) (fun _ _ => rfl))))))
      (pss_one (ps_expr (pe_bm PySem.F.plainAttrs_list PySem.F.slot_list_append PySem.F.type_list_append mt_append (pv 4) (pa_cons (pe_op op_add_str (pe_ix ix_str (pv 2) (pe_op op_modN (pe_op op_add (pv 3) (pe_op op_mul pe_int (pv 5))) pe_int) (fun _ _ => rfl)) (pv 6)) pa_nil))))))
      (pss_one (ps_ret (pe_lc (own := [("name", 7)]) (g := gName 7) (tt := tYes) (by rfl) scF.nd (pi_list (pv 4)) (blkOk_by (own := [("name", 7)]) (N := ["tape", "many", "letters", "first", "found", "k", "more", "name", "turn"]) (sc := defScope s_law_fresh) (by decide +kernel)) (fun _ _ _ _ _ => (pg_name (i := 7) scF.nd rfl (.inl rfl) (hf := .inr rfl))) (fun _ _ _ _ _ => pts_nil) (fun _ _ _ _ _ => (pe_ix (ixL K rfl) (pe_lst (pa_cons (pv 7) (pa_cons pe_str pa_nil))) (pe_callTy call_int1 (by rfl) B.int (by decide +kernel) (pa_cons (pe_cmpR op_eq (pv 7) pe_str (nomark _)) pa_nil)) (fun _ _ => rfl)))))))))), ?_⟩
    refine ⟨_, rfl, t, n, 26, rfl, hT, by omega, by decide, by decide, fun r H1 r0 r1 hT1 b1 => ?_⟩
    refine ⟨(by show 0 ≤ sizeLine; decide), fun p hp => ?_⟩
    have hp0 := b1.back hT1 hp
    have pt := hT1.ne hp
    have em : ((m : Nat) : Int).toNat = m := by omega
    refine ⟨_, rfl, (m : Int), rfl, by omega, by omega, for_range (lo := 0) (n := ((m : Nat) : Int).toNat) (fun i σ H' => ∃ y5 y6 y7 y8 : Option V, σ = [some (.ref t), some (.int (m : Int)), some (.str abc), some (.int r), some (.ref p), y5, y6, y7, y8] ∧ But t H H' ∧ Tp H' t (n + 1 + 4 * i) ∧
        ∃ xs : List Str, H' p = some (.lst (xs.map V.str)) ∧ xs.length = i ∧ ∀ (j : Nat) (x : Str), xs[j]? = some x → Nm ((r.toNat + 3 * j) % 26) x)
      ⟨_, _, _, _, rfl, b1.trans (.new hp), hT1.new hp, [], upd_same, rfl, fun j x e => by cases e⟩ ?_ ?_⟩
    · rintro i σ H' hi ⟨y5, y6, y7, y8, rfl, b, hT', xs, hxs, hlen, hok⟩
      rw [em] at hi
      refine ⟨⟨_, rfl⟩, _, rfl, t, _, 4, rfl, hT', by omega, by decide, by decide, fun r4 H4 r40 r41 hT4 b4 => ?_⟩
      refine ⟨r4, rfl, by omega, by omega, fun D hD => ?_⟩
      have pD : p ≠ D := ne_of_none (b4 _ _ hxs pt) hD
      have tD := hT4.ne' hD
      refine lc_w (walk_range (lo := 0) (n := r4.toNat)) (fun x => x = t) (fun j acc G => Tp G t (n + 1 + 4 * i + 1 + j) ∧ G p = some (.lst (xs.map V.str)) ∧ ∃ l : List Nat, acc = (l.map fun c => V.str (Sx [c])) ∧ l.length = j ∧ ∀ c ∈ l, 97 ≤ c ∧ c < 123) tD.symm hD (Nat.lt_of_le_of_lt (show r4.toNat ≤ 4 by omega) (by decide))
        (fun j acc G G' ⟨a, b, c⟩ k => ⟨a.at k tD, k _ _ b pD, c⟩) ⟨hT4, b4 _ _ hxs pt, [], rfl, rfl, fun c h => nomatch h⟩ (fun _ _ _ _ _ _ => trivial) ?_ ?_
      · rintro j acc x Ha Hb hj hb ⟨hTa, hpa, l, rfl, hll, hlc⟩ hA hal ⟨rfl, rfl⟩ N N0 q1 q0
        refine ⟨rfl, ?_⟩
        refine ⟨_, rfl, _, rfl, t, _, 26, rfl, hTa, by omega, by decide, by decide, fun r5 H5 r50 r51 hT5 b5 => ?_⟩
        have ha : atI abc.cps.toList r5 = some (97 + r5.toNat) := by
          have := atI_nat (v := 97 + r5.toNat) (abc_at r5.toNat (by omega))
          rwa [Int.toNat_of_nonneg r50] at this
        refine ⟨abc, r5, _, rfl, rfl, abc_len, ha, q1 _ _ b5 ⟨hT5, b5 _ _ hpa pt, l ++ [97 + r5.toNat], by rw [List.map_append]; rfl, by simp [hll], fun c h => ?_⟩⟩
        obtain h | h := List.mem_append.mp h
        · exact hlc c h
        · have := List.mem_singleton.mp h
          omega
      · rintro acc Hc hbc hA hal ⟨hTc, hpc, l, rfl, hll, hlc⟩
        refine ⟨("" : Str), D, l.map fun c => Sx [c], rfl, rfl, .inl (SqL.of (by rw [hA, List.map_map]; rfl)), ?_, ?_⟩
        · have : ((l.map fun c => Sx [c]).map (·.length)).sum = l.length := by
            clear hA hal hlc hll hpc hTc
            induction l with
            | nil => rfl
            | cons a r ih =>
              have e1 : (Sx [a]).length = 1 := SX.S_len [a]
              have : ((r.map fun c => Sx [c]).map (·.length)).sum = r.length := ih
              simp only [List.map_cons, List.sum_cons, List.length_cons, e1, this]
              omega
          rw [this]
          show _ + _ * 0 ≤ 16777216
          omega
        · rw [join_signs]
          have ef := fm_nat (x := r + 3 * (0 + (i : Int))) (k := r.toNat + 3 * i) (m := 26) (by omega)
          have ha : atI abc.cps.toList ((r + 3 * (0 + (i : Int))).fmod 26) = some (97 + (r.toNat + 3 * i) % 26) := by
            rw [show (26 : Int) = ((26 : Nat) : Int) from rfl, ef]
            exact atI_nat (abc_at _ (Nat.mod_lt _ (by decide)))
          have sl : (Sx l).length = l.length := SX.S_len l
          refine ⟨_, rfl, .inl ⟨rfl, _, SqL.of hpc⟩, _, rfl, _, rfl, _, rfl, _, _, rfl, rfl, .inl ⟨by decide, by decide⟩, _, _, rfl, rfl, _, _, rfl, rfl, (by show (26 : Int) ≠ 0; decide), abc, _, _, rfl, rfl, abc_len, ha, _, rfl, _, _, rfl, rfl, ?_, p, _, _, rfl, rfl, hpc, ?_, ?_⟩
          · rw [sl]
            exact Nat.le_trans (show 1 + l.length ≤ 10 by omega) (by decide)
          · rw [List.length_map]
            exact Nat.lt_of_lt_of_le (show xs.length < 100 by omega) (by decide)
          · have e1 : (⟨#[97 + (r.toNat + 3 * i) % 26]⟩ : Str) ++ Sx l = Sx ((97 + (r.toNat + 3 * i) % 26) :: l) := SX.S_cat [_] l
            refine ⟨_, _, _, _, rfl, ?_, (Tp.at hTc .set pt.symm).mono (by omega), xs ++ [Sx ((97 + (r.toNat + 3 * i) % 26) :: l)], ?_, by simp [hlen], fun j x e => ?_⟩
            · exact (b.trans (b4.trans (fun x o e n => hbc x o e n))).put hp0
            · rw [upd_same, e1, List.map_append]
              rfl
            · rcases Nat.lt_or_ge j xs.length with hj | hj
              · rw [List.getElem?_append_left hj] at e
                exact hok j x e
              · rw [List.getElem?_append_right hj] at e
                have : j - xs.length = 0 := by
                  cases hz : j - xs.length with
                  | zero => rfl
                  | succ z => rw [hz] at e; cases e
                rw [this] at e
                have ex := Option.some.inj e
                have ej : j = i := by omega
                subst ej
                exact ⟨l, ex.symm, by omega, hlc⟩
    · rintro σ H' ⟨y5, y6, y7, y8, rfl, b, hT', xs, hxs, hlen, hok⟩
      rw [em] at hT' hlen
      refine ⟨_, rfl, p, rfl, ⟨_, SqL.of hxs⟩, fun D hD => ?_⟩
      have pD : p ≠ D := ne_of_none hxs hD
      have tD := hT'.ne' hD
      refine lc_w (walk_list (K := K) (a := p) (xs := xs.map V.str)) (fun _ => False) (fun j acc G => Tp G t (n + 1 + 4 * m) ∧ G p = some (.lst (xs.map V.str)) ∧ ∃ ys : List Str, acc = ys.map V.str ∧ ys.length = j ∧ Fresh r.toNat ys) id hD (by rw [List.length_map, hlen]; exact Nat.lt_of_le_of_lt hm (by decide))
        (fun j acc G G' ⟨a, b, c⟩ k => ⟨a.at k tD, k _ _ b pD, c⟩) ⟨hT', hxs, [], rfl, rfl, fun i x e => by cases e⟩ (fun _ _ _ _ _ h => SqL.of h.2.1) ?_ ?_
      · rintro j acc x Ha Hb hj hb ⟨hTa, hpa, ys, rfl, hyl, hyk⟩ hA hal ⟨rfl, hx⟩ N N0 q1 q0
        obtain ⟨z, hz, rfl⟩ : ∃ z, xs[j]? = some z ∧ V.str z = x := by
          rw [List.getElem?_map] at hx
          cases e : xs[j]? with
          | none => rw [e] at hx; cases hx
          | some z => rw [e] at hx; exact ⟨z, rfl, Option.some.inj hx⟩
        refine ⟨rfl, ?_⟩
        refine ⟨_, rfl, (by show 2 ≤ sizeLine; decide), fun p2 hp2 => ?_⟩
        refine ⟨_, rfl, rfl, .inr ⟨_, rfl, ?_⟩⟩
        have nz := hok j z hz
        have fin : ∀ y : Str, Nm ((r.toNat + 3 * j) % 26) y → y ≠ "main" → N (.str y) (upd Hb p2 (.lst [.str z, .str "mane"])) := fun y ny nm => by
          refine q1 _ _ (.new hp2) ⟨hTa.new hp2, same_new hp2 _ _ hpa, ys ++ [y], by rw [List.map_append]; rfl, by simp [hyl], fun i u e => ?_⟩
          rcases Nat.lt_or_ge i ys.length with hi | hi
          · rw [List.getElem?_append_left hi] at e
            exact hyk i u e
          · rw [List.getElem?_append_right hi] at e
            have : i - ys.length = 0 := by
              cases hz : i - ys.length with
              | zero => rfl
              | succ z => rw [hz] at e; cases e
            rw [this] at e
            have ex := Option.some.inj e
            have ej : i = j := by omega
            subst ej
            subst ex
            exact ⟨ny, nm⟩
        by_cases hmain : z = "main"
        · refine ⟨p2, _, 1, .str "mane", rfl, ?_, SqL.of upd_same, atI_nat (j := 1) rfl, fin _ ?_ (by decide +kernel)⟩
          · rw [hmain]
            rfl
          · rw [hmain] at nz
            have m12 : Nm 12 "main" := ⟨[97, 105, 110], main_cps, by decide, by decide⟩
            rw [nz.head m12]
            exact ⟨[97, 110, 101], mane_cps, by decide, by decide⟩
        · refine ⟨p2, _, 0, .str z, rfl, ?_, SqL.of upd_same, atI_nat (j := 0) rfl, fin _ nz hmain⟩
          have : decide (V.str z = V.str "main") = false := decide_eq_false fun h => hmain (V.str.inj h)
          rw [this]
          rfl
      · rintro acc Hc hbc hA hal ⟨hTc, hpc, ys, rfl, hyl, hyk⟩
        rw [List.length_map, hlen] at hyl
        exact q D ys r.toNat Hc (b.back hT' hD) hA hyl hyk (hTc.mono (by omega)) (b.trans (.of (Bt.same hbc)))
end
end K

set_option maxRecDepth 100000
set_option maxHeartbeats 3900000
namespace K
open PySem PySem.Spec PyProof.Rows L2
/-! ### texts that may be laid -/
def TxOk (x : Str) : Prop := PyData.canLay0 (.str x) = true
theorem Nm.ok {h : Nat} {x : Str} (n : Nm h x) (hh : h < 26) : TxOk x := by
  obtain ⟨l, rfl, _, hl⟩ := n
  show PyData.strOk (Sx ((97 + h) :: l)) = true
  unfold PyData.strOk
  simp only [Array.all_toList, Sx, SX.S, List.all_toArray, List.all_cons, Bool.and_eq_true, List.all_eq_true, decide_eq_true_eq]
  exact ⟨by omega, fun c hc => by have := hl c hc; omega⟩
/-- a callee's name: no sign -/
def Cn (x : Str) : Prop := TxOk x ∧ x ≠ "<" ∧ x ≠ "<="
theorem Nm.cn {h : Nat} {x : Str} (n : Nm h x) (hh : h < 26) : Cn x := by
  refine ⟨n.ok hh, fun e => ?_, fun e => ?_⟩
  all_goals
    obtain ⟨l, hx, _, _⟩ := n
    have e2 : x.cps.toList.head? = some 60 := by rw [e]; decide +kernel
    rw [hx] at e2
    have e3 : ((97 + h) :: l).head? = some 60 := e2
    have := Option.some.inj e3
    omega
theorem lay_strs : ∀ {xs : List Str}, (∀ x ∈ xs, TxOk x) → PyData.canLayAll0 (xs.map PyData.str) = true
  | [], _ => rfl
  | x :: r, h => by
    show (PyData.canLay0 (.str x) && PyData.canLayAll0 (r.map PyData.str)) = true
    rw [show PyData.canLay0 (.str x) = true from h x (by simp), lay_strs fun y hy => h y (by simp [hy])]
    rfl
theorem depth_strs : ∀ xs : List Str, PyData.depthAll (xs.map PyData.str) = 0
  | [] => rfl
  | x :: r => by
    show max (PyData.depth (.str x)) (PyData.depthAll (r.map PyData.str)) = 0
    rw [depth_strs r]
    rfl
theorem dp_strs {K : PySem.W.Frag} {H : Hp} : ∀ xs : List Str, DpAll K H (xs.map V.str) (xs.map PyData.str)
  | [] => .nil
  | x :: r => .cons (.str x) (dp_strs r)
theorem shaped_strs {xs : List Str} (h : ∀ x ∈ xs, TxOk x) : PySem.SeqAt.shaped (.list (xs.map PyData.str)) = true := by
  unfold PySem.SeqAt.shaped
  rw [Bool.and_eq_true]
  refine ⟨lay_strs h, ?_⟩
  rw [decide_eq_true_eq]
  show PyData.depthAll (xs.map PyData.str) + 1 ≤ 64
  rw [depth_strs]
  decide
/-! ### heads -/
structure Hd where
  (name : Str) (params fingers rows plain : List Str)
def Hd.all (d : Hd) : List Str := d.plain ++ d.fingers ++ d.rows
/-- a small name -/
def Na (x : Str) : Prop := (∃ h, h < 26 ∧ Nm h x) ∧ x ≠ "main"
structure HdOk (d : Hd) : Prop where
  pl : 1 ≤ d.plain.length ∧ d.plain.length ≤ 3
  fl : d.fingers.length ≤ 2
  rl : d.rows.length ≤ 2
  nd : d.all.Nodup
  nm : ∀ x ∈ d.all, Na x
  pd : d.params.Nodup
  ps : ∀ x ∈ d.params, x ∈ d.all
  mn : d.name = "main" → d.params = []
  fs : sortedS d.fingers = true
  rs : sortedS d.rows = true
/-- a head stands at v (its plain names in a list of its own) -/
def HdAt (H : Hp) (v : V) (d : Hd) : Prop := ∃ a p f r l : Addr, v = .ref a ∧ H a = some (.tup [.str d.name, .ref p, .ref f, .ref r, .ref l]) ∧ H p = some (.tup (d.params.map V.str)) ∧ H f = some (.tup (d.fingers.map V.str)) ∧ H r = some (.tup (d.rows.map V.str)) ∧ H l = some (.lst (d.plain.map V.str))
theorem HdAt.same {H H' : Hp} {v : V} {d : Hd} (h : HdAt H v d) (s : Same H H') : HdAt H' v d := by
  obtain ⟨a, p, f, r, l, e, h1, h2, h3, h4, h5⟩ := h
  exact ⟨a, p, f, r, l, e, s _ _ h1, s _ _ h2, s _ _ h3, s _ _ h4, s _ _ h5⟩
theorem strs_ne_ints {a b c : Int} {xs : List Str} : HO.lst [.int a, .int b, .int c] ≠ .lst (xs.map V.str) := fun h => by
  injection h with h
  cases xs with
  | nil => cases h
  | cons x r =>
    injection h with h _
    cases h
theorem HdAt.but {H H' : Hp} {t : Addr} {n : Nat} {v : V} {d : Hd} (h : HdAt H v d) (b : But t H H') (hT : Tp H t n) : HdAt H' v d := by
  obtain ⟨x, y, w, hT, _, _⟩ := hT
  obtain ⟨a, p, f, r, l, e, h1, h2, h3, h4, h5⟩ := h
  exact ⟨a, p, f, r, l, e, b _ _ h1 (ne_of h1 hT (fun z => by cases z)), b _ _ h2 (ne_of h2 hT (fun z => by cases z)), b _ _ h3 (ne_of h3 hT (fun z => by cases z)), b _ _ h4 (ne_of h4 hT (fun z => by cases z)), b _ _ h5 (ne_of h5 hT (fun z => strs_ne_ints z.symm))⟩
/-- the names drawn are others each -/
theorem fresh_nodup {f : Nat} {xs : List Str} (h : Fresh f xs) (hl : xs.length ≤ 8) : xs.Nodup := by
  unfold List.Nodup
  rw [List.pairwise_iff_getElem] <;> skip
  intro i j hi hj hij e
  have a := (h i xs[i] (List.getElem?_eq_getElem hi)).1
  have b := (h j xs[i] (e ▸ List.getElem?_eq_getElem hj)).1
  have := a.head b
  omega
theorem fresh_na {f : Nat} {xs : List Str} (h : Fresh f xs) {x : Str} (hx : x ∈ xs) : Na x := by
  obtain ⟨i, hi, e⟩ := List.getElem_of_mem hx
  have := h i x (by rw [List.getElem?_eq_getElem hi, e])
  exact ⟨⟨_, Nat.mod_lt _ (by decide), this.1⟩, this.2⟩
theorem Na.cn {x : Str} (h : Na x) : Cn x := let ⟨⟨_, a, b⟩, _⟩ := h; b.cn a
theorem Na.ok {x : Str} (h : Na x) : TxOk x := let ⟨⟨_, a, b⟩, _⟩ := h; b.ok a
section
variable {P : Program} {w : World} {K : PySem.W.Frag} {mg : Str → Option Value} {base : Heap}
abbrev s_law_head : Stmt := topS 20
def spHead : Sp := fun vs H Q _ => ∃ (t : Addr) (n : Nat) (x : Str), vs = [.ref t, .str x] ∧ Tp H t n ∧ n < 800000 ∧
  ∀ (d : Hd) (v : V) (H' : Hp), d.name = x → HdOk d → HdAt H' v d → Tp H' t (n + 150) → But t H H' → Q v H'
theorem scH : FnScope ["tape", "name", "names", "plain", "fingers", "rows", "params", "every"] ["tape", "name"] (defScope s_law_head) := ⟨rfl, rfl, rfl, by decide +kernel, rfl, by decide +kernel, by decide +kernel⟩
/-- a piece of seven names -/
theorem cut7 {xs : List Str} (hl : xs.length = 7) {lo hi : Option Int} {a k : Nat} (h1 : HT.sIx 7 0 lo = a) (h2 : HT.sIx 7 7 hi = a + k) : cutV (xs.map V.str) lo hi = ((xs.drop a).take k).map V.str := by
  unfold cutV
  rw [List.length_map, hl, h1, h2, Nat.add_sub_cancel_left, List.map_take, List.map_drop]
theorem parts_sub {xs : List Str} {a b c : Nat} (ha : a ≤ 3) (hb : b ≤ 2) : List.Sublist ((xs.take a) ++ ((xs.drop 3).take b) ++ ((xs.drop 5).take c)) xs := by
  have e : xs = xs.take 3 ++ (xs.drop 3).take 2 ++ xs.drop 5 := by
    have e1 : xs.drop 5 = (xs.drop 3).drop 2 := by rw [List.drop_drop]
    rw [e1, List.append_assoc, List.take_append_drop, List.take_append_drop]
  refine (List.Sublist.append (List.Sublist.append ?_ ?_) (List.take_sublist _ _)).trans (by rw [← e]; exact List.Sublist.refl _)
  · rw [show xs.take a = (xs.take 3).take a by rw [List.take_take, Nat.min_eq_left ha]]
    exact List.take_sublist _ _
  · rw [show (xs.drop 3).take b = ((xs.drop 3).take 2).take b by rw [List.take_take, Nat.min_eq_left hb]]
    exact List.take_sublist _ _
end
end K

set_option maxRecDepth 100000
set_option maxHeartbeats 3900000
namespace K
open PySem PySem.Spec PyProof.Rows L2
theorem perm_erase {α : Type} : ∀ {l : List α} {i : Nat} {y : α}, l[i]? = some y → ([y] ++ l.eraseIdx i).Perm l
  | [], i, y, h => by cases h
  | a :: r, 0, y, h => by
    cases h
    exact .refl _
  | a :: r, i + 1, y, h => (List.Perm.swap a y _).trans ((perm_erase (l := r) h).cons a)
theorem map_erase {α β : Type} {f : α → β} : ∀ {l : List α} {i : Nat}, (l.map f).eraseIdx i = (l.eraseIdx i).map f
  | [], _ => rfl
  | _ :: _, 0 => rfl
  | a :: r, i + 1 => congrArg (f a :: ·) (map_erase (l := r) (i := i))
section
variable {P : Program} {w : World} {K : PySem.W.Frag} {mg : Str → Option Value} {base : Heap}
theorem ok_head (B : Bs mg) (c_draw : C8.Cal P w K mg base 1 "_law_draw" spDraw []) (c_fresh : C8.Cal P w K mg base 2 "_law_fresh" spFresh []) {f : Addr} {fd : FuncData} (F : Fun K "_law_head" "_law_head" s_law_head f fd) : FnOk P w K mg base CX0 3 f fd ["tape", "name"] spHead := by
  refine F.ok scH (fun vs H Q E h => ?_) (fun cdv A outer s H vs Q E hr h => ?_)
  · obtain ⟨t, n, x, rfl, _⟩ := h
    rfl
  · obtain ⟨t, n, x, rfl, hT, hn, q⟩ := h
    refine ⟨_, (pss_cons (ps_set (i := 2) scH.nd rfl (.inl rfl) (C8.pe_c c_fresh hr (by decide) (by rfl) (pa_cons (pv 0) (pa_cons pe_int pa_nil))))
      (pss_cons (ps_set (i := 3) scH.nd rfl (.inl rfl) (pe_slice sl_list (pv 2) po_none (po_some (pe_op op_add pe_int (C8.pe_c c_draw hr (by decide) (by rfl) (pa_cons (pv 0) (pa_cons pe_int pa_nil)))))))
      (pss_cons (ps_set (i := 4) scH.nd rfl (.inl rfl) (pe_callB cr_sortedS (by rfl) B.sorted PyProof.Rows.boot_sorted (pa_cons (pe_slice sl_list (pv 2) (po_some pe_int) (po_some (pe_op op_add pe_int (C8.pe_c c_draw hr (by decide) (by rfl) (pa_cons (pv 0) (pa_cons pe_int pa_nil)))))) pa_nil)))
      (pss_cons (ps_set (i := 5) scH.nd rfl (.inl rfl) (pe_callB cr_sortedS (by rfl) B.sorted PyProof.Rows.boot_sorted (pa_cons (pe_slice sl_list (pv 2) (po_some pe_int) (po_some (pe_op op_add pe_int (C8.pe_c c_draw hr (by decide) (by rfl) (pa_cons (pv 0) (pa_cons pe_int pa_nil)))))) pa_nil)))
      (pss_cons (ps_set (i := 6) scH.nd rfl (.inl rfl) (pe_lst pa_nil))
      (pss_cons (ps_set (i := 7) scH.nd rfl (.inl rfl) (pe_op op_cat (pe_op op_cat (pv 3) (pv 4)) (pv 5)))
      (C8.pss_cut (ps_while PassesOwn.never (PW.pt (pw_and (pt_cmpR op_ne (pv 1) pe_str (nomark _)) (pw_and (pt_cmpR (op_neD hr.units) (pv 7) (pe_lst pa_nil) (nomark _)) (pw_and1 (pt_cmpR op_gt (C8.pe_c c_draw hr (by decide) (by rfl) (pa_cons (pv 0) (pa_cons pe_int pa_nil))) pe_int (nomark _)))))) (pss_one (ps_expr (pe_bm PySem.F.plainAttrs_list PySem.F.slot_list_append PySem.F.type_list_append mt_append (pv 6) (pa_cons (pe_bm PySem.F.plainAttrs_list PySem.F.slot_list_pop PySem.F.type_list_pop mt_popAt (pv 7) (pa_cons (C8.pe_c c_draw hr (by decide) (by rfl) (pa_cons (pv 0) (pa_cons (pe_callB call_len_seq (by rfl) B.len PySem.boot_len (pa_cons (pv 7) pa_nil)) pa_nil))) pa_nil)) pa_nil)))))
      (pss_one (ps_ret (pe_tup (pa_cons (pv 1) (pa_cons (pe_tupleOf (by rfl) B.tuple (pv 6)) (pa_cons (pe_tupleOf (by rfl) B.tuple (pv 4)) (pa_cons (pe_tupleOf (by rfl) B.tuple (pv 5)) (pa_cons (pv 3) pa_nil))))))))))))))), ?_⟩
    refine ⟨_, rfl, t, n, 7, rfl, by decide, hT, by omega, fun ln xs fi G0 nl hl hlen hfr hT0 b0 => ?_⟩
    -- plain
    refine ⟨_, rfl, _, rfl, t, _, 3, rfl, hT0, by omega, by decide, by decide, fun r1 G1 r10 r11 hT1 b1 => ?_⟩
    have lt := hT.ne nl
    have hl1 := b1 _ _ hl lt
    refine ⟨_, _, rfl, rfl, _, rfl, ln, _, rfl, SqL.of hl1, fun lp np => ?_⟩
    obtain ⟨k1, hk1, e1⟩ : ∃ k1 : Nat, k1 ≤ 3 ∧ 1 ≤ k1 ∧ 1 + r1 = (k1 : Int) := ⟨(1 + r1).toNat, by omega, by omega, by omega⟩
    rw [e1.2, cut7 hlen (a := 0) (k := k1) rfl (by rw [HT.sIx_nat]; omega)]
    obtain ⟨plain, epl⟩ : ∃ plain, plain = (xs.drop 0).take k1 := ⟨_, rfl⟩
    rw [← epl]
    obtain ⟨G2, eG2⟩ : ∃ G2, G2 = upd G1 lp (.lst (plain.map V.str)) := ⟨_, rfl⟩
    have s2 : Same G1 G2 := eG2 ▸ same_new np
    have hlp : G2 lp = some (.lst (plain.map V.str)) := by rw [eG2]; exact upd_same
    dsimp only [gName]
    rw [← eG2]
    have hT2 := hT1.same s2
    have npl : H lp = none := (b0.trans b1).back hT1 np
    -- fingers
    refine ⟨_, rfl, _, rfl, _, rfl, t, _, 3, rfl, hT2, by omega, by decide, by decide, fun r3 G3 r30 r31 hT3 b3 => ?_⟩
    refine ⟨_, _, rfl, rfl, _, rfl, ln, _, rfl, SqL.of (b3 _ _ (s2 _ _ hl1) lt), fun l4 n4 => ?_⟩
    obtain ⟨k2, hk2, e2⟩ : ∃ k2 : Nat, k2 ≤ 2 ∧ 3 + r3 = ((3 + k2 : Nat) : Int) := ⟨r3.toNat, by omega, by omega⟩
    rw [e2, cut7 hlen (a := 3) (k := k2) rfl (by rw [HT.sIx_nat]; omega)]
    refine ⟨l4, (xs.drop 3).take k2, rfl, SqL.of upd_same, Nat.lt_of_le_of_lt (List.length_take_le _ _) (by omega), fun fingers lf pf sf nf => ?_⟩
    obtain ⟨G4, eG4⟩ : ∃ G4, G4 = upd (upd G3 l4 (.lst (((xs.drop 3).take k2).map V.str))) lf (.lst (fingers.map V.str)) := ⟨_, rfl⟩
    have s4 : Same G3 G4 := eG4 ▸ (same_new n4).trans (same_new nf)
    have hlf : G4 lf = some (.lst (fingers.map V.str)) := by rw [eG4]; exact upd_same
    dsimp only [gName]
    rw [← eG4]
    have hT4 := hT3.same s4
    -- rows
    refine ⟨_, rfl, _, rfl, _, rfl, t, _, 3, rfl, hT4, by omega, by decide, by decide, fun r5 G5 r50 r51 hT5 b5 => ?_⟩
    refine ⟨_, _, rfl, rfl, _, rfl, ln, _, rfl, SqL.of (b5 _ _ (s4 _ _ (b3 _ _ (s2 _ _ hl1) lt)) lt), fun l6 n6 => ?_⟩
    obtain ⟨k3, hk3, e3⟩ : ∃ k3 : Nat, k3 ≤ 2 ∧ 5 + r5 = ((5 + k3 : Nat) : Int) := ⟨r5.toNat, by omega, by omega⟩
    rw [e3, cut7 hlen (a := 5) (k := k3) rfl (by rw [HT.sIx_nat]; omega)]
    refine ⟨l6, (xs.drop 5).take k3, rfl, SqL.of upd_same, Nat.lt_of_le_of_lt (List.length_take_le _ _) (by omega), fun rows lr pr sr nr => ?_⟩
    obtain ⟨G6, eG6⟩ : ∃ G6, G6 = upd (upd G5 l6 (.lst (((xs.drop 5).take k3).map V.str))) lr (.lst (rows.map V.str)) := ⟨_, rfl⟩
    have s6 : Same G5 G6 := eG6 ▸ (same_new n6).trans (same_new nr)
    have hlr : G6 lr = some (.lst (rows.map V.str)) := by rw [eG6]; exact upd_same
    dsimp only [gName]
    rw [← eG6]
    have hT6 := hT5.same s6
    -- params, every
    refine ⟨(by show 0 ≤ sizeLine; decide), fun pp np6 => ?_⟩
    obtain ⟨G7, eG7⟩ : ∃ G7, G7 = upd G6 pp (.lst []) := ⟨_, rfl⟩
    have s7 : Same G6 G7 := eG7 ▸ same_new np6
    have hpp : G7 pp = some (.lst []) := by rw [eG7]; exact upd_same
    dsimp only [gName]
    rw [← eG7]
    have hT7 := hT6.same s7
    have bb : But t H G7 := ((((((((b0.trans b1).trans (.of s2)).trans b3).trans (.of s4)).trans b5).trans (.of s6)).trans (.of s7)))
    have pl1 : 1 ≤ plain.length ∧ plain.length ≤ 3 := by
      rw [epl, List.drop_zero, List.length_take, hlen]
      omega
    have fl1 : fingers.length ≤ 2 := by
      rw [pf.length_eq, List.length_take]
      omega
    have rl1 : rows.length ≤ 2 := by
      rw [pr.length_eq, List.length_take]
      omega
    have tl := fun {a : Addr} {zs : List Str} {G : Hp} {k : Nat} (hT : Tp G t k) (h : G a = some (.lst (zs.map V.str))) => (show a ≠ t from by
      obtain ⟨_, _, _, e, _⟩ := hT
      exact ne_of h e (fun z => strs_ne_ints z.symm))
    have lpt := tl hT2 hlp
    have lft := tl hT4 hlf
    have lrt := tl hT6 hlr
    have hlp7 := s7 _ _ (s6 _ _ (b5 _ _ (s4 _ _ (b3 _ _ hlp lpt)) lpt))
    have hlf7 := s7 _ _ (s6 _ _ (b5 _ _ hlf lft))
    have hlr7 := s7 _ _ hlr
    refine ⟨_, rfl, _, rfl, lp, lf, _, _, rfl, rfl, hlp7, hlf7, by rw [List.length_map, List.length_map]; exact Nat.le_trans (show plain.length + fingers.length ≤ 5 by omega) (by decide), fun p8 n8 => ?_⟩
    refine ⟨_, rfl, p8, lr, _, _, rfl, rfl, upd_same, same_new n8 _ _ hlr7, by rw [List.length_append, List.length_map, List.length_map, List.length_map]; exact Nat.le_trans (show plain.length + fingers.length + rows.length ≤ 7 by omega) (by decide), fun pe n9 => ?_⟩
    obtain ⟨G9, eG9⟩ : ∃ G9, G9 = upd (upd G7 p8 (.lst (plain.map V.str ++ fingers.map V.str))) pe (.lst ((plain.map V.str ++ fingers.map V.str) ++ rows.map V.str)) := ⟨_, rfl⟩
    have s9 : Same G7 G9 := eG9 ▸ (same_new n8).trans (same_new n9)
    obtain ⟨all, eall⟩ : ∃ all, all = plain ++ fingers ++ rows := ⟨_, rfl⟩
    have hpe : G9 pe = some (.lst (all.map V.str)) := by rw [eG9, eall, List.map_append, List.map_append]; exact upd_same
    have all7 : all.length ≤ 7 := by
      rw [eall, List.length_append, List.length_append]
      omega
    have hsub : all.Perm (plain ++ (xs.drop 3).take k2 ++ (xs.drop 5).take k3) := eall ▸ (pf.append_left plain).append pr
    have hsl : List.Sublist (plain ++ (xs.drop 3).take k2 ++ (xs.drop 5).take k3) xs := by
      rw [epl, List.drop_zero]
      exact parts_sub hk1 hk2
    have hnd : all.Nodup := hsub.nodup_iff.mpr (hsl.nodup (fresh_nodup hfr (by omega)))
    have hna : ∀ y ∈ all, Na y := fun y hy => fresh_na hfr (hsl.mem (hsub.mem_iff.mp hy))
    have hT9 := hT7.same s9
    have bb9 : But t H G9 := bb.trans (.of s9)
    have pet : pe ≠ t := tl hT9 hpe
    have ppt : pp ≠ t := tl (zs := []) hT7 hpp
    have npe : H pe = none := (bb.trans (.of (same_new n8))).back (hT7.new n8) n9
    have npp : H pp = none := by
      refine But.back (((((((b0.trans b1).trans (.of s2)).trans b3).trans (.of s4)).trans b5).trans (.of s6))) hT6 np6
    have ppe : pp ≠ pe := ne_of_none (same_new n8 _ _ hpp) n9
    have lpe : lp ≠ pe := ne_of_none (same_new n8 _ _ hlp7) n9
    have lfe : lf ≠ pe := ne_of_none (same_new n8 _ _ hlf7) n9
    have lre : lr ≠ pe := ne_of_none (same_new n8 _ _ hlr7) n9
    have lpp : lp ≠ pp := ne_of_none (s6 _ _ (b5 _ _ (s4 _ _ (b3 _ _ hlp lpt)) lpt)) np6
    have lfp : lf ≠ pp := ne_of_none (s6 _ _ (b5 _ _ hlf lft)) np6
    have lrp : lr ≠ pp := ne_of_none hlr np6
    have hlp9 := s9 _ _ hlp7
    have hlf9 := s9 _ _ hlf7
    have hlr9 := s9 _ _ hlr7
    have hpp9 := s9 _ _ hpp
    dsimp only [gName]
    rw [← eG9]
    clear eG9 eG7 eG6 eG4 eG2
    -- the while
    have pX := hr.units
    refine ⟨fun σ G => σ = [some (.ref t), some (.str x), some (.ref ln), some (.ref lp), some (.ref lf), some (.ref lr), some (.ref pp), some (.ref pe)] ∧ But t H G ∧ Tp G t (n + 130) ∧ G lp = some (.lst (plain.map V.str)) ∧ G lf = some (.lst (fingers.map V.str)) ∧ G lr = some (.lst (rows.map V.str)) ∧
      ∃ ps : List Str, G pp = some (.lst (ps.map V.str)) ∧ ps.Nodup ∧ (∀ y ∈ ps, y ∈ all) ∧ (x = "main" → ps = []), ?_, ?_⟩
    · refine ⟨fun m σ G => σ = [some (.ref t), some (.str x), some (.ref ln), some (.ref lp), some (.ref lf), some (.ref lr), some (.ref pp), some (.ref pe)] ∧ But t H G ∧ m ≤ 7 ∧ Tp G t (n + 110 + 2 * (7 - m)) ∧ G lp = some (.lst (plain.map V.str)) ∧ G lf = some (.lst (fingers.map V.str)) ∧ G lr = some (.lst (rows.map V.str)) ∧
        ∃ ev ps : List Str, G pe = some (.lst (ev.map V.str)) ∧ G pp = some (.lst (ps.map V.str)) ∧ ev.length = m ∧ (ps ++ ev).Perm all ∧ (x = "main" → ps = []), ⟨all.length, rfl, bb9, all7, hT9.mono (by omega), hlp9, hlf9, hlr9, all, [], hpe, hpp9, rfl, .refl _, fun _ => rfl⟩, ?_⟩
      rintro m σ G ⟨rfl, b, hm, hTw, glp, glf, glr, ev, ps, gev, gps, hev, hperm, hmn⟩
      have pnd : (ps ++ ev).Nodup := hperm.nodup_iff.mpr hnd
      have psa : ∀ y ∈ ps, y ∈ all := fun y hy => hperm.mem_iff.mp (List.mem_append_left _ hy)
      have eva : ∀ y ∈ ev, y ∈ all := fun y hy => hperm.mem_iff.mp (List.mem_append_right _ hy)
      have psn : ps.Nodup := (List.nodup_append.mp pnd).1
      refine ⟨_, rfl, rfl, _, rfl, ?_⟩
      refine ite2 (fun hx => ?_) (fun hx => ?_)
      · have hx' : x ≠ "main" := fun e => by
          subst e
          exact absurd hx (by decide)
        refine ⟨_, rfl, (by show 0 ≤ sizeLine; decide), fun p hp => ?_⟩
        have gev' := same_new (o := .lst []) hp _ _ gev
        refine ⟨.list (ev.map .str), .list [], .lst (SqL.of gev') (dp_strs ev), .lst (SqL.of upd_same) .nil, shaped_strs (fun y hy => (hna y (eva y hy)).ok), rfl, _, rfl, ?_⟩
        have b' := b.trans (.new hp (o := .lst []))
        have hTw' := hTw.new hp (o := .lst [])
        have glp' := same_new (o := .lst []) hp _ _ glp
        have glf' := same_new (o := .lst []) hp _ _ glf
        have glr' := same_new (o := .lst []) hp _ _ glr
        have gps' := same_new (o := .lst []) hp _ _ gps
        revert gev' b' hTw' glp' glf' glr' gps'
        generalize (upd G p (.lst [])) = G'
        intro gev' b' hTw' glp' glf' glr' gps'
        refine ite2 (fun hne => ?_) (fun hne => ?_)
        · have hne' : 0 < ev.length := by
            cases ev with
            | nil => exact absurd hne (by decide)
            | cons y r => simp
          refine ⟨_, rfl, t, _, 3, rfl, hTw', by omega, by decide, by decide, fun r0 K0 r00 r01 hTk bk => ?_⟩
          have kev := bk _ _ gev' pet
          have kps := bk _ _ gps' ppt
          refine ⟨_, _, rfl, rfl, _, rfl, ?_⟩
          refine ite2 (fun h0 => ?_) (fun h0 => ?_)
          · refine ⟨_, fun _ _ h => h, ?_⟩
            refine ⟨_, rfl, .inl ⟨rfl, _, SqL.of kps⟩, _, rfl, .inl ⟨rfl, _, SqL.of kev⟩, _, rfl, _, rfl, _, _, rfl, .inl (SqL.of kev), t, _, _, rfl, hTk, by omega, by rw [List.length_map]; omega, by rw [List.length_map]; omega, fun r1 K1 r10 r11 hTk1 bk1 => ?_⟩
            rw [List.length_map] at r11
            have kev1 := bk1 _ _ kev pet
            have kps1 := bk1 _ _ kps ppt
            have hi : r1.toNat < ev.length := by omega
            obtain ⟨y, hy⟩ : ∃ y, ev[r1.toNat]? = some y := ⟨_, List.getElem?_eq_getElem hi⟩
            refine ⟨pe, _, r1, r1.toNat, .str y, rfl, rfl, kev1, by omega, by omega, ?_, by rw [List.getElem?_map, hy]; rfl, ?_⟩
            · unfold PySem.seqIndex?
              rw [List.length_map]
              simp only [show ¬ r1 < 0 by omega, if_false]
              rw [if_pos (by simp; omega)]
            refine ⟨pp, ps.map V.str, _, rfl, rfl, ?_, ?_, ?_⟩
            · rw [upd_ne ppe]
              exact kps1
            · rw [List.length_map]
              have := hperm.length_eq
              rw [List.length_append] at this
              exact Nat.lt_of_le_of_lt (show ps.length ≤ 7 by omega) (by decide)
            · have pm : (ps ++ [y] ++ ev.eraseIdx r1.toNat).Perm (ps ++ ev) := by
                rw [List.append_assoc]
                refine List.Perm.append_left _
                    ?_
                exact perm_erase hy
              refine ⟨m - 1, by omega, rfl, ?_, by omega, ?_, ?_, ?_, ?_, ev.eraseIdx r1.toNat, ps ++ [y], ?_, ?_, by rw [List.length_eraseIdx_of_lt hi, hev], pm.trans hperm, fun e => absurd e hx'⟩
              · exact ((b'.trans (bk.trans bk1)).put npe).put npp
              · exact ((hTk1.at .set pet.symm).at .set ppt.symm).mono (by omega)
              · rw [upd_ne lpp, upd_ne lpe]
                exact bk1 _ _ (bk _ _ glp' lpt) lpt
              · rw [upd_ne lfp, upd_ne lfe]
                exact bk1 _ _ (bk _ _ glf' lft) lft
              · rw [upd_ne lrp, upd_ne lre]
                exact bk1 _ _ (bk _ _ glr' lrt) lrt
              · rw [upd_ne ppe.symm, upd_same, map_erase]
              · rw [upd_same, List.map_append]
                rfl
          · exact ⟨rfl, b'.trans bk, hTk.mono (by omega), bk _ _ glp' lpt, bk _ _ glf' lft, bk _ _ glr' lrt, ps, kps, psn, psa, hmn⟩
        · refine iteF ?_
          exact ⟨rfl, b', hTw'.mono (by omega), glp', glf', glr', ps, gps', psn, psa, hmn⟩
      · refine iteF ?_
        exact ⟨rfl, b, hTw.mono (by omega), glp, glf, glr, ps, gps, psn, psa, hmn⟩
    · rintro σ G ⟨rfl, b, hTw, glp, glf, glr, ps, gps, psn, psa, hmn⟩
      refine ⟨_, rfl, _, rfl, .inl ⟨pp, _, rfl, SqL.of gps, fun q1 n1 => ?_⟩⟩
      refine ⟨_, rfl, .inl ⟨lf, _, rfl, SqL.of (same_new n1 _ _ glf), fun q2 n2 => ?_⟩⟩
      have glr2 := same_new (o := .tup (fingers.map V.str)) n2 _ _ (same_new (o := .tup (ps.map V.str)) n1 _ _ glr)
      refine ⟨_, rfl, .inl ⟨lr, _, rfl, SqL.of glr2, fun q3 n3 => ?_⟩⟩
      refine ⟨_, rfl, (by show 5 ≤ sizeLine; decide), fun q4 n4 => ?_⟩
      obtain ⟨G1, e1⟩ : ∃ G1, G1 = upd G q1 (.tup (ps.map V.str)) := ⟨_, rfl⟩
      rw [← e1] at n2 n3 n4 ⊢
      obtain ⟨G2, e2⟩ : ∃ G2, G2 = upd G1 q2 (.tup (fingers.map V.str)) := ⟨_, rfl⟩
      rw [← e2] at n3 n4 ⊢
      obtain ⟨G3, e3⟩ : ∃ G3, G3 = upd G2 q3 (.tup (rows.map V.str)) := ⟨_, rfl⟩
      rw [← e3] at n4 ⊢
      have s1 : Same G G1 := e1 ▸ same_new n1
      have s2 : Same G1 G2 := e2 ▸ same_new n2
      have s3 : Same G2 G3 := e3 ▸ same_new n3
      have h1 : G1 q1 = some (.tup (ps.map V.str)) := by rw [e1]; exact upd_same
      have h2 : G2 q2 = some (.tup (fingers.map V.str)) := by rw [e2]; exact upd_same
      have h3 : G3 q3 = some (.tup (rows.map V.str)) := by rw [e3]; exact upd_same
      have s4 := same_new (o := .tup [.str x, .ref q1, .ref q2, .ref q3, .ref lp]) n4
      have ea : Hd.all ⟨x, ps, fingers, rows, plain⟩ = all := eall.symm
      refine q ⟨x, ps, fingers, rows, plain⟩ _ _ rfl ⟨pl1, fl1, rl1, by rw [ea]; exact hnd, by rw [ea]; exact hna, psn, by rw [ea]; exact psa, hmn, sf, sr⟩ ⟨q4, q1, q2, q3, lp, rfl, upd_same, s4 _ _ (s3 _ _ (s2 _ _ h1)), s4 _ _ (s3 _ _ h2), s4 _ _ h3, s4 _ _ (s3 _ _ (s2 _ _ (s1 _ _ glp)))⟩ ((((hTw.same s1).same s2).same s3).same s4 |>.mono (by omega)) (b.trans (.of (((s1.trans s2).trans s3).trans s4)))
end
end K

set_option maxRecDepth 100000
set_option maxHeartbeats 3900000
namespace K
open PySem PySem.Spec PyProof.Rows L2
/-! ### the kinds of the parts, by the act's word -/
def kTab : List (Str × List Str) := [("set", ["number", "word"]), ("add", ["number", "number", "word"]), ("plus", ["plain", "plain", "plain"]), ("minus", ["plain", "plain", "plain"]), ("times", ["plain", "plain", "plain"]), ("over", ["plain", "plain", "plain"]), ("rest", ["plain", "plain", "plain"]), ("mid", ["number", "number", "number"]), ("row", ["row", "number"]), ("get", ["plain", "row", "number"]), ("put", ["row", "number", "number"]), ("length", ["number", "row"]), ("ask", ["plain", "word", "word"]), ("tell", ["number"]), ("check", ["side", "sign", "side"]), ("if", ["side", "sign", "side", "label"]), ("go", ["label"]), ("call", ["plain", "def", "names"]), ("back", ["number"])]
def kindsOf (w : Str) : Option (List Str) := kTab.lookup w
/-- lists stay as they are -/
def LK (H H' : Hp) : Prop := ∀ l xs, H l = some (HO.lst xs) → H' l = some (.lst xs)
theorem lk_same {H H' : Hp} (s : Same H H') : LK H H' := fun l xs e => s l _ e
theorem lk_dict {H : Hp} {d : Addr} {ks : List (Key × V)} {o : HO} (h : H d = some (.dK ks)) : LK H (upd H d o) := fun l xs e => by
  rw [upd_ne (ne_of e h (fun z => by cases z))]
  exact e
theorem none_of {H H' : Hp} {p : Addr} (s : Same H H') (h : H' p = none) : H p = none := by
  cases e : H p with
  | none => rfl
  | some o =>
    rw [s p o e] at h
    cases h
theorem same_put {H H' : Hp} {p : Addr} {o : HO} (s : Same H H') (h : H p = none) : Same H (upd H' p o) := fun b u e => by
  rw [upd_ne (ne_of_none e h)]
  exact s b u e
theorem putK_new {ks : List (Key × V)} {k : Key} {v : V} (h : k ∉ ks.map (·.1)) : putK ks k v = ks ++ [(k, v)] := by
  unfold putK
  rw [if_neg]
  intro e
  obtain ⟨p, hp, e⟩ := List.any_eq_true.mp e
  refine h ?_
  exact List.mem_map.mpr ⟨p, hp, of_decide_eq_true e⟩
theorem merge_new : ∀ {ls ks : List (Key × V)}, ((ks ++ ls).map (·.1)).Nodup → mergeK ks ls = ks ++ ls
  | [], ks, _ => (List.append_nil ks).symm
  | p :: r, ks, h => by
    show mergeK (putK ks p.1 p.2) r = _
    have h' := h
    rw [List.map_append, List.map_cons] at h'
    rw [putK_new (fun m => (List.nodup_append.mp h').2.2 _ m _ List.mem_cons_self rfl), merge_new (by rw [List.append_assoc]; exact h), List.append_assoc]
    rfl
def KE (H : Hp) (kv : Key × V) (e : Str × List Str) : Prop := kv.1 = .inr e.1 ∧ ∃ l, kv.2 = .ref l ∧ H l = some (.lst (e.2.map V.str))
theorem tab_val {H : Hp} : ∀ {kvs : List (Key × V)} {tab : List (Str × List Str)}, Paired (KE H) kvs tab → ∀ {w : Str} {ks : List Str}, tab.lookup w = some ks → ∃ l, valV kvs (.inr w) = some (.ref l) ∧ H l = some (.lst (ks.map V.str))
  | _, _, .nil, w, ks, h => by cases h
  | (k, v) :: kvs, (x, xs) :: tab, .cons ⟨e, l, el, hl⟩ r, w, ks, h => by
    have e : k = .inr x := e
    have el : v = .ref l := el
    subst e el
    rw [List.lookup_cons] at h
    cases hb : (w == x) with
    | true =>
      rw [hb] at h
      cases h
      have := eq_of_beq hb
      subst this
      exact ⟨l, valV_pos rfl, hl⟩
    | false =>
      rw [hb] at h
      obtain ⟨l', h1, h2⟩ := tab_val r h
      refine ⟨l', ?_, h2⟩
      have ne : ¬ ((Sum.inr x : Key) = .inr w) := fun z => by
        injection z with z
        rw [z] at hb
        simp at hb
      unfold valV at h1 ⊢
      rw [List.find?_cons, show decide (((Sum.inr x : Key), V.ref l).1 = .inr w) = false from decide_eq_false ne]
      exact h1
section
variable {P : Program} {w : World} {K : PySem.W.Frag} {mg : Str → Option Value} {base : Heap}
abbrev s_law_kinds : Stmt := topS 18
def spKinds : Sp := fun vs H Q _ => ∃ (v : V) (wd : Str) (ds : List PyData) (ks : List Str), vs = [v] ∧ Im H (.tuple (.str wd :: ds)) v ∧ PySem.SeqAt.shaped (.tuple (.str wd :: ds)) = true ∧ kindsOf wd = some ks ∧
  ∀ (l : Addr) (H' : Hp), Same H H' → H' l = some (.lst (ks.map V.str)) → Q (.ref l) H'
theorem scK : FnScope ["act", "three", "test", "kinds"] ["act"] (defScope s_law_kinds) := ⟨rfl, rfl, rfl, by decide +kernel, rfl, by decide +kernel, by decide +kernel⟩
theorem ok_kinds (B : Bs mg) {f : Addr} {fd : FuncData} (F : Fun K "_law_kinds" "_law_kinds" s_law_kinds f fd) : FnOk P w K mg base CX0 1 f fd ["act"] spKinds := by
  refine F.ok scK (fun vs H Q E h => ?_) (fun cdv A outer s H vs Q E hr h => ?_)
  · obtain ⟨v, wd, ds, ks, rfl, _⟩ := h
    rfl
  · obtain ⟨v, wd, ds, ks, rfl, hv, hsh, hk, q⟩ := h
    refine ⟨_, (pss_cons (ps_set (i := 1) scK.nd rfl (.inl rfl) (pe_lst (pa_cons pe_str (pa_cons pe_str (pa_cons pe_str pa_nil)))))
      (pss_cons (ps_set (i := 2) scK.nd rfl (.inl rfl) (pe_lst (pa_cons pe_str (pa_cons pe_str (pa_cons pe_str pa_nil)))))
      (pss_cons (ps_set (i := 3) scK.nd rfl (.inl rfl) (pe_disp (pps_cons pe_str (pe_lst (pa_cons pe_str (pa_cons pe_str pa_nil))) (pps_cons pe_str (pe_lst (pa_cons pe_str (pa_cons pe_str (pa_cons pe_str pa_nil)))) (pps_cons pe_str (pv 1) (pps_cons pe_str (pv 1) pps_nil)))) rfl rfl (by decide) (by decide)))
      (pss_cons (ps_expr (pe_bm PySem.F.plainAttrs_dict PySem.F.slot_dict_update PySem.F.type_dict_update Zm.mt_update (pv 3) (pa_cons (pe_disp (pps_cons pe_str (pv 1) (pps_cons pe_str (pv 1) (pps_cons pe_str (pv 1) (pps_cons pe_str (pe_lst (pa_cons pe_str (pa_cons pe_str (pa_cons pe_str pa_nil)))) pps_nil)))) rfl rfl (by decide) (by decide)) pa_nil)))
      (pss_cons (ps_expr (pe_bm PySem.F.plainAttrs_dict PySem.F.slot_dict_update PySem.F.type_dict_update Zm.mt_update (pv 3) (pa_cons (pe_disp (pps_cons pe_str (pe_lst (pa_cons pe_str (pa_cons pe_str pa_nil))) (pps_cons pe_str (pe_lst (pa_cons pe_str (pa_cons pe_str (pa_cons pe_str pa_nil)))) (pps_cons pe_str (pe_lst (pa_cons pe_str (pa_cons pe_str (pa_cons pe_str pa_nil)))) pps_nil))) rfl rfl (by decide) (by decide)) pa_nil)))
      (pss_cons (ps_expr (pe_bm PySem.F.plainAttrs_dict PySem.F.slot_dict_update PySem.F.type_dict_update Zm.mt_update (pv 3) (pa_cons (pe_disp (pps_cons pe_str (pe_lst (pa_cons pe_str (pa_cons pe_str pa_nil))) (pps_cons pe_str (pe_lst (pa_cons pe_str (pa_cons pe_str (pa_cons pe_str pa_nil)))) (pps_cons pe_str (pe_lst (pa_cons pe_str pa_nil)) (pps_cons pe_str (pv 2) pps_nil)))) rfl rfl (by decide) (by decide)) pa_nil)))
      (pss_cons (ps_expr (pe_bm PySem.F.plainAttrs_dict PySem.F.slot_dict_update PySem.F.type_dict_update Zm.mt_update (pv 3) (pa_cons (pe_disp (pps_cons pe_str (pe_op op_cat (pv 2) (pe_lst (pa_cons pe_str pa_nil))) (pps_cons pe_str (pe_lst (pa_cons pe_str pa_nil)) (pps_cons pe_str (pe_lst (pa_cons pe_str (pa_cons pe_str (pa_cons pe_str pa_nil)))) (pps_cons pe_str (pe_lst (pa_cons pe_str pa_nil)) pps_nil)))) rfl rfl (by decide) (by decide)) pa_nil)))
      (pss_cons (ps_if (PW.pt (pw_or (pt_not (pt_val (pe_callB call_isi (by rfl) B.isinstance boot_isinstance (pa_cons (pv 0) (pa_cons (pe_bltn (v := .ty "tuple") (by rfl) B.tuple (by decide +kernel) rfl) pa_nil))))) (pw_or (pt_cmpR (op_eqD hr.units) (pv 0) (pe_tup pa_nil) (nomark _)) (pw_or1 (pt_not (pt_val (pe_callB call_isi (by rfl) B.isinstance boot_isinstance (pa_cons (pe_ix (ixT K rfl) (pv 0) pe_int (fun _ _ => rfl)) (pa_cons (pe_bltn (v := .ty "str") (by rfl) B.str (by decide +kernel) rfl) pa_nil))))))))) (pss_one (ps_ret pe_non)) pss_nil)
      (pss_one (ps_ret (pe_dget1 (hu_of hr) (pv 3) (pe_ix (ixT K rfl) (pv 0) pe_int (fun _ _ => rfl)) ⟨rfl, rfl, rfl, rfl⟩))))))))))), ?_⟩
    refine ⟨(by show 3 ≤ sizeLine; decide), fun l1 n1 => ?_⟩
    obtain ⟨G1, e1⟩ : ∃ G, G = upd H l1 (.lst [.str "plain", .str "plain", .str "plain"]) := ⟨_, rfl⟩
    dsimp only [gName]
    rw [← e1]
    have s1 : Same H G1 := e1 ▸ same_new n1
    have k1 : LK H G1 := lk_same s1
    have h1 : G1 l1 = some (.lst [.str "plain", .str "plain", .str "plain"]) := by rw [e1]; exact upd_same
    have S1 : Same H G1 := ((Same.refl H)).trans s1
    refine ⟨(by show 3 ≤ sizeLine; decide), fun l2 n2 => ?_⟩
    obtain ⟨G2, e2⟩ : ∃ G, G = upd G1 l2 (.lst [.str "side", .str "sign", .str "side"]) := ⟨_, rfl⟩
    dsimp only [gName]
    rw [← e2]
    have s2 : Same G1 G2 := e2 ▸ same_new n2
    have k2 : LK G1 G2 := lk_same s2
    have h2 : G2 l2 = some (.lst [.str "side", .str "sign", .str "side"]) := by rw [e2]; exact upd_same
    have S2 : Same H G2 := (S1).trans s2
    refine (fun p3 n3 => ?_)
    obtain ⟨G3, e3⟩ : ∃ G, G = upd G2 p3 (.dK []) := ⟨_, rfl⟩
    rw [← e3]
    have s3 : Same G2 G3 := e3 ▸ same_new n3
    have k3 : LK G2 G3 := lk_same s3
    have N3 : H p3 = none := none_of S2 n3
    have S3 : Same H G3 := (S2).trans s3
    have E3 : G3 p3 = some (.dK []) := by rw [e3]; exact upd_same
    refine ⟨(by show 2 ≤ sizeLine; decide), fun l4 n4 => ?_⟩
    obtain ⟨G4, e4⟩ : ∃ G, G = upd G3 l4 (.lst [.str "number", .str "word"]) := ⟨_, rfl⟩
    dsimp only [gName]
    rw [← e4]
    have s4 : Same G3 G4 := e4 ▸ same_new n4
    have k4 : LK G3 G4 := lk_same s4
    have h4 : G4 l4 = some (.lst [.str "number", .str "word"]) := by rw [e4]; exact upd_same
    have S4 : Same H G4 := (S3).trans s4
    refine ⟨(by show 3 ≤ sizeLine; decide), fun l5 n5 => ?_⟩
    obtain ⟨G5, e5⟩ : ∃ G, G = upd G4 l5 (.lst [.str "number", .str "number", .str "word"]) := ⟨_, rfl⟩
    dsimp only [gName]
    rw [← e5]
    have s5 : Same G4 G5 := e5 ▸ same_new n5
    have k5 : LK G4 G5 := lk_same s5
    have h5 : G5 l5 = some (.lst [.str "number", .str "number", .str "word"]) := by rw [e5]; exact upd_same
    have S5 : Same H G5 := (S4).trans s5
    have E6 : G5 p3 = some (.dK []) := (s5 _ _ (s4 _ _ E3))
    refine ⟨_, rfl, _, rfl, E6, [(.inr "set", .ref l4), (.inr "add", .ref l5), (.inr "plus", .ref l1), (.inr "minus", .ref l1)], rfl, (by show 4 ≤ 15; decide), ?_⟩
    rw [merge_new (ks := []) (ls := [(.inr "set", .ref l4), (.inr "add", .ref l5), (.inr "plus", .ref l1), (.inr "minus", .ref l1)]) (show List.Nodup ([.inr "set", .inr "add", .inr "plus", .inr "minus"] : List Key) by decide +kernel)]
    obtain ⟨G6, e6⟩ : ∃ G, G = upd G5 p3 (.dK [(.inr "set", .ref l4), (.inr "add", .ref l5), (.inr "plus", .ref l1), (.inr "minus", .ref l1)]) := ⟨_, rfl⟩
    show (tSeq _ _) _ _ (upd G5 p3 (.dK [(.inr "set", .ref l4), (.inr "add", .ref l5), (.inr "plus", .ref l1), (.inr "minus", .ref l1)]))
    rw [← e6]
    have k6 : LK G5 G6 := e6 ▸ lk_dict E6
    have S6 : Same H G6 := e6 ▸ same_put S5 N3
    have d6 : G6 p3 = some (.dK [(.inr "set", .ref l4), (.inr "add", .ref l5), (.inr "plus", .ref l1), (.inr "minus", .ref l1)]) := by rw [e6]; exact upd_same
    refine ⟨_, rfl, .inr (.inr (.inl ⟨rfl, .inl ⟨_, d6⟩⟩)), fun p7 n7 => ?_⟩
    obtain ⟨G7, e7⟩ : ∃ G, G = upd G6 p7 (.dK []) := ⟨_, rfl⟩
    rw [← e7]
    have s7 : Same G6 G7 := e7 ▸ same_new n7
    have k7 : LK G6 G7 := lk_same s7
    have N7 : H p7 = none := none_of S6 n7
    have S7 : Same H G7 := (S6).trans s7
    have E7 : G7 p7 = some (.dK []) := by rw [e7]; exact upd_same
    have ne7 : p3 ≠ p7 := ne_of_none d6 n7
    refine ⟨_, rfl, _, rfl, _, rfl, (by show 3 ≤ sizeLine; decide), fun l8 n8 => ?_⟩
    obtain ⟨G8, e8⟩ : ∃ G, G = upd G7 l8 (.lst [.str "number", .str "number", .str "number"]) := ⟨_, rfl⟩
    dsimp only [gName]
    rw [← e8]
    have s8 : Same G7 G8 := e8 ▸ same_new n8
    have k8 : LK G7 G8 := lk_same s8
    have h8 : G8 l8 = some (.lst [.str "number", .str "number", .str "number"]) := by rw [e8]; exact upd_same
    have S8 : Same H G8 := (S7).trans s8
    have E9 : G8 p7 = some (.dK []) := (s8 _ _ E7)
    have D9 : G8 p3 = some (.dK [(.inr "set", .ref l4), (.inr "add", .ref l5), (.inr "plus", .ref l1), (.inr "minus", .ref l1)]) := (s8 _ _ (s7 _ _ d6))
    refine ⟨E9, [(.inr "times", .ref l1), (.inr "over", .ref l1), (.inr "rest", .ref l1), (.inr "mid", .ref l8)], rfl, (by show 4 ≤ 15; decide), ?_⟩
    rw [merge_new (ks := []) (ls := [(.inr "times", .ref l1), (.inr "over", .ref l1), (.inr "rest", .ref l1), (.inr "mid", .ref l8)]) (show List.Nodup ([.inr "times", .inr "over", .inr "rest", .inr "mid"] : List Key) by decide +kernel)]
    obtain ⟨G9, e9⟩ : ∃ G, G = upd G8 p7 (.dK [(.inr "times", .ref l1), (.inr "over", .ref l1), (.inr "rest", .ref l1), (.inr "mid", .ref l8)]) := ⟨_, rfl⟩
    dsimp only [List.nil_append]
    rw [← e9]
    have k9 : LK G8 G9 := e9 ▸ lk_dict E9
    have S9 : Same H G9 := e9 ▸ same_put S8 N7
    have q9 : G9 p7 = some (.dK [(.inr "times", .ref l1), (.inr "over", .ref l1), (.inr "rest", .ref l1), (.inr "mid", .ref l8)]) := by rw [e9]; exact upd_same
    have c9 : G9 p3 = some (.dK [(.inr "set", .ref l4), (.inr "add", .ref l5), (.inr "plus", .ref l1), (.inr "minus", .ref l1)]) := by rw [e9, upd_ne ne7]; exact D9
    refine ⟨p3, p7, [(.inr "set", .ref l4), (.inr "add", .ref l5), (.inr "plus", .ref l1), (.inr "minus", .ref l1)], [(.inr "times", .ref l1), (.inr "over", .ref l1), (.inr "rest", .ref l1), (.inr "mid", .ref l8)], rfl, rfl, c9, q9, ne7, (by show 8 ≤ sizeLine; decide), ?_⟩
    rw [merge_new (ks := [(.inr "set", .ref l4), (.inr "add", .ref l5), (.inr "plus", .ref l1), (.inr "minus", .ref l1)]) (ls := [(.inr "times", .ref l1), (.inr "over", .ref l1), (.inr "rest", .ref l1), (.inr "mid", .ref l8)]) (show List.Nodup ([.inr "set", .inr "add", .inr "plus", .inr "minus", .inr "times", .inr "over", .inr "rest", .inr "mid"] : List Key) by decide +kernel)]
    obtain ⟨G10, e10⟩ : ∃ G, G = upd G9 p3 (.dK [(.inr "set", .ref l4), (.inr "add", .ref l5), (.inr "plus", .ref l1), (.inr "minus", .ref l1), (.inr "times", .ref l1), (.inr "over", .ref l1), (.inr "rest", .ref l1), (.inr "mid", .ref l8)]) := ⟨_, rfl⟩
    show (tSeq _ _) _ _ (upd G9 p3 (.dK [(.inr "set", .ref l4), (.inr "add", .ref l5), (.inr "plus", .ref l1), (.inr "minus", .ref l1), (.inr "times", .ref l1), (.inr "over", .ref l1), (.inr "rest", .ref l1), (.inr "mid", .ref l8)]))
    rw [← e10]
    have k10 : LK G9 G10 := e10 ▸ lk_dict c9
    have S10 : Same H G10 := e10 ▸ same_put S9 N3
    have d10 : G10 p3 = some (.dK [(.inr "set", .ref l4), (.inr "add", .ref l5), (.inr "plus", .ref l1), (.inr "minus", .ref l1), (.inr "times", .ref l1), (.inr "over", .ref l1), (.inr "rest", .ref l1), (.inr "mid", .ref l8)]) := by rw [e10]; exact upd_same
    refine ⟨_, rfl, .inr (.inr (.inl ⟨rfl, .inl ⟨_, d10⟩⟩)), fun p11 n11 => ?_⟩
    obtain ⟨G11, e11⟩ : ∃ G, G = upd G10 p11 (.dK []) := ⟨_, rfl⟩
    rw [← e11]
    have s11 : Same G10 G11 := e11 ▸ same_new n11
    have k11 : LK G10 G11 := lk_same s11
    have N11 : H p11 = none := none_of S10 n11
    have S11 : Same H G11 := (S10).trans s11
    have E11 : G11 p11 = some (.dK []) := by rw [e11]; exact upd_same
    have ne11 : p3 ≠ p11 := ne_of_none d10 n11
    refine ⟨(by show 2 ≤ sizeLine; decide), fun l12 n12 => ?_⟩
    obtain ⟨G12, e12⟩ : ∃ G, G = upd G11 l12 (.lst [.str "row", .str "number"]) := ⟨_, rfl⟩
    dsimp only [gName]
    rw [← e12]
    have s12 : Same G11 G12 := e12 ▸ same_new n12
    have k12 : LK G11 G12 := lk_same s12
    have h12 : G12 l12 = some (.lst [.str "row", .str "number"]) := by rw [e12]; exact upd_same
    have S12 : Same H G12 := (S11).trans s12
    refine ⟨(by show 3 ≤ sizeLine; decide), fun l13 n13 => ?_⟩
    obtain ⟨G13, e13⟩ : ∃ G, G = upd G12 l13 (.lst [.str "plain", .str "row", .str "number"]) := ⟨_, rfl⟩
    dsimp only [gName]
    rw [← e13]
    have s13 : Same G12 G13 := e13 ▸ same_new n13
    have k13 : LK G12 G13 := lk_same s13
    have h13 : G13 l13 = some (.lst [.str "plain", .str "row", .str "number"]) := by rw [e13]; exact upd_same
    have S13 : Same H G13 := (S12).trans s13
    refine ⟨(by show 3 ≤ sizeLine; decide), fun l14 n14 => ?_⟩
    obtain ⟨G14, e14⟩ : ∃ G, G = upd G13 l14 (.lst [.str "row", .str "number", .str "number"]) := ⟨_, rfl⟩
    dsimp only [gName]
    rw [← e14]
    have s14 : Same G13 G14 := e14 ▸ same_new n14
    have k14 : LK G13 G14 := lk_same s14
    have h14 : G14 l14 = some (.lst [.str "row", .str "number", .str "number"]) := by rw [e14]; exact upd_same
    have S14 : Same H G14 := (S13).trans s14
    have E15 : G14 p11 = some (.dK []) := (s14 _ _ (s13 _ _ (s12 _ _ E11)))
    have D15 : G14 p3 = some (.dK [(.inr "set", .ref l4), (.inr "add", .ref l5), (.inr "plus", .ref l1), (.inr "minus", .ref l1), (.inr "times", .ref l1), (.inr "over", .ref l1), (.inr "rest", .ref l1), (.inr "mid", .ref l8)]) := (s14 _ _ (s13 _ _ (s12 _ _ (s11 _ _ d10))))
    refine ⟨E15, [(.inr "row", .ref l12), (.inr "get", .ref l13), (.inr "put", .ref l14)], rfl, (by show 3 ≤ 15; decide), ?_⟩
    rw [merge_new (ks := []) (ls := [(.inr "row", .ref l12), (.inr "get", .ref l13), (.inr "put", .ref l14)]) (show List.Nodup ([.inr "row", .inr "get", .inr "put"] : List Key) by decide +kernel)]
    obtain ⟨G15, e15⟩ : ∃ G, G = upd G14 p11 (.dK [(.inr "row", .ref l12), (.inr "get", .ref l13), (.inr "put", .ref l14)]) := ⟨_, rfl⟩
    dsimp only [List.nil_append]
    rw [← e15]
    have k15 : LK G14 G15 := e15 ▸ lk_dict E15
    have S15 : Same H G15 := e15 ▸ same_put S14 N11
    have q15 : G15 p11 = some (.dK [(.inr "row", .ref l12), (.inr "get", .ref l13), (.inr "put", .ref l14)]) := by rw [e15]; exact upd_same
    have c15 : G15 p3 = some (.dK [(.inr "set", .ref l4), (.inr "add", .ref l5), (.inr "plus", .ref l1), (.inr "minus", .ref l1), (.inr "times", .ref l1), (.inr "over", .ref l1), (.inr "rest", .ref l1), (.inr "mid", .ref l8)]) := by rw [e15, upd_ne ne11]; exact D15
    refine ⟨p3, p11, [(.inr "set", .ref l4), (.inr "add", .ref l5), (.inr "plus", .ref l1), (.inr "minus", .ref l1), (.inr "times", .ref l1), (.inr "over", .ref l1), (.inr "rest", .ref l1), (.inr "mid", .ref l8)], [(.inr "row", .ref l12), (.inr "get", .ref l13), (.inr "put", .ref l14)], rfl, rfl, c15, q15, ne11, (by show 11 ≤ sizeLine; decide), ?_⟩
    rw [merge_new (ks := [(.inr "set", .ref l4), (.inr "add", .ref l5), (.inr "plus", .ref l1), (.inr "minus", .ref l1), (.inr "times", .ref l1), (.inr "over", .ref l1), (.inr "rest", .ref l1), (.inr "mid", .ref l8)]) (ls := [(.inr "row", .ref l12), (.inr "get", .ref l13), (.inr "put", .ref l14)]) (show List.Nodup ([.inr "set", .inr "add", .inr "plus", .inr "minus", .inr "times", .inr "over", .inr "rest", .inr "mid", .inr "row", .inr "get", .inr "put"] : List Key) by decide +kernel)]
    obtain ⟨G16, e16⟩ : ∃ G, G = upd G15 p3 (.dK [(.inr "set", .ref l4), (.inr "add", .ref l5), (.inr "plus", .ref l1), (.inr "minus", .ref l1), (.inr "times", .ref l1), (.inr "over", .ref l1), (.inr "rest", .ref l1), (.inr "mid", .ref l8), (.inr "row", .ref l12), (.inr "get", .ref l13), (.inr "put", .ref l14)]) := ⟨_, rfl⟩
    show (tSeq _ _) _ _ (upd G15 p3 (.dK [(.inr "set", .ref l4), (.inr "add", .ref l5), (.inr "plus", .ref l1), (.inr "minus", .ref l1), (.inr "times", .ref l1), (.inr "over", .ref l1), (.inr "rest", .ref l1), (.inr "mid", .ref l8), (.inr "row", .ref l12), (.inr "get", .ref l13), (.inr "put", .ref l14)]))
    rw [← e16]
    have k16 : LK G15 G16 := e16 ▸ lk_dict c15
    have S16 : Same H G16 := e16 ▸ same_put S15 N3
    have d16 : G16 p3 = some (.dK [(.inr "set", .ref l4), (.inr "add", .ref l5), (.inr "plus", .ref l1), (.inr "minus", .ref l1), (.inr "times", .ref l1), (.inr "over", .ref l1), (.inr "rest", .ref l1), (.inr "mid", .ref l8), (.inr "row", .ref l12), (.inr "get", .ref l13), (.inr "put", .ref l14)]) := by rw [e16]; exact upd_same
    refine ⟨_, rfl, .inr (.inr (.inl ⟨rfl, .inl ⟨_, d16⟩⟩)), fun p17 n17 => ?_⟩
    obtain ⟨G17, e17⟩ : ∃ G, G = upd G16 p17 (.dK []) := ⟨_, rfl⟩
    rw [← e17]
    have s17 : Same G16 G17 := e17 ▸ same_new n17
    have k17 : LK G16 G17 := lk_same s17
    have N17 : H p17 = none := none_of S16 n17
    have S17 : Same H G17 := (S16).trans s17
    have E17 : G17 p17 = some (.dK []) := by rw [e17]; exact upd_same
    have ne17 : p3 ≠ p17 := ne_of_none d16 n17
    refine ⟨(by show 2 ≤ sizeLine; decide), fun l18 n18 => ?_⟩
    obtain ⟨G18, e18⟩ : ∃ G, G = upd G17 l18 (.lst [.str "number", .str "row"]) := ⟨_, rfl⟩
    dsimp only [gName]
    rw [← e18]
    have s18 : Same G17 G18 := e18 ▸ same_new n18
    have k18 : LK G17 G18 := lk_same s18
    have h18 : G18 l18 = some (.lst [.str "number", .str "row"]) := by rw [e18]; exact upd_same
    have S18 : Same H G18 := (S17).trans s18
    refine ⟨(by show 3 ≤ sizeLine; decide), fun l19 n19 => ?_⟩
    obtain ⟨G19, e19⟩ : ∃ G, G = upd G18 l19 (.lst [.str "plain", .str "word", .str "word"]) := ⟨_, rfl⟩
    dsimp only [gName]
    rw [← e19]
    have s19 : Same G18 G19 := e19 ▸ same_new n19
    have k19 : LK G18 G19 := lk_same s19
    have h19 : G19 l19 = some (.lst [.str "plain", .str "word", .str "word"]) := by rw [e19]; exact upd_same
    have S19 : Same H G19 := (S18).trans s19
    refine ⟨(by show 1 ≤ sizeLine; decide), fun l20 n20 => ?_⟩
    obtain ⟨G20, e20⟩ : ∃ G, G = upd G19 l20 (.lst [.str "number"]) := ⟨_, rfl⟩
    dsimp only [gName]
    rw [← e20]
    have s20 : Same G19 G20 := e20 ▸ same_new n20
    have k20 : LK G19 G20 := lk_same s20
    have h20 : G20 l20 = some (.lst [.str "number"]) := by rw [e20]; exact upd_same
    have S20 : Same H G20 := (S19).trans s20
    have E21 : G20 p17 = some (.dK []) := (s20 _ _ (s19 _ _ (s18 _ _ E17)))
    have D21 : G20 p3 = some (.dK [(.inr "set", .ref l4), (.inr "add", .ref l5), (.inr "plus", .ref l1), (.inr "minus", .ref l1), (.inr "times", .ref l1), (.inr "over", .ref l1), (.inr "rest", .ref l1), (.inr "mid", .ref l8), (.inr "row", .ref l12), (.inr "get", .ref l13), (.inr "put", .ref l14)]) := (s20 _ _ (s19 _ _ (s18 _ _ (s17 _ _ d16))))
    refine ⟨_, rfl, E21, [(.inr "length", .ref l18), (.inr "ask", .ref l19), (.inr "tell", .ref l20), (.inr "check", .ref l2)], rfl, (by show 4 ≤ 15; decide), ?_⟩
    rw [merge_new (ks := []) (ls := [(.inr "length", .ref l18), (.inr "ask", .ref l19), (.inr "tell", .ref l20), (.inr "check", .ref l2)]) (show List.Nodup ([.inr "length", .inr "ask", .inr "tell", .inr "check"] : List Key) by decide +kernel)]
    obtain ⟨G21, e21⟩ : ∃ G, G = upd G20 p17 (.dK [(.inr "length", .ref l18), (.inr "ask", .ref l19), (.inr "tell", .ref l20), (.inr "check", .ref l2)]) := ⟨_, rfl⟩
    dsimp only [List.nil_append]
    rw [← e21]
    have k21 : LK G20 G21 := e21 ▸ lk_dict E21
    have S21 : Same H G21 := e21 ▸ same_put S20 N17
    have q21 : G21 p17 = some (.dK [(.inr "length", .ref l18), (.inr "ask", .ref l19), (.inr "tell", .ref l20), (.inr "check", .ref l2)]) := by rw [e21]; exact upd_same
    have c21 : G21 p3 = some (.dK [(.inr "set", .ref l4), (.inr "add", .ref l5), (.inr "plus", .ref l1), (.inr "minus", .ref l1), (.inr "times", .ref l1), (.inr "over", .ref l1), (.inr "rest", .ref l1), (.inr "mid", .ref l8), (.inr "row", .ref l12), (.inr "get", .ref l13), (.inr "put", .ref l14)]) := by rw [e21, upd_ne ne17]; exact D21
    refine ⟨p3, p17, [(.inr "set", .ref l4), (.inr "add", .ref l5), (.inr "plus", .ref l1), (.inr "minus", .ref l1), (.inr "times", .ref l1), (.inr "over", .ref l1), (.inr "rest", .ref l1), (.inr "mid", .ref l8), (.inr "row", .ref l12), (.inr "get", .ref l13), (.inr "put", .ref l14)], [(.inr "length", .ref l18), (.inr "ask", .ref l19), (.inr "tell", .ref l20), (.inr "check", .ref l2)], rfl, rfl, c21, q21, ne17, (by show 15 ≤ sizeLine; decide), ?_⟩
    rw [merge_new (ks := [(.inr "set", .ref l4), (.inr "add", .ref l5), (.inr "plus", .ref l1), (.inr "minus", .ref l1), (.inr "times", .ref l1), (.inr "over", .ref l1), (.inr "rest", .ref l1), (.inr "mid", .ref l8), (.inr "row", .ref l12), (.inr "get", .ref l13), (.inr "put", .ref l14)]) (ls := [(.inr "length", .ref l18), (.inr "ask", .ref l19), (.inr "tell", .ref l20), (.inr "check", .ref l2)]) (show List.Nodup ([.inr "set", .inr "add", .inr "plus", .inr "minus", .inr "times", .inr "over", .inr "rest", .inr "mid", .inr "row", .inr "get", .inr "put", .inr "length", .inr "ask", .inr "tell", .inr "check"] : List Key) by decide +kernel)]
    obtain ⟨G22, e22⟩ : ∃ G, G = upd G21 p3 (.dK [(.inr "set", .ref l4), (.inr "add", .ref l5), (.inr "plus", .ref l1), (.inr "minus", .ref l1), (.inr "times", .ref l1), (.inr "over", .ref l1), (.inr "rest", .ref l1), (.inr "mid", .ref l8), (.inr "row", .ref l12), (.inr "get", .ref l13), (.inr "put", .ref l14), (.inr "length", .ref l18), (.inr "ask", .ref l19), (.inr "tell", .ref l20), (.inr "check", .ref l2)]) := ⟨_, rfl⟩
    show (tSeq _ _) _ _ (upd G21 p3 (.dK [(.inr "set", .ref l4), (.inr "add", .ref l5), (.inr "plus", .ref l1), (.inr "minus", .ref l1), (.inr "times", .ref l1), (.inr "over", .ref l1), (.inr "rest", .ref l1), (.inr "mid", .ref l8), (.inr "row", .ref l12), (.inr "get", .ref l13), (.inr "put", .ref l14), (.inr "length", .ref l18), (.inr "ask", .ref l19), (.inr "tell", .ref l20), (.inr "check", .ref l2)]))
    rw [← e22]
    have k22 : LK G21 G22 := e22 ▸ lk_dict c21
    have S22 : Same H G22 := e22 ▸ same_put S21 N3
    have d22 : G22 p3 = some (.dK [(.inr "set", .ref l4), (.inr "add", .ref l5), (.inr "plus", .ref l1), (.inr "minus", .ref l1), (.inr "times", .ref l1), (.inr "over", .ref l1), (.inr "rest", .ref l1), (.inr "mid", .ref l8), (.inr "row", .ref l12), (.inr "get", .ref l13), (.inr "put", .ref l14), (.inr "length", .ref l18), (.inr "ask", .ref l19), (.inr "tell", .ref l20), (.inr "check", .ref l2)]) := by rw [e22]; exact upd_same
    refine ⟨_, rfl, .inr (.inr (.inl ⟨rfl, .inl ⟨_, d22⟩⟩)), fun p23 n23 => ?_⟩
    obtain ⟨G23, e23⟩ : ∃ G, G = upd G22 p23 (.dK []) := ⟨_, rfl⟩
    rw [← e23]
    have s23 : Same G22 G23 := e23 ▸ same_new n23
    have k23 : LK G22 G23 := lk_same s23
    have N23 : H p23 = none := none_of S22 n23
    have S23 : Same H G23 := (S22).trans s23
    have E23 : G23 p23 = some (.dK []) := by rw [e23]; exact upd_same
    have ne23 : p3 ≠ p23 := ne_of_none d22 n23
    refine ⟨_, rfl, (by show 1 ≤ sizeLine; decide), fun l24 n24 => ?_⟩
    obtain ⟨G24, e24⟩ : ∃ G, G = upd G23 l24 (.lst [.str "label"]) := ⟨_, rfl⟩
    dsimp only [gName]
    rw [← e24]
    have s24 : Same G23 G24 := e24 ▸ same_new n24
    have k24 : LK G23 G24 := lk_same s24
    have h24 : G24 l24 = some (.lst [.str "label"]) := by rw [e24]; exact upd_same
    have S24 : Same H G24 := (S23).trans s24
    refine ⟨l2, l24, _, _, rfl, rfl, (k24 _ _ (k23 _ _ (k22 _ _ (k21 _ _ (k20 _ _ (k19 _ _ (k18 _ _ (k17 _ _ (k16 _ _ (k15 _ _ (k14 _ _ (k13 _ _ (k12 _ _ (k11 _ _ (k10 _ _ (k9 _ _ (k8 _ _ (k7 _ _ (k6 _ _ (k5 _ _ (k4 _ _ (k3 _ _ h2)))))))))))))))))))))), h24, (by show 4 ≤ sizeLine; decide), fun l25 n25 => ?_⟩
    obtain ⟨G25, e25⟩ : ∃ G, G = upd G24 l25 (.lst [.str "side", .str "sign", .str "side", .str "label"]) := ⟨_, rfl⟩
    dsimp only [List.cons_append, List.nil_append]
    rw [← e25]
    have s25 : Same G24 G25 := e25 ▸ same_new n25
    have k25 : LK G24 G25 := lk_same s25
    have h25 : G25 l25 = some (.lst [.str "side", .str "sign", .str "side", .str "label"]) := by rw [e25]; exact upd_same
    have S25 : Same H G25 := (S24).trans s25
    refine ⟨(by show 1 ≤ sizeLine; decide), fun l26 n26 => ?_⟩
    obtain ⟨G26, e26⟩ : ∃ G, G = upd G25 l26 (.lst [.str "label"]) := ⟨_, rfl⟩
    dsimp only [gName]
    rw [← e26]
    have s26 : Same G25 G26 := e26 ▸ same_new n26
    have k26 : LK G25 G26 := lk_same s26
    have h26 : G26 l26 = some (.lst [.str "label"]) := by rw [e26]; exact upd_same
    have S26 : Same H G26 := (S25).trans s26
    refine ⟨(by show 3 ≤ sizeLine; decide), fun l27 n27 => ?_⟩
    obtain ⟨G27, e27⟩ : ∃ G, G = upd G26 l27 (.lst [.str "plain", .str "def", .str "names"]) := ⟨_, rfl⟩
    dsimp only [gName]
    rw [← e27]
    have s27 : Same G26 G27 := e27 ▸ same_new n27
    have k27 : LK G26 G27 := lk_same s27
    have h27 : G27 l27 = some (.lst [.str "plain", .str "def", .str "names"]) := by rw [e27]; exact upd_same
    have S27 : Same H G27 := (S26).trans s27
    refine ⟨(by show 1 ≤ sizeLine; decide), fun l28 n28 => ?_⟩
    obtain ⟨G28, e28⟩ : ∃ G, G = upd G27 l28 (.lst [.str "number"]) := ⟨_, rfl⟩
    dsimp only [gName]
    rw [← e28]
    have s28 : Same G27 G28 := e28 ▸ same_new n28
    have k28 : LK G27 G28 := lk_same s28
    have h28 : G28 l28 = some (.lst [.str "number"]) := by rw [e28]; exact upd_same
    have S28 : Same H G28 := (S27).trans s28
    have E29 : G28 p23 = some (.dK []) := (s28 _ _ (s27 _ _ (s26 _ _ (s25 _ _ (s24 _ _ E23)))))
    have D29 : G28 p3 = some (.dK [(.inr "set", .ref l4), (.inr "add", .ref l5), (.inr "plus", .ref l1), (.inr "minus", .ref l1), (.inr "times", .ref l1), (.inr "over", .ref l1), (.inr "rest", .ref l1), (.inr "mid", .ref l8), (.inr "row", .ref l12), (.inr "get", .ref l13), (.inr "put", .ref l14), (.inr "length", .ref l18), (.inr "ask", .ref l19), (.inr "tell", .ref l20), (.inr "check", .ref l2)]) := (s28 _ _ (s27 _ _ (s26 _ _ (s25 _ _ (s24 _ _ (s23 _ _ d22))))))
    refine ⟨E29, [(.inr "if", .ref l25), (.inr "go", .ref l26), (.inr "call", .ref l27), (.inr "back", .ref l28)], rfl, (by show 4 ≤ 15; decide), ?_⟩
    rw [merge_new (ks := []) (ls := [(.inr "if", .ref l25), (.inr "go", .ref l26), (.inr "call", .ref l27), (.inr "back", .ref l28)]) (show List.Nodup ([.inr "if", .inr "go", .inr "call", .inr "back"] : List Key) by decide +kernel)]
    obtain ⟨G29, e29⟩ : ∃ G, G = upd G28 p23 (.dK [(.inr "if", .ref l25), (.inr "go", .ref l26), (.inr "call", .ref l27), (.inr "back", .ref l28)]) := ⟨_, rfl⟩
    dsimp only [List.nil_append]
    rw [← e29]
    have k29 : LK G28 G29 := e29 ▸ lk_dict E29
    have S29 : Same H G29 := e29 ▸ same_put S28 N23
    have q29 : G29 p23 = some (.dK [(.inr "if", .ref l25), (.inr "go", .ref l26), (.inr "call", .ref l27), (.inr "back", .ref l28)]) := by rw [e29]; exact upd_same
    have c29 : G29 p3 = some (.dK [(.inr "set", .ref l4), (.inr "add", .ref l5), (.inr "plus", .ref l1), (.inr "minus", .ref l1), (.inr "times", .ref l1), (.inr "over", .ref l1), (.inr "rest", .ref l1), (.inr "mid", .ref l8), (.inr "row", .ref l12), (.inr "get", .ref l13), (.inr "put", .ref l14), (.inr "length", .ref l18), (.inr "ask", .ref l19), (.inr "tell", .ref l20), (.inr "check", .ref l2)]) := by rw [e29, upd_ne ne23]; exact D29
    refine ⟨p3, p23, [(.inr "set", .ref l4), (.inr "add", .ref l5), (.inr "plus", .ref l1), (.inr "minus", .ref l1), (.inr "times", .ref l1), (.inr "over", .ref l1), (.inr "rest", .ref l1), (.inr "mid", .ref l8), (.inr "row", .ref l12), (.inr "get", .ref l13), (.inr "put", .ref l14), (.inr "length", .ref l18), (.inr "ask", .ref l19), (.inr "tell", .ref l20), (.inr "check", .ref l2)], [(.inr "if", .ref l25), (.inr "go", .ref l26), (.inr "call", .ref l27), (.inr "back", .ref l28)], rfl, rfl, c29, q29, ne23, (by show 19 ≤ sizeLine; decide), ?_⟩
    rw [merge_new (ks := [(.inr "set", .ref l4), (.inr "add", .ref l5), (.inr "plus", .ref l1), (.inr "minus", .ref l1), (.inr "times", .ref l1), (.inr "over", .ref l1), (.inr "rest", .ref l1), (.inr "mid", .ref l8), (.inr "row", .ref l12), (.inr "get", .ref l13), (.inr "put", .ref l14), (.inr "length", .ref l18), (.inr "ask", .ref l19), (.inr "tell", .ref l20), (.inr "check", .ref l2)]) (ls := [(.inr "if", .ref l25), (.inr "go", .ref l26), (.inr "call", .ref l27), (.inr "back", .ref l28)]) (show List.Nodup ([.inr "set", .inr "add", .inr "plus", .inr "minus", .inr "times", .inr "over", .inr "rest", .inr "mid", .inr "row", .inr "get", .inr "put", .inr "length", .inr "ask", .inr "tell", .inr "check", .inr "if", .inr "go", .inr "call", .inr "back"] : List Key) by decide +kernel)]
    obtain ⟨G30, e30⟩ : ∃ G, G = upd G29 p3 (.dK [(.inr "set", .ref l4), (.inr "add", .ref l5), (.inr "plus", .ref l1), (.inr "minus", .ref l1), (.inr "times", .ref l1), (.inr "over", .ref l1), (.inr "rest", .ref l1), (.inr "mid", .ref l8), (.inr "row", .ref l12), (.inr "get", .ref l13), (.inr "put", .ref l14), (.inr "length", .ref l18), (.inr "ask", .ref l19), (.inr "tell", .ref l20), (.inr "check", .ref l2), (.inr "if", .ref l25), (.inr "go", .ref l26), (.inr "call", .ref l27), (.inr "back", .ref l28)]) := ⟨_, rfl⟩
    show (tSeq _ _) _ _ (upd G29 p3 (.dK [(.inr "set", .ref l4), (.inr "add", .ref l5), (.inr "plus", .ref l1), (.inr "minus", .ref l1), (.inr "times", .ref l1), (.inr "over", .ref l1), (.inr "rest", .ref l1), (.inr "mid", .ref l8), (.inr "row", .ref l12), (.inr "get", .ref l13), (.inr "put", .ref l14), (.inr "length", .ref l18), (.inr "ask", .ref l19), (.inr "tell", .ref l20), (.inr "check", .ref l2), (.inr "if", .ref l25), (.inr "go", .ref l26), (.inr "call", .ref l27), (.inr "back", .ref l28)]))
    rw [← e30]
    have k30 : LK G29 G30 := e30 ▸ lk_dict c29
    have S30 : Same H G30 := e30 ▸ same_put S29 N3
    have d30 : G30 p3 = some (.dK [(.inr "set", .ref l4), (.inr "add", .ref l5), (.inr "plus", .ref l1), (.inr "minus", .ref l1), (.inr "times", .ref l1), (.inr "over", .ref l1), (.inr "rest", .ref l1), (.inr "mid", .ref l8), (.inr "row", .ref l12), (.inr "get", .ref l13), (.inr "put", .ref l14), (.inr "length", .ref l18), (.inr "ask", .ref l19), (.inr "tell", .ref l20), (.inr "check", .ref l2), (.inr "if", .ref l25), (.inr "go", .ref l26), (.inr "call", .ref l27), (.inr "back", .ref l28)]) := by rw [e30]; exact upd_same
    have tabOk : Paired (KE G30) [(.inr "set", .ref l4), (.inr "add", .ref l5), (.inr "plus", .ref l1), (.inr "minus", .ref l1), (.inr "times", .ref l1), (.inr "over", .ref l1), (.inr "rest", .ref l1), (.inr "mid", .ref l8), (.inr "row", .ref l12), (.inr "get", .ref l13), (.inr "put", .ref l14), (.inr "length", .ref l18), (.inr "ask", .ref l19), (.inr "tell", .ref l20), (.inr "check", .ref l2), (.inr "if", .ref l25), (.inr "go", .ref l26), (.inr "call", .ref l27), (.inr "back", .ref l28)] kTab := .cons ⟨rfl, l4, rfl, (k30 _ _ (k29 _ _ (k28 _ _ (k27 _ _ (k26 _ _ (k25 _ _ (k24 _ _ (k23 _ _ (k22 _ _ (k21 _ _ (k20 _ _ (k19 _ _ (k18 _ _ (k17 _ _ (k16 _ _ (k15 _ _ (k14 _ _ (k13 _ _ (k12 _ _ (k11 _ _ (k10 _ _ (k9 _ _ (k8 _ _ (k7 _ _ (k6 _ _ (k5 _ _ h4))))))))))))))))))))))))))⟩ (.cons ⟨rfl, l5, rfl, (k30 _ _ (k29 _ _ (k28 _ _ (k27 _ _ (k26 _ _ (k25 _ _ (k24 _ _ (k23 _ _ (k22 _ _ (k21 _ _ (k20 _ _ (k19 _ _ (k18 _ _ (k17 _ _ (k16 _ _ (k15 _ _ (k14 _ _ (k13 _ _ (k12 _ _ (k11 _ _ (k10 _ _ (k9 _ _ (k8 _ _ (k7 _ _ (k6 _ _ h5)))))))))))))))))))))))))⟩ (.cons ⟨rfl, l1, rfl, (k30 _ _ (k29 _ _ (k28 _ _ (k27 _ _ (k26 _ _ (k25 _ _ (k24 _ _ (k23 _ _ (k22 _ _ (k21 _ _ (k20 _ _ (k19 _ _ (k18 _ _ (k17 _ _ (k16 _ _ (k15 _ _ (k14 _ _ (k13 _ _ (k12 _ _ (k11 _ _ (k10 _ _ (k9 _ _ (k8 _ _ (k7 _ _ (k6 _ _ (k5 _ _ (k4 _ _ (k3 _ _ (k2 _ _ h1)))))))))))))))))))))))))))))⟩ (.cons ⟨rfl, l1, rfl, (k30 _ _ (k29 _ _ (k28 _ _ (k27 _ _ (k26 _ _ (k25 _ _ (k24 _ _ (k23 _ _ (k22 _ _ (k21 _ _ (k20 _ _ (k19 _ _ (k18 _ _ (k17 _ _ (k16 _ _ (k15 _ _ (k14 _ _ (k13 _ _ (k12 _ _ (k11 _ _ (k10 _ _ (k9 _ _ (k8 _ _ (k7 _ _ (k6 _ _ (k5 _ _ (k4 _ _ (k3 _ _ (k2 _ _ h1)))))))))))))))))))))))))))))⟩ (.cons ⟨rfl, l1, rfl, (k30 _ _ (k29 _ _ (k28 _ _ (k27 _ _ (k26 _ _ (k25 _ _ (k24 _ _ (k23 _ _ (k22 _ _ (k21 _ _ (k20 _ _ (k19 _ _ (k18 _ _ (k17 _ _ (k16 _ _ (k15 _ _ (k14 _ _ (k13 _ _ (k12 _ _ (k11 _ _ (k10 _ _ (k9 _ _ (k8 _ _ (k7 _ _ (k6 _ _ (k5 _ _ (k4 _ _ (k3 _ _ (k2 _ _ h1)))))))))))))))))))))))))))))⟩ (.cons ⟨rfl, l1, rfl, (k30 _ _ (k29 _ _ (k28 _ _ (k27 _ _ (k26 _ _ (k25 _ _ (k24 _ _ (k23 _ _ (k22 _ _ (k21 _ _ (k20 _ _ (k19 _ _ (k18 _ _ (k17 _ _ (k16 _ _ (k15 _ _ (k14 _ _ (k13 _ _ (k12 _ _ (k11 _ _ (k10 _ _ (k9 _ _ (k8 _ _ (k7 _ _ (k6 _ _ (k5 _ _ (k4 _ _ (k3 _ _ (k2 _ _ h1)))))))))))))))))))))))))))))⟩ (.cons ⟨rfl, l1, rfl, (k30 _ _ (k29 _ _ (k28 _ _ (k27 _ _ (k26 _ _ (k25 _ _ (k24 _ _ (k23 _ _ (k22 _ _ (k21 _ _ (k20 _ _ (k19 _ _ (k18 _ _ (k17 _ _ (k16 _ _ (k15 _ _ (k14 _ _ (k13 _ _ (k12 _ _ (k11 _ _ (k10 _ _ (k9 _ _ (k8 _ _ (k7 _ _ (k6 _ _ (k5 _ _ (k4 _ _ (k3 _ _ (k2 _ _ h1)))))))))))))))))))))))))))))⟩ (.cons ⟨rfl, l8, rfl, (k30 _ _ (k29 _ _ (k28 _ _ (k27 _ _ (k26 _ _ (k25 _ _ (k24 _ _ (k23 _ _ (k22 _ _ (k21 _ _ (k20 _ _ (k19 _ _ (k18 _ _ (k17 _ _ (k16 _ _ (k15 _ _ (k14 _ _ (k13 _ _ (k12 _ _ (k11 _ _ (k10 _ _ (k9 _ _ h8))))))))))))))))))))))⟩ (.cons ⟨rfl, l12, rfl, (k30 _ _ (k29 _ _ (k28 _ _ (k27 _ _ (k26 _ _ (k25 _ _ (k24 _ _ (k23 _ _ (k22 _ _ (k21 _ _ (k20 _ _ (k19 _ _ (k18 _ _ (k17 _ _ (k16 _ _ (k15 _ _ (k14 _ _ (k13 _ _ h12))))))))))))))))))⟩ (.cons ⟨rfl, l13, rfl, (k30 _ _ (k29 _ _ (k28 _ _ (k27 _ _ (k26 _ _ (k25 _ _ (k24 _ _ (k23 _ _ (k22 _ _ (k21 _ _ (k20 _ _ (k19 _ _ (k18 _ _ (k17 _ _ (k16 _ _ (k15 _ _ (k14 _ _ h13)))))))))))))))))⟩ (.cons ⟨rfl, l14, rfl, (k30 _ _ (k29 _ _ (k28 _ _ (k27 _ _ (k26 _ _ (k25 _ _ (k24 _ _ (k23 _ _ (k22 _ _ (k21 _ _ (k20 _ _ (k19 _ _ (k18 _ _ (k17 _ _ (k16 _ _ (k15 _ _ h14))))))))))))))))⟩ (.cons ⟨rfl, l18, rfl, (k30 _ _ (k29 _ _ (k28 _ _ (k27 _ _ (k26 _ _ (k25 _ _ (k24 _ _ (k23 _ _ (k22 _ _ (k21 _ _ (k20 _ _ (k19 _ _ h18))))))))))))⟩ (.cons ⟨rfl, l19, rfl, (k30 _ _ (k29 _ _ (k28 _ _ (k27 _ _ (k26 _ _ (k25 _ _ (k24 _ _ (k23 _ _ (k22 _ _ (k21 _ _ (k20 _ _ h19)))))))))))⟩ (.cons ⟨rfl, l20, rfl, (k30 _ _ (k29 _ _ (k28 _ _ (k27 _ _ (k26 _ _ (k25 _ _ (k24 _ _ (k23 _ _ (k22 _ _ (k21 _ _ h20))))))))))⟩ (.cons ⟨rfl, l2, rfl, (k30 _ _ (k29 _ _ (k28 _ _ (k27 _ _ (k26 _ _ (k25 _ _ (k24 _ _ (k23 _ _ (k22 _ _ (k21 _ _ (k20 _ _ (k19 _ _ (k18 _ _ (k17 _ _ (k16 _ _ (k15 _ _ (k14 _ _ (k13 _ _ (k12 _ _ (k11 _ _ (k10 _ _ (k9 _ _ (k8 _ _ (k7 _ _ (k6 _ _ (k5 _ _ (k4 _ _ (k3 _ _ h2))))))))))))))))))))))))))))⟩ (.cons ⟨rfl, l25, rfl, (k30 _ _ (k29 _ _ (k28 _ _ (k27 _ _ (k26 _ _ h25)))))⟩ (.cons ⟨rfl, l26, rfl, (k30 _ _ (k29 _ _ (k28 _ _ (k27 _ _ h26))))⟩ (.cons ⟨rfl, l27, rfl, (k30 _ _ (k29 _ _ (k28 _ _ h27)))⟩ (.cons ⟨rfl, l28, rfl, (k30 _ _ (k29 _ _ h28))⟩ (.nil)))))))))))))))))))
    have hA : Im G30 (.tuple (.str wd :: ds)) v := hv.same S30
    have hA' := hA
    unfold Im at hA'
    obtain ⟨a, xs, rfl, ha, hx⟩ := hA'
    unfold ImAll at hx
    obtain ⟨u, r, rfl, hu, _⟩ := hx
    unfold Im at hu
    subst hu
    refine ⟨_, rfl, _, _, .type "tuple", _, true, rfl, .ty "tuple", .base (.tup ha), kit_ty (by decide +kernel), _, rfl, ?_⟩
    refine iteF ?_
    refine ⟨_, rfl, (by show 0 ≤ sizeLine; decide), fun p hp => ?_⟩
    have sp := same_new (o := .tup []) hp
    refine ⟨_, .tuple [], Im.dp _ _ (hA.same sp), .tup (SqT.of upd_same) .nil, hsh, rfl, _, rfl, ?_⟩
    refine iteF ?_
    refine ⟨_, rfl, a, _, 0, _, rfl, rfl, SqT.of (sp _ _ ha), atI_nat (j := 0) rfl, _, _, .type "str", _, true, rfl, .ty "str", .base (.str wd), kit_ty (by decide +kernel), _, rfl, ?_⟩
    refine ⟨_, rfl, p3, rfl, .inl ⟨_, .inl (sp _ _ d30)⟩, _, rfl, a, _, 0, _, rfl, rfl, SqT.of (sp _ _ ha), atI_nat (j := 0) rfl, _, DGet.k (k := .inr wd) (sp _ _ d30), ?_⟩
    obtain ⟨l, f1, f2⟩ := tab_val tabOk hk
    rw [f1]
    exact q l _ (S30.trans sp) (sp _ _ f2)
end
end K

set_option maxRecDepth 100000
set_option maxHeartbeats 3900000
namespace K
open PySem PySem.Spec PyProof.Rows L2
/-! ### acts -/
inductive Pt where
  | w (i : Int) | s (x : Str) | ns (xs : List Str)
def Pt.d : Pt → PyData
  | .w i => .int i
  | .s x => .str x
  | .ns xs => .tuple (xs.map .str)
structure Ac where
  (word : Str) (parts : List Pt)
def Ac.d (a : Ac) : PyData := .tuple (.str a.word :: a.parts.map Pt.d)
/-- a part of that kind -/
inductive KP : Str → Pt → Prop
  | names (xs : List Str) (h : xs.length ≤ 10) (k : ∀ x ∈ xs, TxOk x) : KP "names" (.ns xs)
  | number (x : Str) (h : TxOk x) : KP "number" (.s x)
  | plain (x : Str) (h : TxOk x) : KP "plain" (.s x)
  | row (x : Str) (h : TxOk x) : KP "row" (.s x)
  | sideS (x : Str) (h : TxOk x) : KP "side" (.s x)
  | sideW (i : Int) : KP "side" (.w i)
  | word (i : Int) : KP "word" (.w i)
  | label (i : Int) : KP "label" (.w i)
  | sign (x : Str) (h : TxOk x) (hs : x = "<" ∨ x = "<=") : KP "sign" (.s x)
  | df (x : Str) (h : Cn x) : KP "def" (.s x)
def AcOk (a : Ac) : Prop := ∃ ks, kindsOf a.word = some ks ∧ Paired KP ks a.parts
/-- the names in a part -/
def pn (k : Str) : Pt → List Str
  | .ns xs => if k = "names" then xs else []
  | .s x => if k = "number" ∨ k = "plain" ∨ k = "row" ∨ k = "side" then [x] else []
  | .w _ => []
def pns : List Str → List Pt → List Str
  | k :: ks, p :: ps => pn k p ++ pns ks ps
  | _, _ => []
def Ac.names (a : Ac) : List Str := pns ((kindsOf a.word).getD []) a.parts
theorem pns_snoc : ∀ {ks : List Str} {ps : List Pt} {k : Str} {p : Pt}, ks.length = ps.length → pns (ks ++ [k]) (ps ++ [p]) = pns ks ps ++ pn k p
  | [], [], k, p, _ => by simp [pns]
  | a :: ks, b :: ps, k, p, h => by
    show pn a b ++ pns (ks ++ [k]) (ps ++ [p]) = _
    rw [pns_snoc (by simpa using h), ← List.append_assoc]
    rfl
theorem pns_take {ks : List Str} {ps : List Pt} {i : Nat} {k : Str} {p : Pt} (hk : ks[i]? = some k) (hp : ps[i]? = some p) : pns (ks.take (i + 1)) (ps.take (i + 1)) = pns (ks.take i) (ps.take i) ++ pn k p := by
  have h1 := (List.getElem?_eq_some_iff.mp hk).1
  have h2 := (List.getElem?_eq_some_iff.mp hp).1
  rw [List.take_add_one, List.take_add_one, hk, hp]
  exact pns_snoc (by rw [List.length_take, List.length_take]; omega)
theorem pn_one {k x : Str} (h : k = "number" ∨ k = "plain" ∨ k = "row" ∨ k = "side") : pn k (.s x) = [x] := if_pos h
theorem pn_nil {k x : Str} (h : ¬ (k = "number" ∨ k = "plain" ∨ k = "row" ∨ k = "side")) : pn k (.s x) = [] := if_neg h
theorem pn_all {xs : List Str} : pn "names" (.ns xs) = xs := by
  show (if ("names" : Str) = "names" then xs else []) = xs
  rw [if_pos rfl]
theorem pn_len {k : Str} {p : Pt} (h : KP k p) : (pn k p).length ≤ 10 := by
  cases h with
  | names xs h _ =>
    rw [pn_all]
    exact h
  | number x _ =>
    rw [pn_one (.inl rfl)]
    exact (by decide : 1 ≤ 10)
  | plain x _ =>
    rw [pn_one (.inr (.inl rfl))]
    exact (by decide : 1 ≤ 10)
  | row x _ =>
    rw [pn_one (.inr (.inr (.inl rfl)))]
    exact (by decide : 1 ≤ 10)
  | sideS x _ =>
    rw [pn_one (.inr (.inr (.inr rfl)))]
    exact (by decide : 1 ≤ 10)
  | sideW i => exact Nat.zero_le _
  | word i => exact Nat.zero_le _
  | label i => exact Nat.zero_le _
  | sign x _ _ => exact Nat.zero_le _
  | df x _ => exact Nat.zero_le _
theorem pns_len : ∀ {ks : List Str} {ps : List Pt}, Paired KP ks ps → (pns ks ps).length ≤ 10 * ks.length
  | _, _, .nil => Nat.zero_le _
  | k :: ks, p :: ps, .cons h r => by
    have h1 := pn_len h
    have h2 := pns_len r
    show (pn k p ++ pns ks ps).length ≤ _
    rw [List.length_append, List.length_cons]
    omega
theorem kinds_mem {w : Str} {ks : List Str} (h : kindsOf w = some ks) : (w, ks) ∈ kTab := by
  unfold kindsOf at h
  have key : ∀ {tab : List (Str × List Str)}, tab.lookup w = some ks → (w, ks) ∈ tab := by
    intro tab
    induction tab with
    | nil => intro h; cases h
    | cons e r ih =>
      intro h
      rw [List.lookup_cons] at h
      cases hb : (w == e.1) with
      | true =>
        rw [hb] at h
        cases h
        rw [eq_of_beq hb]
        exact List.mem_cons_self
      | false =>
        rw [hb] at h
        refine List.mem_cons_of_mem _ ?_
        exact ih h
  exact key h
theorem kinds_pos {w : Str} {ks : List Str} (h : kindsOf w = some ks) : ks ≠ [] := by
  have : ∀ e ∈ kTab, e.2 ≠ [] := by decide +kernel
  exact this _ (kinds_mem h)
theorem ImAll.strs_eq {H : Hp} : ∀ {xs : List Str} {vs : List V}, ImAll H (xs.map PyData.str) vs → vs = xs.map V.str
  | [], vs, h => by
    unfold ImAll at h
    exact h
  | x :: r, vs, h => by
    rw [List.map_cons] at h
    unfold ImAll at h
    obtain ⟨v, q, e, h1, h2⟩ := h
    unfold Im at h1
    subst e h1
    rw [h2.strs_eq]
    rfl
theorem kinds_few {w : Str} {ks : List Str} (h : kindsOf w = some ks) : ks.length ≤ 4 := by
  have : ∀ e ∈ kTab, e.2.length ≤ 4 := by decide
  unfold kindsOf at h
  have key : ∀ {tab : List (Str × List Str)}, (∀ e ∈ tab, e.2.length ≤ 4) → tab.lookup w = some ks → ks.length ≤ 4 := by
    intro tab
    induction tab with
    | nil => intro _ h; cases h
    | cons e r ih =>
      intro hall h
      rw [List.lookup_cons] at h
      cases hb : (w == e.1) with
      | true =>
        rw [hb] at h
        cases h
        exact hall e List.mem_cons_self
      | false =>
        rw [hb] at h
        exact ih (fun e he => hall e (List.mem_cons_of_mem _ he)) h
  exact key this h
theorem Paired.at {α β : Type} {R : α → β → Prop} : ∀ {xs : List α} {ys : List β} {i : Nat} {x : α} {y : β}, Paired R xs ys → xs[i]? = some x → ys[i]? = some y → R x y
  | _, _, i, x, y, .nil, h, _ => by cases h
  | _, _, 0, x, y, .cons r _, h, k => by
    cases h
    cases k
    exact r
  | _, _, i + 1, x, y, .cons _ r, h, k => Paired.at (i := i) r h k
theorem Ac.lay {a : Ac} (h : ∀ k p, KP k p → True) (ks : List Str) (P : Paired KP ks a.parts) : PyData.canLayAll0 (a.parts.map Pt.d) = true ∧ PyData.depthAll (a.parts.map Pt.d) ≤ 1 := by
  have one : ∀ {k : Str} {p : Pt}, KP k p → PyData.canLay0 p.d = true ∧ PyData.depth p.d ≤ 1 := by
    intro k p h
    cases h with
    | names xs _ k =>
      refine ⟨lay_strs k, ?_⟩
      show PyData.depthAll (xs.map PyData.str) + 1 ≤ 1
      rw [depth_strs]
      exact Nat.le_refl _
    | number x h => exact ⟨h, Nat.zero_le _⟩
    | plain x h => exact ⟨h, Nat.zero_le _⟩
    | row x h => exact ⟨h, Nat.zero_le _⟩
    | sideS x h => exact ⟨h, Nat.zero_le _⟩
    | sideW i => exact ⟨rfl, Nat.zero_le _⟩
    | word i => exact ⟨rfl, Nat.zero_le _⟩
    | label i => exact ⟨rfl, Nat.zero_le _⟩
    | sign x h _ => exact ⟨h, Nat.zero_le _⟩
    | df x h => exact ⟨h.1, Nat.zero_le _⟩
  have go : ∀ {ks : List Str} {ps : List Pt}, Paired KP ks ps → PyData.canLayAll0 (ps.map Pt.d) = true ∧ PyData.depthAll (ps.map Pt.d) ≤ 1 := by
    intro ks ps P
    induction P with
    | nil => exact ⟨rfl, Nat.zero_le _⟩
    | @cons k p ks ps h r ih =>
      obtain ⟨a1, a2⟩ := one h
      refine ⟨?_, ?_⟩
      · show (PyData.canLay0 p.d && PyData.canLayAll0 (ps.map Pt.d)) = true
        rw [a1, ih.1]
        rfl
      · show max (PyData.depth p.d) (PyData.depthAll (ps.map Pt.d)) ≤ 1
        omega
  exact go P
theorem words_ok : ∀ {w : Str} {ks : List Str}, kindsOf w = some ks → TxOk w := by
  intro w ks h
  have all : ∀ e ∈ kTab, PyData.canLay0 (.str e.1) = true := by decide +kernel
  have key : ∀ {tab : List (Str × List Str)}, (∀ e ∈ tab, PyData.canLay0 (.str e.1) = true) → tab.lookup w = some ks → PyData.canLay0 (.str w) = true := by
    intro tab
    induction tab with
    | nil => intro _ h; cases h
    | cons e r ih =>
      intro hall h
      rw [List.lookup_cons] at h
      cases hb : (w == e.1) with
      | true =>
        rw [eq_of_beq hb]
        exact hall e List.mem_cons_self
      | false =>
        rw [hb] at h
        exact ih (fun e he => hall e (List.mem_cons_of_mem _ he)) h
  exact key all h
theorem AcOk.shaped {a : Ac} (h : AcOk a) : PySem.SeqAt.shaped a.d = true ∧ PyData.depth a.d ≤ 2 := by
  obtain ⟨ks, hk, P⟩ := h
  obtain ⟨h1, h2⟩ := Ac.lay (a := a) (fun _ _ _ => trivial) ks P
  have hd : PyData.depth a.d ≤ 2 := by
    show max (PyData.depth (.str a.word)) (PyData.depthAll (a.parts.map Pt.d)) + 1 ≤ 2
    have : PyData.depth (.str a.word) = 0 := rfl
    omega
  refine ⟨?_, hd⟩
  unfold PySem.SeqAt.shaped
  rw [Bool.and_eq_true, decide_eq_true_eq]
  refine ⟨?_, Nat.le_trans hd (by decide)⟩
  show (PyData.canLay0 (.str a.word) && PyData.canLayAll0 (a.parts.map Pt.d)) = true
  rw [show PyData.canLay0 (.str a.word) = true from words_ok hk, h1]
  rfl
end K

set_option maxRecDepth 100000
set_option maxHeartbeats 3900000
namespace K
open PySem PySem.Spec PyProof.Rows L2
section
variable {P : Program} {w : World} {K : PySem.W.Frag} {mg : Str → Option Value} {base : Heap}
theorem Paired.take {α β : Type} {R : α → β → Prop} : ∀ {xs : List α} {ys : List β}, Paired R xs ys → ∀ n, Paired R (xs.take n) (ys.take n)
  | _, _, .nil, n => by
    rw [List.take_nil, List.take_nil]
    exact .nil
  | _, _, .cons r t, 0 => .nil
  | _, _, .cons r t, n + 1 => .cons r (Paired.take t n)
/-- t[1:] of what has a head -/
theorem tail_cut {x : V} {xs : List V} : cutV (x :: xs) (some 1) none = xs := by
  unfold cutV
  have h1 : HT.sIx (x :: xs).length 0 (some 1) = 1 := by
    have := HT.sIx_nat (x :: xs).length 0 1
    rw [show ((1 : Nat) : Int) = 1 from rfl] at this
    rw [this, List.length_cons]
    omega
  rw [h1, HT.sIx_none]
  show ((x :: xs).drop 1).take ((x :: xs).length - 1) = xs
  rw [List.drop_one, List.tail_cons, List.length_cons, Nat.add_sub_cancel, List.take_length]
theorem tail_part {x : V} {xs : List V} : ¬ (HT.sIx (x :: xs).length 0 (some 1) = 0 ∧ HT.sIx (x :: xs).length (x :: xs).length none = (x :: xs).length) := fun h => by
  have := HT.sIx_nat (x :: xs).length 0 1
  rw [show ((1 : Nat) : Int) = 1 from rfl] at this
  rw [this, List.length_cons] at h
  omega
def spNames : Sp := fun vs H Q _ => ∃ (v : V) (a : Ac), vs = [v] ∧ Im H a.d v ∧ AcOk a ∧ ∀ (l : Addr) (H' : Hp), Same H H' → H l = none → H' l = some (.lst (a.names.map V.str)) → Q (.ref l) H'
end
end K

set_option maxRecDepth 100000
set_option maxHeartbeats 3900000
namespace K
open PySem PySem.Spec PyProof.Rows L2
/-- the program's word for a kind of the law's -/
def ren (k : Str) : Str := if k = "names" then "given" else if k = "def" then "callee" else k
/-- the program's table of parts -/
def Sorts (K : PySem.W.Frag) (w : World) (mg : Str → Option Value) : Prop := ∃ aS : Addr, mg "SORTS" = some (.ref aS) ∧ ∀ wd ks, kindsOf wd = some ks → ∃ a : Addr, KDct K w aS wd (.ref a) ∧ ∀ H : Hp, SqT K H a ((ks.map ren).map V.str)
section
variable {P : Program} {w : World} {K : PySem.W.Frag} {mg : Str → Option Value} {base : Heap}
abbrev s_names_in : Stmt := topS 2
theorem scI : FnScope ["act", "names", "sort", "part"] ["act"] (defScope s_names_in) := ⟨rfl, rfl, rfl, by decide +kernel, rfl, by decide +kernel, by decide +kernel⟩
theorem ok_names_in (B : Bs mg) (SO : Sorts K w mg) {f : Addr} {fd : FuncData} (F : Fun K "names_in" "names_in" s_names_in f fd) : FnOk P w K mg base CX0 1 f fd ["act"] spNames := by
  obtain ⟨aS, gS, SO⟩ := SO
  refine F.ok scI (fun vs H Q E h => ?_) (fun cdv A outer s H vs Q E hr h => ?_)
  · obtain ⟨v, a, rfl, _⟩ := h
    rfl
  · obtain ⟨v, a, rfl, hv, ok, q⟩ := h
    obtain ⟨ks, hk, hP⟩ := ok
    have few := kinds_few hk
    have plen := hP.length
    obtain ⟨ka, hka, hks⟩ := SO _ _ hk
    refine ⟨_, (pss_cons (ps_set (i := 1) scI.nd rfl (.inl rfl) (pe_lst pa_nil))
      (pss_cons (ps_for PassesOwn.never rfl (Zm.pi_zipM true true (by rfl) B.zip (pa_cons (pe_ix ix_kdict (pe_glob (v := .ref aS) (by rfl) gS rfl) (pe_ix (ixT K rfl) (pv 0) pe_int (fun _ _ => rfl)) (fun _ _ => rfl)) (pa_cons (pe_slice sl_tupA (pv 0) (po_some pe_int) po_none) pa_nil))) (pg_tup (n := 2) rfl (pgs_cons (pg_name (i := 2) scI.nd rfl (.inl rfl)) (pgs_cons (pg_name (i := 3) scI.nd rfl (.inl rfl)) pgs_nil)))
      (pss_one (ps_if (pt_cmpR op_eq (pv 2) pe_str (nomark _)) (pss_one (ps_expr (pe_bm PySem.F.plainAttrs_list PySem.F.slot_list_extend PySem.F.type_list_extend Zm.mt_extendT (pv 1) (pa_cons (pv 3) pa_nil)))) (pss_one (ps_if (pt_cmpR (inS K rfl) (pv 2) (pe_tup (pa_cons pe_str (pa_cons pe_str (pa_cons pe_str pa_nil)))) rfl) (pss_one (ps_expr (pe_bm PySem.F.plainAttrs_list PySem.F.slot_list_append PySem.F.type_list_append mt_append (pv 1) (pa_cons (pv 3) pa_nil)))) (pss_one (ps_if (PW.pt (pw_and (pt_cmpR op_eq (pv 2) pe_str (nomark _)) (pw_and1 (pt_val (pe_callB call_isi (by rfl) B.isinstance boot_isinstance (pa_cons (pv 3) (pa_cons (pe_bltn (v := .ty "str") (by rfl) B.str (by decide +kernel) rfl) pa_nil))))))) (pss_one (ps_expr (pe_bm PySem.F.plainAttrs_list PySem.F.slot_list_append PySem.F.type_list_append mt_append (pv 1) (pa_cons (pv 3) pa_nil)))) pss_nil)))))))
      (pss_one (ps_ret (pv 1))))), ?_⟩
    refine ⟨(by show 0 ≤ sizeLine; decide), fun l hl => ?_⟩
    obtain ⟨G1, e1⟩ : ∃ G, G = upd H l (.lst []) := ⟨_, rfl⟩
    have s1 : Same H G1 := e1 ▸ same_new hl
    have h1 : G1 l = some (.lst []) := by rw [e1]; exact upd_same
    dsimp only [gName]
    rw [← e1]
    have hv3 := hv.same s1
    unfold Ac.d Im at hv3
    obtain ⟨ta, txs, rfl, hta, hx⟩ := hv3
    unfold ImAll at hx
    obtain ⟨u, ps, rfl, hu, hps⟩ := hx
    unfold Im at hu
    subst hu
    refine ⟨_, rfl, ta, _, 0, _, rfl, rfl, SqT.of hta, atI_nat (j := 0) rfl, aS, a.word, _, rfl, rfl, hka, _, rfl, _, rfl, ta, _, rfl, SqT.of hta, fun h => absurd h tail_part, fun _ tb hb => ?_⟩
    rw [tail_cut]
    obtain ⟨G3, e3⟩ : ∃ G, G = upd G1 tb (.tup ps) := ⟨_, rfl⟩
    have s3 : Same G1 G3 := e3 ▸ same_new hb
    have h3 : G3 tb = some (.tup ps) := by rw [e3]; exact upd_same
    rw [← e3]
    have psl : ps.length = ks.length := by rw [hps.length, List.length_map, plen]
    refine ⟨ka, tb, _, ps, rfl, hks G3, SqT.of h3, for_it (Zm.walk (K := K) (m := true) (k := true) (xs := (ks.map ren).map V.str) (ys := ps) (n := ks.length) (by rw [List.length_map, List.length_map, psl]; omega))
      (fun i σ G => ∃ (y2 y3 : Option V), σ = [some (.ref ta), some (.ref l), y2, y3] ∧ Same H G ∧ G tb = some (.tup ps) ∧ ImAll G (a.parts.map Pt.d) ps ∧ G l = some (.lst ((pns (ks.take i) (a.parts.take i)).map V.str)))
      ⟨_, _, rfl, s1.trans s3, h3, hps.same s3, s3 _ _ h1⟩ (fun i σ G _ ⟨y2, y3, _, _, g2, _⟩ => ⟨hks G, SqT.of g2⟩) ?_ ?_⟩
    · rintro i x σ G G' hi ⟨y2, y3, rfl, s0, g2, him, gl⟩ ⟨T, kv, pv, rfl, nT, rfl, hk1, hp1⟩
      obtain ⟨k', hk3, rfl⟩ := map_at hk1
      obtain ⟨k, hk2, rfl⟩ := map_at hk3
      obtain ⟨d, hd, hpv⟩ := him.getv hp1
      obtain ⟨pt, hp2, rfl⟩ := map_at hd
      have kp : KP k pt := Paired.at hP hk2 hp2
      have stp := pns_take hk2 hp2
      have pb : (pns (ks.take i) (a.parts.take i)).length ≤ 40 := by
        have h1 := pns_len (Paired.take hP i)
        rw [List.length_take] at h1
        omega
      obtain ⟨G2, eG2⟩ : ∃ G2, G2 = upd G T (.tup [.str (ren k), pv]) := ⟨_, rfl⟩
      have sT : Same G G2 := eG2 ▸ same_new nT
      have hT : G2 T = some (.tup [.str (ren k), pv]) := by rw [eG2]; exact upd_same
      rw [← eG2]
      refine ⟨T, [.str (ren k), pv], rfl, SqT.of hT, rfl, _, [pv], rfl, _, [], rfl, rfl, ?_⟩
      have him2 := him.same sT
      have hpv2 := hpv.same sT
      have gl2 := sT _ _ gl
      have s02 := s0.trans sT
      have noth : pn k pt = [] → ∀ (σ1 : L2.St) (z2 z3 : Option V) (G3 : Hp), σ1 = [some (.ref ta), some (.ref l), z2, z3] → Same G2 G3 → (∃ (y2 y3 : Option V), σ1 = [some (.ref ta), some (.ref l), y2, y3] ∧ Same H G3 ∧ G3 tb = some (.tup ps) ∧ ImAll G3 (a.parts.map Pt.d) ps ∧ G3 l = some (.lst ((pns (ks.take (i + 1)) (a.parts.take (i + 1))).map V.str))) := fun e σ1 z2 z3 G3 eσ s3 =>
        ⟨z2, z3, eσ, s02.trans s3, s3 _ _ (sT _ _ g2), him2.same s3, by rw [stp, e, List.append_nil]; exact s3 _ _ gl2⟩
      have appd : ∀ ys : List Str, pn k pt = ys → ∀ (σ1 : L2.St) (z2 z3 : Option V) (G3 G4 : Hp), σ1 = [some (.ref ta), some (.ref l), z2, z3] → Same G2 G3 → G4 = upd G3 l (.lst ((pns (ks.take i) (a.parts.take i)).map V.str ++ ys.map V.str)) →
          (∃ (y2 y3 : Option V), σ1 = [some (.ref ta), some (.ref l), y2, y3] ∧ Same H G4 ∧ G4 tb = some (.tup ps) ∧ ImAll G4 (a.parts.map Pt.d) ps ∧ G4 l = some (.lst ((pns (ks.take (i + 1)) (a.parts.take (i + 1))).map V.str))) := fun ys e σ1 z2 z3 G3 G4 eσ s3 eG => by
        subst eG
        have gl3 := s3 _ _ gl2
        have nt : tb ≠ l := ne_of (s3 _ _ (sT _ _ g2)) gl3 (fun z => by cases z)
        refine ⟨z2, z3, eσ, same_put (s02.trans s3) hl, ?_, ?_, ?_⟩
        · rw [upd_ne nt]
          exact s3 _ _ (sT _ _ g2)
        · refine ImAll.keep (fun b xs e => ?_) _ _ (him2.same s3)
          rw [upd_ne (ne_of e gl3 (fun z => by cases z))]
          exact e
        · rw [upd_same, stp, e, List.map_append]
      clear nT eG2
      cases kp with
      | number x1 _ =>
        unfold Pt.d Im at hpv2
        subst hpv2
        refine ⟨_, rfl, rfl, _, rfl, ?_⟩
        refine ite2 (fun hn => absurd hn (by decide +kernel)) (fun _ => ?_)
        refine ⟨_, rfl, (by show 3 ≤ sizeLine; decide), fun p4 n4 => ?_⟩
        have s4 := same_new (o := .tup [.str "number", .str "plain", .str "row"]) n4
        have gl4 := s4 _ _ gl2
        refine ⟨p4, _, rfl, .inr (SqT.of upd_same), rfl, rfl, _, rfl, ?_⟩
        refine ite2 (fun _ => ?_) (fun hn => absurd (by decide +kernel) hn)
        exact ⟨_, rfl, .inl ⟨rfl, _, SqL.of gl4⟩, _, rfl, l, _, _, rfl, rfl, gl4, (by rw [List.length_map]; exact Nat.lt_of_le_of_lt pb (by decide)), appd [x1] (pn_one (.inl rfl)) _ _ _ _ _ (by rfl) s4 (by rfl)⟩
      | plain x1 _ =>
        unfold Pt.d Im at hpv2
        subst hpv2
        refine ⟨_, rfl, rfl, _, rfl, ?_⟩
        refine ite2 (fun hn => absurd hn (by decide +kernel)) (fun _ => ?_)
        refine ⟨_, rfl, (by show 3 ≤ sizeLine; decide), fun p4 n4 => ?_⟩
        have s4 := same_new (o := .tup [.str "number", .str "plain", .str "row"]) n4
        have gl4 := s4 _ _ gl2
        refine ⟨p4, _, rfl, .inr (SqT.of upd_same), rfl, rfl, _, rfl, ?_⟩
        refine ite2 (fun _ => ?_) (fun hn => absurd (by decide +kernel) hn)
        exact ⟨_, rfl, .inl ⟨rfl, _, SqL.of gl4⟩, _, rfl, l, _, _, rfl, rfl, gl4, (by rw [List.length_map]; exact Nat.lt_of_le_of_lt pb (by decide)), appd [x1] (pn_one (.inr (.inl rfl))) _ _ _ _ _ (by rfl) s4 (by rfl)⟩
      | row x1 _ =>
        unfold Pt.d Im at hpv2
        subst hpv2
        refine ⟨_, rfl, rfl, _, rfl, ?_⟩
        refine ite2 (fun hn => absurd hn (by decide +kernel)) (fun _ => ?_)
        refine ⟨_, rfl, (by show 3 ≤ sizeLine; decide), fun p4 n4 => ?_⟩
        have s4 := same_new (o := .tup [.str "number", .str "plain", .str "row"]) n4
        have gl4 := s4 _ _ gl2
        refine ⟨p4, _, rfl, .inr (SqT.of upd_same), rfl, rfl, _, rfl, ?_⟩
        refine ite2 (fun _ => ?_) (fun hn => absurd (by decide +kernel) hn)
        exact ⟨_, rfl, .inl ⟨rfl, _, SqL.of gl4⟩, _, rfl, l, _, _, rfl, rfl, gl4, (by rw [List.length_map]; exact Nat.lt_of_le_of_lt pb (by decide)), appd [x1] (pn_one (.inr (.inr (.inl rfl)))) _ _ _ _ _ (by rfl) s4 (by rfl)⟩
      | sideS x1 _ =>
        unfold Pt.d Im at hpv2
        subst hpv2
        refine ⟨_, rfl, rfl, _, rfl, ?_⟩
        refine ite2 (fun hn => absurd hn (by decide +kernel)) (fun _ => ?_)
        refine ⟨_, rfl, (by show 3 ≤ sizeLine; decide), fun p4 n4 => ?_⟩
        have s4 := same_new (o := .tup [.str "number", .str "plain", .str "row"]) n4
        have gl4 := s4 _ _ gl2
        refine ⟨p4, _, rfl, .inr (SqT.of upd_same), rfl, rfl, _, rfl, ?_⟩
        refine ite2 (fun hn => absurd hn (by decide +kernel)) (fun _ => ?_)
        refine ⟨_, rfl, rfl, _, rfl, ?_⟩
        refine ite2 (fun _ => ?_) (fun hn => absurd (by decide +kernel) hn)
        refine ⟨_, rfl, _, _, .type "str", _, true, rfl, .ty "str", .base (.str x1), kit_ty (by decide +kernel), _, rfl, ?_⟩
        exact ⟨_, rfl, .inl ⟨rfl, _, SqL.of gl4⟩, _, rfl, l, _, _, rfl, rfl, gl4, (by rw [List.length_map]; exact Nat.lt_of_le_of_lt pb (by decide)), appd [x1] (pn_one (.inr (.inr (.inr rfl)))) _ _ _ _ _ (by rfl) s4 (by rfl)⟩
      | sideW i1 =>
        unfold Pt.d Im at hpv2
        subst hpv2
        refine ⟨_, rfl, rfl, _, rfl, ?_⟩
        refine ite2 (fun hn => absurd hn (by decide +kernel)) (fun _ => ?_)
        refine ⟨_, rfl, (by show 3 ≤ sizeLine; decide), fun p4 n4 => ?_⟩
        have s4 := same_new (o := .tup [.str "number", .str "plain", .str "row"]) n4
        have gl4 := s4 _ _ gl2
        refine ⟨p4, _, rfl, .inr (SqT.of upd_same), rfl, rfl, _, rfl, ?_⟩
        refine ite2 (fun hn => absurd hn (by decide +kernel)) (fun _ => ?_)
        refine ⟨_, rfl, rfl, _, rfl, ?_⟩
        refine ite2 (fun _ => ?_) (fun hn => absurd (by decide +kernel) hn)
        refine ⟨_, rfl, _, _, .type "int", _, false, rfl, .ty "str", .base (.int i1), kit_ty (by decide +kernel), _, rfl, ?_⟩
        refine iteF ?_
        exact noth rfl _ _ _ _ (by rfl) s4
      | word i1 =>
        unfold Pt.d Im at hpv2
        subst hpv2
        refine ⟨_, rfl, rfl, _, rfl, ?_⟩
        refine ite2 (fun hn => absurd hn (by decide +kernel)) (fun _ => ?_)
        refine ⟨_, rfl, (by show 3 ≤ sizeLine; decide), fun p4 n4 => ?_⟩
        have s4 := same_new (o := .tup [.str "number", .str "plain", .str "row"]) n4
        have gl4 := s4 _ _ gl2
        refine ⟨p4, _, rfl, .inr (SqT.of upd_same), rfl, rfl, _, rfl, ?_⟩
        refine ite2 (fun hn => absurd hn (by decide +kernel)) (fun _ => ?_)
        refine ⟨_, rfl, rfl, _, rfl, ?_⟩
        refine ite2 (fun hn => absurd hn (by decide +kernel)) (fun _ => ?_)
        refine iteF ?_
        exact noth rfl _ _ _ _ (by rfl) s4
      | label i1 =>
        unfold Pt.d Im at hpv2
        subst hpv2
        refine ⟨_, rfl, rfl, _, rfl, ?_⟩
        refine ite2 (fun hn => absurd hn (by decide +kernel)) (fun _ => ?_)
        refine ⟨_, rfl, (by show 3 ≤ sizeLine; decide), fun p4 n4 => ?_⟩
        have s4 := same_new (o := .tup [.str "number", .str "plain", .str "row"]) n4
        have gl4 := s4 _ _ gl2
        refine ⟨p4, _, rfl, .inr (SqT.of upd_same), rfl, rfl, _, rfl, ?_⟩
        refine ite2 (fun hn => absurd hn (by decide +kernel)) (fun _ => ?_)
        refine ⟨_, rfl, rfl, _, rfl, ?_⟩
        refine ite2 (fun hn => absurd hn (by decide +kernel)) (fun _ => ?_)
        refine iteF ?_
        exact noth rfl _ _ _ _ (by rfl) s4
      | sign x1 _ _ =>
        unfold Pt.d Im at hpv2
        subst hpv2
        refine ⟨_, rfl, rfl, _, rfl, ?_⟩
        refine ite2 (fun hn => absurd hn (by decide +kernel)) (fun _ => ?_)
        refine ⟨_, rfl, (by show 3 ≤ sizeLine; decide), fun p4 n4 => ?_⟩
        have s4 := same_new (o := .tup [.str "number", .str "plain", .str "row"]) n4
        have gl4 := s4 _ _ gl2
        refine ⟨p4, _, rfl, .inr (SqT.of upd_same), rfl, rfl, _, rfl, ?_⟩
        refine ite2 (fun hn => absurd hn (by decide +kernel)) (fun _ => ?_)
        refine ⟨_, rfl, rfl, _, rfl, ?_⟩
        refine ite2 (fun hn => absurd hn (by decide +kernel)) (fun _ => ?_)
        refine iteF ?_
        exact noth (pn_nil (by decide +kernel)) _ _ _ _ (by rfl) s4
      | df x1 _ =>
        unfold Pt.d Im at hpv2
        subst hpv2
        refine ⟨_, rfl, rfl, _, rfl, ?_⟩
        refine ite2 (fun hn => absurd hn (by decide +kernel)) (fun _ => ?_)
        refine ⟨_, rfl, (by show 3 ≤ sizeLine; decide), fun p4 n4 => ?_⟩
        have s4 := same_new (o := .tup [.str "number", .str "plain", .str "row"]) n4
        have gl4 := s4 _ _ gl2
        refine ⟨p4, _, rfl, .inr (SqT.of upd_same), rfl, rfl, _, rfl, ?_⟩
        refine ite2 (fun hn => absurd hn (by decide +kernel)) (fun _ => ?_)
        refine ⟨_, rfl, rfl, _, rfl, ?_⟩
        refine ite2 (fun hn => absurd hn (by decide +kernel)) (fun _ => ?_)
        refine iteF ?_
        exact noth (pn_nil (by decide +kernel)) _ _ _ _ (by rfl) s4
      | names xs1 hx1 _ =>
        unfold Pt.d Im at hpv2
        obtain ⟨b, zs, rfl, hb1, hb2⟩ := hpv2
        rw [hb2.strs_eq] at hb1
        refine ⟨_, rfl, rfl, _, rfl, ?_⟩
        refine ite2 (fun _ => ?_) (fun hn => absurd (by decide +kernel) hn)
        exact ⟨_, rfl, .inl ⟨rfl, _, SqL.of gl2⟩, _, rfl, l, b, _, _, rfl, rfl, gl2, SqT.of hb1, (by rw [List.length_map, List.length_map]; exact Nat.le_trans (show _ ≤ 50 by omega) (by decide)), appd xs1 pn_all _ _ _ _ _ (by rfl) (Same.refl _) (by rfl)⟩
    · rintro σ G ⟨y2, y3, rfl, s0, g2, him, gl⟩
      refine ⟨_, rfl, q l G s0 hl ?_⟩
      rw [gl, List.take_length, plen, List.take_length]
      unfold Ac.names
      rw [hk]
      rfl
end
end K

set_option maxRecDepth 100000
set_option maxHeartbeats 3900000
namespace K
open PySem PySem.Spec PyProof.Rows L2
/-! ### lists that rise, each once -/
theorem len_sub {α : Type} [DecidableEq α] : ∀ {l m : List α}, l.Nodup → (∀ x ∈ l, x ∈ m) → l.length ≤ m.length
  | [], _, _, _ => Nat.zero_le
      _
  | a :: l, m, h, s => by
    have h1 := List.nodup_cons.mp h
    have ih := len_sub (l := l) (m := m.erase a) h1.2 fun x hx => (List.mem_erase_of_ne (fun e : x = a => h1.1 (e ▸ hx))).mpr (s x (List.mem_cons_of_mem _ hx))
    have hm : a ∈ m := s a List.mem_cons_self
    have := List.length_erase_of_mem hm
    have hp : 0 < m.length := List.length_pos_of_mem hm
    rw [List.length_cons]
    omega
def ltS (a b : Str) : Prop := a.cps.toList < b.cps.toList
theorem rising_all : ∀ {r : List Str} {p : Str}, risingS p r = true → ∀ x ∈ r, ¬ ltS x p
  | [], _, _, x, h => nomatch h
  | y :: r, p, h, x, hx => by
    unfold risingS at h
    rw [Bool.and_eq_true] at h
    have h1 : ¬ ltS y p := fun z => by
      have := h.1
      rw [ltCps_eq] at this
      have z' : decide (y.cps.toList < p.cps.toList) = true := decide_eq_true z
      rw [z'] at this
      cases this
    rcases List.mem_cons.mp hx with e | e
    · exact e ▸ h1
    · have h2 := rising_all h.2 x e
      intro z
      exact h1 (List.lt_of_le_of_lt (List.not_lt.mp h2) z)
theorem sorted_tail {p : Str} {r : List Str} (h : sortedS (p :: r) = true) : sortedS r = true := by
  cases r with
  | nil => rfl
  | cons y r =>
    unfold sortedS risingS at h
    rw [Bool.and_eq_true] at h
    exact h.2
theorem str_eq {a b : Str} (h : ¬ ltS a b) (k : ¬ ltS b a) : a = b := by
  have : a.cps.toList = b.cps.toList := List.le_antisymm (List.not_lt.mp k) (List.not_lt.mp h)
  have e := congrArg List.toArray this
  rw [Array.toArray_toList, Array.toArray_toList] at e
  cases a
  cases b
  cases e
  rfl
theorem sorted_uniq : ∀ {xs ys : List Str}, xs.Nodup → ys.Nodup → sortedS xs = true → sortedS ys = true → (∀ z, z ∈ xs ↔ z ∈ ys) → xs = ys
  | [], [], _, _, _, _, _ =>
      rfl
  | [], y :: ys, _, _, _, _, h => nomatch (h y).mpr List.mem_cons_self
  | x :: xs, [], _, _, _, _, h => nomatch (h x).mp List.mem_cons_self
  | x :: xs, y :: ys, nx, ny, sx, sy, h => by
    have e : x = y := by
      have a1 := (h x).mp List.mem_cons_self
      have a2 := (h y).mpr List.mem_cons_self
      rcases List.mem_cons.mp a1 with e | m1
      · exact e
      rcases List.mem_cons.mp a2 with e | m2
      · exact e.symm
      exact str_eq (rising_all sy x m1) (rising_all sx y m2)
    subst e
    have n1 := List.nodup_cons.mp nx
    have n2 := List.nodup_cons.mp ny
    rw [sorted_uniq n1.2 n2.2 (sorted_tail sx) (sorted_tail sy) fun z => by
      have := h z
      rw [List.mem_cons, List.mem_cons] at this
      constructor
      · intro m
        rcases this.mp (.inr m) with e | m'
        · exact absurd (e ▸ m) n1.1
        · exact m'
      · intro m
        rcases this.mpr (.inr m) with e | m'
        · exact absurd (e ▸ m) n2.1
        · exact m']
/-! ### definitions -/
structure Dn where
  (name : Str) (params fingers rows : List Str) (steps : List (Int × Ac))
def stD (s : Int × Ac) : PyData := .tuple [.int s.1, s.2.d]
def Dn.d (d : Dn) : PyData := .tuple [.str d.name, .tuple (d.params.map .str), .tuple (d.fingers.map .str), .tuple (d.rows.map .str), .tuple (d.steps.map stD)]
def stN (l : List (Int × Ac)) : List Str := (l.map fun s => s.2.names).flatten
def Dn.every (d : Dn) : List Str := d.params ++ d.fingers ++ d.rows ++ stN d.steps
/-- the names of d, each once, rising -/
def IsN (d : Dn) (ys : List Str) : Prop := ys.Nodup ∧ sortedS ys = true ∧ ∀ y, y ∈ ys ↔ y ∈ d.every
theorem IsN.uniq {d : Dn} {xs ys : List Str} (a : IsN d xs) (b : IsN d ys) : xs = ys := sorted_uniq a.1 b.1 a.2.1 b.2.1 fun z => (a.2.2 z).trans (b.2.2 z).symm
structure DnOk (d : Dn) : Prop where
  acts : ∀ s ∈ d.steps, AcOk s.2
  few : d.steps.length ≤ 30
  parts : d.params.length ≤ 10 ∧ d.fingers.length ≤ 10 ∧ d.rows.length ≤ 10
  ok : ∀ y ∈ d.every, TxOk y
  small : ∃ all : List Str, all.length ≤ 60 ∧ ∀ y ∈ d.every, y ∈ all
theorem names_len {a : Ac} (h : AcOk a) : a.names.length ≤ 40 := by
  obtain ⟨ks, hk, P⟩ := h
  have h1 := pns_len P
  have h2 := kinds_few hk
  unfold Ac.names
  rw [hk]
  show (pns ks a.parts).length ≤ 40
  omega
theorem stN_len : ∀ {l : List (Int × Ac)}, (∀ s ∈ l, AcOk s.2) → (stN l).length ≤ 40 * l.length
  | [], _ => Nat.le_refl _
  | s :: l, h => by
    have h1 := names_len (h s List.mem_cons_self)
    have h2 := stN_len (l := l) fun x hx => h x (List.mem_cons_of_mem _ hx)
    show (s.2.names ++ stN l).length ≤ _
    rw [List.length_append, List.length_cons]
    omega
theorem stN_take {l : List (Int × Ac)} {i : Nat} {s : Int × Ac} (h : l[i]? = some s) : stN (l.take (i + 1)) = stN (l.take i) ++ s.2.names := by
  unfold stN
  rw [List.take_add_one, h, List.map_append, List.flatten_append]
  simp
section
variable {P : Program} {w : World} {K : PySem.W.Frag} {mg : Str → Option Value} {base : Heap}
abbrev s_names_of : Stmt := topS 4
/-- all names of a definition, rising: told of the program and of the law alike -/
def spAll : Sp := fun vs H Q _ => ∃ (v : V) (d : Dn), vs = [v] ∧ Im H d.d v ∧ DnOk d ∧ ∀ (l : Addr) (ys : List Str) (H' : Hp), Same H H' → H l = none → IsN d ys → H' l = some (.lst (ys.map V.str)) → Q (.ref l) H'
theorem scNO : FnScope ["definition", "params", "fingers", "rows", "steps", "names", "step"] ["definition"] (defScope s_names_of) := ⟨rfl, rfl, rfl, by decide +kernel, rfl, by decide +kernel, by decide +kernel⟩
/-- a definition's parts, where it stands -/
theorem Dn.at {H : Hp} {d : Dn} {v : V} (h : Im H d.d v) : ∃ a p f r t : Addr, ∃ ss : List V, v = .ref a ∧ H a = some (.tup [.str d.name, .ref p, .ref f, .ref r, .ref t]) ∧ H p = some (.tup (d.params.map V.str)) ∧ H f = some (.tup (d.fingers.map V.str)) ∧ H r = some (.tup (d.rows.map V.str)) ∧
    H t = some (.tup ss) ∧ ImAll H (d.steps.map stD) ss := by
  unfold Dn.d Im at h
  obtain ⟨a, xs, rfl, ha, h⟩ := h
  unfold ImAll at h
  obtain ⟨v1, r1, rfl, h1, h⟩ := h
  unfold ImAll at h
  obtain ⟨v2, r2, rfl, h2, h⟩ := h
  unfold ImAll at h
  obtain ⟨v3, r3, rfl, h3, h⟩ := h
  unfold ImAll at h
  obtain ⟨v4, r4, rfl, h4, h⟩ := h
  unfold ImAll at h
  obtain ⟨v5, r5, rfl, h5, h⟩ := h
  unfold ImAll at h
  subst h
  unfold Im at h1 h2 h3 h4 h5
  obtain ⟨p, x2, rfl, e2, g2⟩ := h2
  obtain ⟨f, x3, rfl, e3, g3⟩ := h3
  obtain ⟨r, x4, rfl, e4, g4⟩ := h4
  obtain ⟨t, x5, rfl, e5, g5⟩ := h5
  subst h1
  rw [g2.strs_eq] at e2
  rw [g3.strs_eq] at e3
  rw [g4.strs_eq] at e4
  exact ⟨a, p, f, r, t, x5, rfl, ha, e2, e3, e4, e5, g5⟩
/-- a step's parts -/
theorem st_at {H : Hp} {s : Int × Ac} {v : V} (h : Im H (stD s) v) : ∃ (a : Addr) (u : V), v = .ref a ∧ H a = some (.tup [.int s.1, u]) ∧ Im H s.2.d u := by
  unfold stD Im at h
  obtain ⟨a, xs, rfl, ha, h⟩ := h
  unfold ImAll at h
  obtain ⟨v1, r1, rfl, h1, h⟩ := h
  unfold ImAll at h
  obtain ⟨v2, r2, rfl, h2, h⟩ := h
  unfold ImAll at h
  subst h
  unfold Im at h1
  subst h1
  exact ⟨a, v2, rfl, ha, h2⟩
theorem ok_names_of (B : Bs mg) (c_names_in : C8.Cal P w K mg base 1 "names_in" spNames []) {f : Addr} {fd : FuncData} (F : Fun K "names_of" "names_of" s_names_of f fd) : FnOk P w K mg base CX0 2 f fd ["definition"] spAll := by
  refine F.ok scNO (fun vs H Q E h => ?_) (fun cdv A outer s H vs Q E hr h => ?_)
  · obtain ⟨v, d, rfl, _⟩ := h
    rfl
  · obtain ⟨v, d, rfl, hv, ok, q⟩ := h
    obtain ⟨a, p, f, r, t, ss, rfl, ha, hp, hf, hrr, ht, hss⟩ := Dn.at hv
    obtain ⟨b1, b2, b3⟩ := ok.parts
    refine ⟨_, (pss_cons (ps_asg (pe_slice sl_tupA (pv 0) (po_some pe_int) po_none) (pg_tup (n := 4) rfl (pgs_cons (pg_name (i := 1) scNO.nd rfl (.inl rfl)) (pgs_cons (pg_name (i := 2) scNO.nd rfl (.inl rfl)) (pgs_cons (pg_name (i := 3) scNO.nd rfl (.inl rfl)) (pgs_cons (pg_name (i := 4) scNO.nd rfl (.inl rfl)) pgs_nil))))))
      (pss_cons (ps_set (i := 5) scNO.nd rfl (.inl rfl) (pe_lst (StX.pa_star (pv 1) (StX.pa_star (pv 2) (StX.pa_star (pv 3) pa_nil)))))
      (pss_cons (ps_for PassesOwn.never rfl (pi_tup (pv 4)) (pg_name (i := 6) scNO.nd rfl (.inl rfl))
      (pss_one (ps_expr (pe_bm PySem.F.plainAttrs_list PySem.F.slot_list_extend PySem.F.type_list_extend mt_extend (pv 5) (pa_cons (C8.pe_c c_names_in hr (by decide) (by rfl) (pa_cons (pe_ix (ixT K rfl) (pv 6) pe_int (fun _ _ => rfl)) pa_nil)) pa_nil)))))
      (pss_one (ps_ret (pe_callB (Ts.cr_srt rfl) (by rfl) B.sorted PyProof.Rows.boot_sorted (pa_cons (pe_callTy (Ts.cr_set rfl) (by rfl) B.set (by decide +kernel) (pa_cons (pv 5) pa_nil)) pa_nil))))))), ?_⟩
    refine ⟨_, rfl, _, rfl, a, _, rfl, SqT.of ha, fun h => absurd h tail_part, fun _ c hc => ?_⟩
    rw [tail_cut]
    obtain ⟨G1, e1⟩ : ∃ G, G = upd H c (.tup [.ref p, .ref f, .ref r, .ref t]) := ⟨_, rfl⟩
    have s1 : Same H G1 := e1 ▸ same_new hc
    have h1 : G1 c = some (.tup [.ref p, .ref f, .ref r, .ref t]) := by rw [e1]; exact upd_same
    rw [← e1]
    refine ⟨c, _, rfl, SqT.of h1, rfl, _, _, rfl, _, _, rfl, _, _, rfl, _, _, rfl, rfl, ?_⟩
    refine ⟨_, rfl, p, _, rfl, .inl (SqT.of (s1 _ _ hp)), _, rfl, f, _, rfl, .inl (SqT.of (s1 _ _ hf)), _, rfl, r, _, rfl, .inl (SqT.of (s1 _ _ hrr)), ?_⟩
    refine ⟨?_, fun l hl => ?_⟩
    · rw [List.length_append, List.length_append, List.length_append, List.length_map, List.length_map, List.length_map]
      exact Nat.le_trans (show _ ≤ 100 by simp only [List.length_nil]; omega) (by decide)
    obtain ⟨G2, e2⟩ : ∃ G, G = upd G1 l (.lst ((d.params ++ d.fingers ++ d.rows).map V.str)) := ⟨_, rfl⟩
    have s2 : Same G1 G2 := e2 ▸ same_new hl
    have h2 : G2 l = some (.lst ((d.params ++ d.fingers ++ d.rows).map V.str)) := by rw [e2]; exact upd_same
    have ee : (d.params.map V.str ++ (d.fingers.map V.str ++ (d.rows.map V.str ++ []))) = (d.params ++ d.fingers ++ d.rows).map V.str := by simp
    dsimp only [gName]
    rw [ee, ← e2]
    have s02 := s1.trans s2
    have nl : H l = none := none_of s1 hl
    have lss := hss.length
    rw [List.length_map] at lss
    refine ⟨_, rfl, t, rfl, ⟨_, SqT.of (s02 _ _ ht)⟩, for_it (walk_tup (K := K) (a := t) (xs := ss)) (fun i σ G => ∃ y6 : Option V, σ = [some (.ref a), some (.ref p), some (.ref f), some (.ref r), some (.ref t), some (.ref l), y6] ∧ Same H G ∧ G l = some (.lst ((d.params ++ d.fingers ++ d.rows ++ stN (d.steps.take i)).map V.str)))
      ⟨_, rfl, s02, by rw [h2]; simp [stN]⟩ (fun i σ G _ ⟨_, _, s, _⟩ => SqT.of (s _ _ ht)) ?_ ?_⟩
    · rintro i x σ G G' hi ⟨y6, rfl, s0, gl⟩ ⟨rfl, hx⟩
      obtain ⟨dd, hd1, hx1⟩ := hss.getv hx
      obtain ⟨st, hst, rfl⟩ := map_at hd1
      obtain ⟨sa, su, rfl, hsa, hsu⟩ := st_at (hx1.same s0)
      have aok := ok.acts st (List.mem_of_getElem? hst)
      refine ⟨_, rfl, .inl ⟨rfl, _, SqL.of gl⟩, _, rfl, sa, _, 1, _, rfl, rfl, SqT.of hsa, atI_nat (j := 1) rfl, su, st.2, rfl, hsu, aok, fun l2 G3 s3 n2 h3 => ?_⟩
      have gl3 := s3 _ _ gl
      have stl := stN_len (l := d.steps.take i) fun s hs => ok.acts s (List.mem_of_mem_take hs)
      have tl : (d.steps.take i).length ≤ 30 := Nat.le_trans (List.length_take_le' _ _) ok.few
      have nl2 := names_len aok
      refine ⟨l, l2, _, _, rfl, rfl, gl3, h3, ?_, ?_⟩
      · rw [List.length_map, List.length_map, List.length_append, List.length_append, List.length_append]
        exact Nat.le_trans (show _ ≤ 2000 by omega) (by decide)
      · refine ⟨_, rfl, same_put (s0.trans s3) nl, ?_⟩
        rw [upd_same, ← List.map_append, stN_take hst, List.append_assoc]
    · rintro σ G ⟨y6, rfl, s0, gl⟩
      rw [lss, List.take_length] at gl
      have stl := stN_len (l := d.steps) ok.acts
      have tl := ok.few
      have el : (d.params ++ d.fingers ++ d.rows ++ stN d.steps).length < 4000 := by
        rw [List.length_append, List.length_append, List.length_append]
        omega
      refine ⟨_, rfl, l, d.every, rfl, SqL.of gl, el, fun z L hz nd mem => ?_⟩
      obtain ⟨all, al, hall⟩ := ok.small
      have few : L.length < 64 := Nat.lt_of_le_of_lt (Nat.le_trans (len_sub nd fun y hy => hall y ((mem y).mp hy)) al) (by decide)
      have s4 := same_new (o := Ts.SetT P w z L) hz
      refine ⟨z, L, rfl, upd_same, few, fun ys l' py ny sy hl' => ?_⟩
      have s5 := same_new (o := .lst (ys.map V.str)) hl'
      exact q l' ys _ ((s0.trans s4).trans s5) (none_of (s0.trans s4) hl') ⟨ny, sy, fun y => (py.mem_iff).trans (mem y)⟩ upd_same
end
end K

set_option maxRecDepth 100000
set_option maxHeartbeats 3900000
namespace K
open PySem PySem.Spec PyProof.Rows L2
section
variable {P : Program} {w : World} {K : PySem.W.Frag} {mg : Str → Option Value} {base : Heap}
/-- of a definition's names those that are no rows -/
def spNums : Sp := fun vs H Q _ => ∃ (v : V) (d : Dn), vs = [v] ∧ Im H d.d v ∧ DnOk d ∧ ∀ (l : Addr) (ys : List Str) (H' : Hp), Same H H' → H l = none → IsN d ys → H' l = some (.lst ((ys.filter fun y => decide (y ∉ d.rows)).map V.str)) → Q (.ref l) H'
theorem in_strs : ∀ {xs : List Str} {y : Str}, inV (.str y) (xs.map V.str) = decide (y ∈ xs)
  | [], y => rfl
  | x :: r, y => by
    have ih := in_strs (xs := r) (y := y)
    have h1 : eqV (.str x) (.str y) = decide (x = y) := by
      by_cases e : x = y
      · subst e
        rw [decide_eq_true rfl]
        simp [eqV]
      · rw [decide_eq_false e]
        simp [eqV, e]
    show (eqV (.str x) (.str y) || inV (.str y) (r.map V.str)) = _
    rw [h1, ih]
    by_cases e : x = y
    · subst e
      simp
    · simp [e, Ne.symm e]
theorem flat_strs : ∀ xs : List Str, (xs.map V.str).all flatV = true
  | [] => rfl
  | x :: r => by
    rw [List.map_cons, List.all_cons, flat_strs r]
    rfl
end
end K

set_option maxRecDepth 100000
set_option maxHeartbeats 3900000
namespace K
open PySem PySem.Spec PyProof.Rows L2
/-! ### programs -/
structure Pg where
  (wide : Int) (defs : List Dn)
def Pg.d (p : Pg) : PyData := .tuple [.int p.wide, .tuple (p.defs.map Dn.d)]
theorem Pg.at {H : Hp} {p : Pg} {v : V} (h : Im H p.d v) : ∃ a t : Addr, ∃ ds : List V, v = .ref a ∧ H a = some (.tup [.int p.wide, .ref t]) ∧ H t = some (.tup ds) ∧ ImAll H (p.defs.map Dn.d) ds := by
  unfold Pg.d Im at h
  obtain ⟨a, xs, rfl, ha, h⟩ := h
  unfold ImAll at h
  obtain ⟨v1, r1, rfl, h1, h⟩ := h
  unfold ImAll at h
  obtain ⟨v2, r2, rfl, h2, h⟩ := h
  unfold ImAll at h
  subst h
  unfold Im at h1 h2
  obtain ⟨t, x5, rfl, e5, g5⟩ := h2
  subst h1
  exact ⟨a, t, x5, rfl, ha, e5, g5⟩
theorem pl_at {H : Hp} {x : Str} {i : Int} {v : V} (h : Im H (.tuple [.str x, .int i]) v) : ∃ a : Addr, v = .ref a ∧ H a = some (.tup [.str x, .int i]) := by
  unfold Im at h
  obtain ⟨a, xs, rfl, ha, h⟩ := h
  unfold ImAll at h
  obtain ⟨v1, r1, rfl, h1, h⟩ := h
  unfold ImAll at h
  obtain ⟨v2, r2, rfl, h2, h⟩ := h
  unfold ImAll at h
  subst h
  unfold Im at h1 h2
  subst h1 h2
  exact ⟨a, rfl, ha⟩
/-- the first of that name, of that label -/
def FirstD (p : Pg) (x : Str) (i : Nat) (d : Dn) : Prop := p.defs[i]? = some d ∧ d.name = x ∧ ∀ j e, j < i → p.defs[j]? = some e → e.name ≠ x
def FirstS (d : Dn) (l : Int) (k : Nat) (a : Ac) : Prop := d.steps[k]? = some (l, a) ∧ ∀ j e, j < k → d.steps[j]? = some e → e.1 ≠ l
section
variable {P : Program} {w : World} {K : PySem.W.Frag} {mg : Str → Option Value} {base : Heap}
abbrev s_def_at : Stmt := topS 6
def spDef : Sp := fun vs H Q _ => ∃ (v : V) (p : Pg) (x : Str) (i : Nat) (d : Dn), vs = [v, .str x] ∧ Im H p.d v ∧ p.defs.length ≤ 1000 ∧ FirstD p x i d ∧ ∀ (u : V) (H' : Hp), Same H H' → Im H' d.d u → Q u H'
theorem scDA : FnScope ["program", "name", "names", "definition"] ["program", "name"] (defScope s_def_at) := ⟨rfl, rfl, rfl, by decide +kernel, rfl, by decide +kernel, by decide +kernel⟩
theorem ok_def_at {f : Addr} {fd : FuncData} (F : Fun K "def_at" "def_at" s_def_at f fd) : FnOk P w K mg base CX0 1 f fd ["program", "name"] spDef := by
  refine F.ok scDA (fun vs H Q E h => ?_) (fun cdv A outer s H vs Q E hr h => ?_)
  · obtain ⟨v, p, x, i, d, rfl, _⟩ := h
    rfl
  · obtain ⟨v, p, x, i, d, rfl, hv, few, ⟨hi, hx, fst⟩, q⟩ := h
    obtain ⟨a, t, ds, rfl, ha, ht, hds⟩ := Pg.at hv
    refine ⟨_, (pss_cons (ps_setLc (i := 2) (own := [("definition", 3)]) (g := gName 3) (tt := tYes) (by rfl) scDA.nd rfl rfl (sw_true rfl rfl rfl (by decide +kernel)) (pi_tup (pe_ix (ixT K rfl) (pv 0) pe_int (fun _ _ => rfl))) (blkOk_by (own := [("definition", 3)]) (N := ["program", "name", "names", "definition"]) (sc := defScope s_def_at) (by decide +kernel)) (fun _ _ _ _ _ => (pg_name (i := 3) scDA.nd rfl (.inl rfl) (hf := .inr rfl))) (fun _ _ _ _ _ => pts_nil) (fun _ _ _ _ _ => (pe_ix (ixT K rfl) (pv 3) pe_int (fun _ _ => rfl))))
      (pss_one (ps_ret (pe_ix (ixT K rfl) (pe_ix (ixT K rfl) (pv 0) pe_int (fun _ _ => rfl)) (pe_bm PySem.F.plainAttrs_list PySem.F.slot_list_index PySem.F.type_list_index mt_index (pv 2) (pa_cons (pv 1) pa_nil)) (fun _ _ => rfl))))), ?_⟩
    have dsl := hds.length
    rw [List.length_map] at dsl
    refine ⟨_, rfl, a, _, 1, _, rfl, rfl, SqT.of ha, atI_nat (j := 1) rfl, t, rfl, ⟨_, SqT.of ht⟩, fun D hD => ?_⟩
    refine lc_w (walk_tup (K := K) (a := t) (xs := ds)) (fun _ => False) (fun j acc G => acc = ((p.defs.take j).map Dn.name).map V.str) id hD (Nat.lt_of_le_of_lt (show ds.length ≤ 1000 by omega) (by decide)) (fun j acc G G' h _ => h) rfl (fun j acc G _ b _ => SqT.of (Bt.same b _ _ ht)) ?_ ?_
    · rintro j acc z Ga Gb hj hb rfl hA hal ⟨rfl, hz⟩ N N0 q1 q0
      obtain ⟨dd, hd1, hz1⟩ := hds.getv hz
      obtain ⟨e, he, rfl⟩ := map_at hd1
      obtain ⟨a', p', f', r', t', ss', rfl, ha', _⟩ := Dn.at (hz1.same (Bt.same hb))
      refine ⟨rfl, ?_⟩
      refine ⟨_, rfl, a', _, 0, _, rfl, rfl, SqT.of ha', atI_nat (j := 0) rfl, q1 _ _ .refl ?_⟩
      rw [List.take_add_one, he, List.map_append, List.map_append]
      rfl
    · rintro acc G hb hA hal rfl
      rw [dsl, List.take_length] at hA
      have s1 : Same H G := Bt.same hb
      obtain ⟨u, hu, hu1⟩ := hds.get (i := i) (d := d.d) (by rw [List.getElem?_map, hi]; rfl)
      refine ⟨_, rfl, a, _, 1, _, rfl, rfl, SqT.of (s1 _ _ ha), atI_nat (j := 1) rfl, _, rfl, .inl ⟨rfl, _, SqL.of hA⟩, _, rfl, D, _, .str x, i, .str x, rfl, rfl, SqL.of hA, rfl, flat_strs _, ?_, ?_, ?_, t, ds, (i : Int), u, rfl, rfl, SqT.of (s1 _ _ ht), atI_nat hu, q u G s1 (hu1.same s1)⟩
      · rw [List.getElem?_map, List.getElem?_map, hi]
        show some (V.str d.name) = some (.str x)
        rw [hx]
      · simp [eqV]
      · intro m z' hm hz'
        obtain ⟨y, hy, rfl⟩ := map_at hz'
        obtain ⟨e, he, rfl⟩ := map_at hy
        have := fst m e hm he
        simp [eqV, this]
abbrev s_number_of : Stmt := topS 8
def spNum : Sp := fun vs H Q _ => ∃ (t : Addr) (ss : List V) (d : Dn) (l : Int) (k : Nat) (a : Ac), vs = [.ref t, .int l] ∧ H t = some (.tup ss) ∧ ImAll H (d.steps.map stD) ss ∧ d.steps.length ≤ 1000 ∧ FirstS d l k a ∧ ∀ (H' : Hp), Same H H' → Q (.int (k : Nat)) H'
theorem scNB : FnScope ["steps", "label", "step"] ["steps", "label"] (defScope s_number_of) := ⟨rfl, rfl, rfl, by decide +kernel, rfl, by decide +kernel, by decide +kernel⟩
theorem flat_ints : ∀ xs : List Int, (xs.map V.int).all flatV = true
  | [] => rfl
  | x :: r => by
    rw [List.map_cons, List.all_cons, flat_ints r]
    rfl
theorem ok_number_of {f : Addr} {fd : FuncData} (F : Fun K "_number_of" "_number_of" s_number_of f fd) : FnOk P w K mg base CX0 1 f fd ["steps", "label"] spNum := by
  refine F.ok scNB (fun vs H Q E h => ?_) (fun cdv A outer s H vs Q E hr h => ?_)
  · obtain ⟨t, ss, d, l, k, a, rfl, _⟩ := h
    rfl
  · obtain ⟨t, ss, d, l, k, a, rfl, ht, hss, few, ⟨hk, fst⟩, q⟩ := h
    refine ⟨_, (pss_one (ps_ret (pe_bm PySem.F.plainAttrs_list PySem.F.slot_list_index PySem.F.type_list_index mt_index (pe_lc (own := [("step", 2)]) (g := gName 2) (tt := tYes) (by rfl) scNB.nd (pi_tup (pv 0)) (blkOk_by (own := [("step", 2)]) (N := ["steps", "label", "step"]) (sc := defScope s_number_of) (by decide +kernel)) (fun _ _ _ _ _ => (pg_name (i := 2) scNB.nd rfl (.inl rfl) (hf := .inr rfl))) (fun _ _ _ _ _ => pts_nil) (fun _ _ _ _ _ => (pe_ix (ixT K rfl) (pv 2) pe_int (fun _ _ => rfl)))) (pa_cons (pv 1) pa_nil)))), ?_⟩
    have ssl := hss.length
    rw [List.length_map] at ssl
    refine ⟨_, rfl, t, rfl, ⟨_, SqT.of ht⟩, fun D hD => ?_⟩
    refine lc_w (walk_tup (K := K) (a := t) (xs := ss)) (fun _ => False) (fun j acc G => acc = ((d.steps.take j).map (·.1)).map V.int) id hD (Nat.lt_of_le_of_lt (show ss.length ≤ 1000 by omega) (by decide)) (fun j acc G G' h _ => h) rfl (fun j acc G _ b _ => SqT.of (Bt.same b _ _ ht)) ?_ ?_
    · rintro j acc z Ga Gb hj hb rfl hA hal ⟨rfl, hz⟩ N N0 q1 q0
      obtain ⟨dd, hd1, hz1⟩ := hss.getv hz
      obtain ⟨e, he, rfl⟩ := map_at hd1
      obtain ⟨a', u', rfl, ha', _⟩ := st_at (hz1.same (Bt.same hb))
      refine ⟨rfl, ?_⟩
      refine ⟨_, rfl, a', _, 0, _, rfl, rfl, SqT.of ha', atI_nat (j := 0) rfl, q1 _ _ .refl ?_⟩
      rw [List.take_add_one, he, List.map_append, List.map_append]
      rfl
    · rintro acc G hb hA hal rfl
      rw [ssl, List.take_length] at hA
      refine ⟨.inl ⟨rfl, _, SqL.of hA⟩, _, rfl, D, _, .int l, k, .int l, rfl, rfl, SqL.of hA, rfl, flat_ints _, ?_, ?_, ?_, q G (Bt.same hb)⟩
      · rw [List.getElem?_map, List.getElem?_map, hk]
        rfl
      · simp [eqV]
      · intro m z' hm hz'
        obtain ⟨y, hy, rfl⟩ := map_at hz'
        obtain ⟨e, he, rfl⟩ := map_at hy
        have := fst m e hm he
        simp [eqV, this]
abbrev s_act_at : Stmt := topS 5
def spAct : Sp := fun vs H Q _ => ∃ (v pl : V) (p : Pg) (x : Str) (l : Int) (i : Nat) (d : Dn) (k : Nat) (a : Ac), vs = [v, pl] ∧ Im H p.d v ∧ Im H (.tuple [.str x, .int l]) pl ∧ p.defs.length ≤ 1000 ∧ d.steps.length ≤ 1000 ∧ FirstD p x i d ∧ FirstS d l k a ∧
  ∀ (u : V) (H' : Hp), Same H H' → Im H' a.d u → Q u H'
theorem scAA : FnScope ["program", "place", "steps"] ["program", "place"] (defScope s_act_at) := ⟨rfl, rfl, rfl, by decide +kernel, rfl, by decide +kernel, by decide +kernel⟩
theorem ok_act_at (c_def_at : C8.Cal P w K mg base 1 "def_at" spDef []) (c_number_of : C8.Cal P w K mg base 1 "_number_of" spNum []) {f : Addr} {fd : FuncData} (F : Fun K "act_at" "act_at" s_act_at f fd) : FnOk P w K mg base CX0 2 f fd ["program", "place"] spAct := by
  refine F.ok scAA (fun vs H Q E h => ?_) (fun cdv A outer s H vs Q E hr h => ?_)
  · obtain ⟨v, pl, p, x, l, i, d, k, a, rfl, _⟩ := h
    rfl
  · obtain ⟨v, pl, p, x, l, i, d, k, a, rfl, hv, hpl, few, few2, fd1, fs1, q⟩ := h
    obtain ⟨pa, rfl, hpa⟩ := pl_at hpl
    refine ⟨_, (pss_cons (ps_set (i := 2) scAA.nd rfl (.inl rfl) (pe_ix (ixT K rfl) (C8.pe_c c_def_at hr (by decide) (by rfl) (pa_cons (pv 0) (pa_cons (pe_ix (ixT K rfl) (pv 1) pe_int (fun _ _ => rfl)) pa_nil))) pe_int (fun _ _ => rfl)))
      (pss_one (ps_ret (pe_ix (ixT K rfl) (pe_ix (ixT K rfl) (pv 2) (C8.pe_c c_number_of hr (by decide) (by rfl) (pa_cons (pv 2) (pa_cons (pe_ix (ixT K rfl) (pv 1) pe_int (fun _ _ => rfl)) pa_nil))) (fun _ _ => rfl)) pe_int (fun _ _ => rfl))))), ?_⟩
    refine ⟨_, rfl, _, rfl, pa, _, 0, _, rfl, rfl, SqT.of hpa, atI_nat (j := 0) rfl, v, p, x, i, d, rfl, hv, few, fd1, fun u G1 s1 hu => ?_⟩
    obtain ⟨a', p', f', r', t, ss, rfl, ha, _, _, _, ht, hss⟩ := Dn.at hu
    refine ⟨a', _, 4, _, rfl, rfl, SqT.of ha, atI_nat (j := 4) rfl, ?_⟩
    refine ⟨_, rfl, _, rfl, _, rfl, pa, _, 1, _, rfl, rfl, SqT.of (s1 _ _ hpa), atI_nat (j := 1) rfl, t, ss, d, l, k, a, rfl, ht, hss, few2, fs1, fun G2 s2 => ?_⟩
    obtain ⟨z, hz, hz1⟩ := hss.get (i := k) (d := stD (l, a)) (by rw [List.getElem?_map, fs1.1]; rfl)
    obtain ⟨sa, su, rfl, hsa, hsu⟩ := st_at (hz1.same s2)
    exact ⟨t, ss, (k : Int), _, rfl, rfl, SqT.of (s2 _ _ ht), atI_nat hz, sa, _, 1, _, rfl, rfl, SqT.of hsa, atI_nat (j := 1) rfl, q su G2 (s1.trans s2) hsu⟩
def spFirst : Sp := fun vs H Q _ => ∃ (v : V) (p : Pg) (x : Str) (i : Nat) (d : Dn) (s : Int × Ac), vs = [v, .str x] ∧ Im H p.d v ∧ p.defs.length ≤ 1000 ∧ FirstD p x i d ∧ d.steps[0]? = some s ∧ ∀ (u : V) (H' : Hp), Same H H' → Im H' (.tuple [.str x, .int s.1]) u → Q u H'
abbrev s_next_place : Stmt := topS 7
def nextD (d : Dn) (x : Str) (k : Nat) : PyData := match d.steps[k + 1]? with
  | some s => .tuple [.str x, .int s.1]
  | none => .none
def spNext : Sp := fun vs H Q _ => ∃ (v pl : V) (p : Pg) (x : Str) (l : Int) (i : Nat) (d : Dn) (k : Nat) (a : Ac), vs = [v, pl] ∧ Im H p.d v ∧ Im H (.tuple [.str x, .int l]) pl ∧ p.defs.length ≤ 1000 ∧ d.steps.length ≤ 1000 ∧ FirstD p x i d ∧ FirstS d l k a ∧
  ∀ (u : V) (H' : Hp), Same H H' → Im H' (nextD d x k) u → Q u H'
theorem scNP : FnScope ["program", "place", "steps", "number"] ["program", "place"] (defScope s_next_place) := ⟨rfl, rfl, rfl, by decide +kernel, rfl, by decide +kernel, by decide +kernel⟩
theorem ok_next_place (B : Bs mg) (c_def_at : C8.Cal P w K mg base 1 "def_at" spDef []) (c_number_of : C8.Cal P w K mg base 1 "_number_of" spNum []) {f : Addr} {fd : FuncData} (F : Fun K "next_place" "next_place" s_next_place f fd) : FnOk P w K mg base CX0 2 f fd ["program", "place"] spNext := by
  refine F.ok scNP (fun vs H Q E h => ?_) (fun cdv A outer s H vs Q E hr h => ?_)
  · obtain ⟨v, pl, p, x, l, i, d, k, a, rfl, _⟩ := h
    rfl
  · obtain ⟨v, pl, p, x, l, i, d, k, a, rfl, hv, hpl, few, few2, fd1, fs1, q⟩ := h
    obtain ⟨pa, rfl, hpa⟩ := pl_at hpl
    refine ⟨_, (pss_cons (ps_set (i := 2) scNP.nd rfl (.inl rfl) (pe_ix (ixT K rfl) (C8.pe_c c_def_at hr (by decide) (by rfl) (pa_cons (pv 0) (pa_cons (pe_ix (ixT K rfl) (pv 1) pe_int (fun _ _ => rfl)) pa_nil))) pe_int (fun _ _ => rfl)))
      (pss_cons (ps_set (i := 3) scNP.nd rfl (.inl rfl) (pe_op op_add (C8.pe_c c_number_of hr (by decide) (by rfl) (pa_cons (pv 2) (pa_cons (pe_ix (ixT K rfl) (pv 1) pe_int (fun _ _ => rfl)) pa_nil))) pe_int))
      (pss_cons (ps_if (pt_cmpR op_eq (pv 3) (pe_callB call_len_seq (by rfl) B.len PySem.boot_len (pa_cons (pv 2) pa_nil)) (nomark _)) (pss_one (ps_ret pe_non)) pss_nil)
      (pss_one (ps_ret (pe_tup (pa_cons (pe_ix (ixT K rfl) (pv 1) pe_int (fun _ _ => rfl)) (pa_cons (pe_ix (ixT K rfl) (pe_ix (ixT K rfl) (pv 2) (pv 3) (fun _ _ => rfl)) pe_int (fun _ _ => rfl)) pa_nil)))))))), ?_⟩
    refine ⟨_, rfl, _, rfl, pa, _, 0, _, rfl, rfl, SqT.of hpa, atI_nat (j := 0) rfl, v, p, x, i, d, rfl, hv, few, fd1, fun u G1 s1 hu => ?_⟩
    obtain ⟨a', p', f', r', t, ss, rfl, ha, _, _, _, ht, hss⟩ := Dn.at hu
    refine ⟨a', _, 4, _, rfl, rfl, SqT.of ha, atI_nat (j := 4) rfl, ?_⟩
    refine ⟨_, rfl, _, rfl, pa, _, 1, _, rfl, rfl, SqT.of (s1 _ _ hpa), atI_nat (j := 1) rfl, t, ss, d, l, k, a, rfl, ht, hss, few2, fs1, fun G2 s2 => ?_⟩
    have ssl := hss.length
    rw [List.length_map] at ssl
    have hkl := (List.getElem?_eq_some_iff.mp fs1.1).1
    refine ⟨_, _, rfl, rfl, ?_⟩
    refine ⟨_, rfl, _, rfl, _, _, rfl, .inr (SqT.of (s2 _ _ ht)), rfl, _, rfl, ?_⟩
    refine ite2 (fun h => ?_) (fun h => ?_)
    · have h' : k + 1 = d.steps.length := by
        have := V.int.inj (of_decide_eq_true h)
        omega
      refine q _ G2 (s1.trans s2) ?_
      unfold nextD
      rw [List.getElem?_eq_none (by omega)] <;> skip
      unfold Im
      rfl
    · have h' : k + 1 < d.steps.length := by
        have : ¬ (V.int ((k : Int) + 1) = .int (ss.length : Int)) := fun e => h (decide_eq_true e)
        have : ¬ (k + 1 = ss.length) := fun e => this (by rw [← e]; rfl)
        omega
      obtain ⟨st, hst⟩ : ∃ st, d.steps[k + 1]? = some st := ⟨_, List.getElem?_eq_getElem h'⟩
      obtain ⟨z, hz, hz1⟩ := hss.get (i := k + 1) (d := stD st) (by rw [List.getElem?_map, hst]; rfl)
      obtain ⟨sa, su, rfl, hsa, hsu⟩ := st_at (hz1.same s2)
      refine ⟨_, rfl, pa, _, 0, _, rfl, rfl, SqT.of ((s1.trans s2) _ _ hpa), atI_nat (j := 0) rfl, _, rfl, _, rfl, t, ss, ((k + 1 : Nat) : Int), _, rfl, rfl, SqT.of (s2 _ _ ht), atI_nat hz, sa, _, 0, _, rfl, rfl, SqT.of hsa, atI_nat (j := 0) rfl, (by show 2 ≤ sizeLine; decide), fun c hc => ?_⟩
      refine q _ _ ((s1.trans s2).trans (same_new hc)) ?_
      unfold nextD
      rw [hst]
      exact .tup upd_same (.cons .str (.cons .int .nil))
end
end K

set_option maxRecDepth 100000
set_option maxHeartbeats 3900000
namespace K
open PySem PySem.Spec PyProof.Rows L2
/-! ### a comprehension of two clauses -/
section
variable {J : It} {n : Nat} {G : Hp → Prop} {Y : Nat → Hp → V → Hp →
    Prop}
/-- a clause, whatever its turn does: F is told what must hold at the next turn -/
theorem lc_out (w : Walk J n G Y) {g : TG} {tt : TT} {vs : List Nat} {σ : L2.St} {H0 : Hp} {Qd : Hp → Prop} (F : L2.St → Hp → (Hp → Prop) → Prop) (Pv : Nat → Hp → Prop) (h0 : Pv 0 H0) (hG : ∀ i H, i ≤ n → Pv i H → G H)
    (hs : ∀ i x H H', i < n → Pv i H → Y i H x H' → g x (wipe σ vs) H' fun σ2 H2 => wipe σ2 vs = wipe σ vs ∧ tt σ2 H2 fun b H3 => if b = true then F σ2 H3 (Pv (i + 1)) else Pv (i + 1) H3) (hd : ∀ H, Pv n H → Qd H) :
    ∃ W : Nat → Nat → Hp → Prop, (∃ m, W 0 m H0) ∧ ∀ i m H, W i m H → (J.stop i H ∧ Qd H) ∨ (J.go i H ∧ ∃ Nx : Hp → Prop, (∀ H', Nx H' → ∃ m', m' < m ∧ W (i + 1) m' H') ∧
      ∀ x H', J.yld i H x H' → g x (wipe σ vs) H' fun σ2 H2 => wipe σ2 vs = wipe σ vs ∧ tt σ2 H2 fun b H3 => if b = true then F σ2 H3 Nx else Nx H3) := by
  refine ⟨fun i m H => m = n - i ∧ i ≤ n ∧ Pv i H, ⟨n, by simp, Nat.zero_le _, h0⟩,
      ?_⟩
  rintro i m H ⟨rfl, hi, p⟩
  have q := hG i H hi p
  rcases Nat.lt_or_ge i n with lt | ge
  · exact .inr ⟨w.goes i H lt q, Pv (i + 1), fun H' p' => ⟨n - (i + 1), by omega, rfl, lt, p'⟩, fun x H' y => hs i x H H' lt p (w.yields i H x H' lt q y)⟩
  · obtain rfl : i = n := by omega
    exact .inl ⟨w.stops H q, hd H
        p⟩
end
/-! ### places -/
abbrev Pl := Pr.Pl
def plD (p : Pl) : PyData := .tuple [.str p.1, .int p.2]
def PlAt (H : Hp) (v : V) (p : Pl) : Prop := ∃ t : Addr, v = .ref t ∧ H t = some (.tup [.str p.1, .int p.2])
def plOf (H : Hp) : V → Pl
  | .ref t => match H t with
    | some (.tup [.str x, .int i]) => (x, i)
    | _ => ("", 0)
  | _ => ("", 0)
theorem PlAt.of {H : Hp} {v : V} {p : Pl} (h : PlAt H v p) : plOf H v = p := by
  obtain ⟨t, rfl, e⟩ := h
  show (match H t with
    | some (.tup [.str x, .int i]) => (x, i)
    | _ => ("", 0)) = p
  rw [e]
theorem PlAt.same {H H' : Hp} {v : V} {p : Pl} (h : PlAt H v p) (s : Same H H') : PlAt H' v p := let ⟨t, e, q⟩ := h; ⟨t, e, s _ _ q⟩
theorem PlAt.im {H : Hp} {v : V} {p : Pl} (h : PlAt H v p) : Im H (plD p) v := by
  obtain ⟨t, rfl, e⟩ := h
  exact .tup e (.cons .str (.cons .int .nil))
def stP (d : Dn) : List Pl := d.steps.map fun s => (d.name, s.1)
def Pg.places (p : Pg) : List Pl := (p.defs.map stP).flatten
theorem places_take {ds : List Dn} {i : Nat} {d : Dn} (h : ds[i]? = some d) : ((ds.take (i + 1)).map stP).flatten = ((ds.take i).map stP).flatten ++ stP d := by
  rw [List.take_add_one, h, List.map_append, List.flatten_append]
  simp
theorem paired_map {α β : Type} {R : α → β → Prop} {R' : α → β → Prop} (h : ∀ a b, R a b → R' a b) : ∀ {xs : List α} {ys : List β}, Paired R xs ys → Paired R' xs ys
  | _, _, .nil => .nil
  | _, _, .cons r t => .cons (h _ _ r) (paired_map h t)
theorem paired_snoc {α β : Type} {R : α → β → Prop} {a : α} {b : β} (r : R a b) : ∀ {xs : List α} {ys : List β}, Paired R xs ys → Paired R (xs ++ [a]) (ys ++ [b])
  | _, _, .nil => .cons r .nil
  | _, _, .cons h t => .cons h (paired_snoc r t)
/-- rising by the text, then by the number; of one such list there is one order -/
def Ris (ps : List Pl) : Prop := ps.Pairwise fun x y => Pr.lt y x = false
theorem pl_anti {p q : Pl} (h : Pr.lt p q = false) (k : Pr.lt q p = false) : p = q := by
  rcases Pr.lt_no.mp h with a | ⟨a, a'⟩ <;> rcases Pr.lt_no.mp k with b | ⟨b, b'⟩
  · exact absurd (List.lt_trans a b) (List.lt_irrefl _)
  · rw [b] at a
    exact absurd a (List.lt_irrefl _)
  · rw [a] at b
    exact absurd b (List.lt_irrefl _)
  · exact Prod.ext a (by omega)
theorem ris_uniq : ∀ {ps qs : List Pl}, Ris ps → Ris qs → ps.Perm qs → ps = qs
  | [], qs, _, _, h => (List.nil_perm.mp h).symm
  | p :: ps, [], _, _, h => absurd h.length_eq (by simp)
  | p :: ps, q :: qs, a, b, h => by
    have a1 := List.pairwise_cons.mp a
    have b1 := List.pairwise_cons.mp b
    have rf : Pr.lt p p = false := Pr.lt_no.mpr (.inr ⟨rfl, Int.le_refl _⟩)
    have e : p = q := by
      rcases List.mem_cons.mp (h.mem_iff.mp List.mem_cons_self) with e | m
      · exact e
      rcases List.mem_cons.mp (h.mem_iff.mpr List.mem_cons_self) with e | m'
      · exact e.symm
      exact pl_anti (b1.1 p m) (a1.1 q m')
    subst e
    rw [ris_uniq a1.2 b1.2 h.cons_inv]
section
variable {P : Program} {w : World} {K : PySem.W.Frag} {mg : Str → Option Value} {base : Heap}
theorem dp_pls {H : Hp} : ∀ {xs : List V} {ps : List Pl}, Paired (PlAt H) xs ps → DpAll K H xs (ps.map plD)
  | _, _, .nil => .nil
  | _, _, .cons h t => .cons (Im.dp _ _ h.im) (dp_pls t)
/-- what sorted tells of a list of places -/
theorem srt_pls {H : Hp} {xs : List V} {ps : List Pl} (h : Paired (PlAt H) xs ps) : (∀ x ∈ xs, ∃ t, x = V.ref t ∧ H t = some (.tup [.str (plOf H x).1, .int (plOf H x).2])) ∧
    ∀ ys, SrtO.Srtd (fun x y => Pr.lt (plOf H x) (plOf H y)) ys → ys.Perm xs → ∃ qs, Ris qs ∧ qs.Perm ps ∧ Paired (PlAt H) ys qs := by
  have all : ∀ {xs : List V} {ps : List Pl}, Paired (PlAt H) xs ps → (∀ x ∈ xs, PlAt H x (plOf H x)) ∧ xs.map (plOf H) = ps := fun h => by
    induction h with
    | nil => exact ⟨(fun x m => nomatch m), rfl⟩
    | @cons a b as bs r t ih =>
      have e := r.of
      refine ⟨fun x m => ?_, by rw [List.map_cons, e, ih.2]⟩
      rcases List.mem_cons.mp m with z | z
      · subst z
        rw [e]
        exact r
      · exact ih.1 x z
  obtain ⟨a1, a2⟩ := all h
  refine ⟨fun x m => a1 x m, fun ys sy py => ⟨ys.map (plOf H), List.pairwise_map.mpr sy, by rw [← a2]; exact py.map _, ?_⟩⟩
  have : ∀ {ys : List V}, (∀ y ∈ ys, y ∈ xs) → Paired (PlAt H) ys (ys.map (plOf H)) := fun {ys} hy => by
    induction ys with
    | nil => exact .nil
    | cons y r ih => exact .cons (a1 y (hy y List.mem_cons_self)) (ih fun z m => hy z (List.mem_cons_of_mem _ m))
  exact this fun y m => py.mem_iff.mp m
def spPlaces : Sp := fun vs H Q _ => ∃ (v : V) (p : Pg), vs = [v] ∧ Im H p.d v ∧ p.defs.length ≤ 1000 ∧ (∀ d ∈ p.defs, d.steps.length ≤ 1000) ∧ ∀ (l : Addr) (ys : List V) (qs : List Pl) (H' : Hp), Same H H' → H l = none → H' l = some (.lst ys) → Paired (PlAt H') ys qs → Ris qs → qs.Perm p.places → Q (.ref l) H'
theorem stP_len (d : Dn) : (stP d).length = d.steps.length := by
  unfold stP
  rw [List.length_map]
theorem pls_len : ∀ {ds : List Dn}, (∀ d ∈ ds, d.steps.length ≤ 1000) → ((ds.map stP).flatten).length ≤ 1000 * ds.length
  | [], _ => Nat.le_refl _
  | d :: ds, h => by
    have h1 := h d List.mem_cons_self
    have h2 := pls_len (ds := ds) fun x m => h x (List.mem_cons_of_mem _ m)
    show (stP d ++ (ds.map stP).flatten).length ≤ _
    rw [List.length_append, List.length_cons, stP_len]
    omega
end
end K

set_option maxRecDepth 100000
set_option maxHeartbeats 3900000
namespace K
open PySem PySem.Spec PyProof.Rows L2
/-! ### parts that are drawn -/
def Hd.nums (d : Hd) : List Str := d.plain ++ d.fingers
/-- a part of that kind, drawn for the head d -/
inductive PD (d : Hd) (wide : Int) : Str → Pt → Prop
  | word (i : Int) (h : -wide ≤ i) (k : i ≤ wide) : PD d wide "word" (.w i)
  | label (i : Int) (h : 0 ≤ i) (k : i < 30) : PD d wide "label" (.w i)
  | sign (x : Str) (h : x = "<" ∨ x = "<=") : PD d wide "sign" (.s x)
  | sideW (i : Int) (h : -wide ≤ i) (k : i ≤ wide) : PD d wide "side" (.w i)
  | sideS (x : Str) (h : x ∈ d.nums) : PD d wide "side" (.s x)
  | row (x : Str) (h : x ∈ d.rows) : PD d wide "row" (.s x)
  | number (x : Str) (h : x ∈ d.nums) : PD d wide "number" (.s x)
  | plain (x : Str) (h : x ∈ d.plain) : PD d wide "plain" (.s x)
theorem nums_all {d : Hd} {x : Str} (h : x ∈ d.nums) : x ∈ d.all := List.mem_append_left _ h
theorem plain_all {d : Hd} {x : Str} (h : x ∈ d.plain) : x ∈ d.all := List.mem_append_left _ (List.mem_append_left _ h)
theorem rows_all {d : Hd} {x : Str} (h : x ∈ d.rows) : x ∈ d.all := List.mem_append_right _ h
theorem PD.kp {d : Hd} {wide : Int} {k : Str} {p : Pt} (ok : HdOk d) (h : PD d wide k p) : KP k p ∧ ∀ x ∈ pn k p, x ∈ d.all := by
  cases h with
  | word i _ _ => exact ⟨.word i, fun x h => nomatch h⟩
  | label i _ _ => exact ⟨.label i, fun x h => nomatch h⟩
  | sign x h =>
    refine ⟨.sign x ?_ h, ?_⟩
    · rcases h with h | h <;> subst h
      · show PyData.canLay0 (.str "<") = true
        decide +kernel
      · show PyData.canLay0 (.str "<=") = true
        decide +kernel
    · rw [pn_nil (by decide +kernel)]
      exact fun x h => nomatch h
  | sideW i _ _ => exact ⟨.sideW i, fun x h => nomatch h⟩
  | sideS x h =>
    refine ⟨.sideS x (ok.nm x (nums_all h)).ok, ?_⟩
    rw [pn_one (.inr (.inr (.inr rfl)))]
    exact fun y hy => by rw [List.mem_singleton.mp hy]; exact nums_all h
  | row x h =>
    refine ⟨.row x (ok.nm x (rows_all h)).ok, ?_⟩
    rw [pn_one (.inr (.inr (.inl rfl)))]
    exact fun y hy => by rw [List.mem_singleton.mp hy]; exact rows_all h
  | number x h =>
    refine ⟨.number x (ok.nm x (nums_all h)).ok, ?_⟩
    rw [pn_one (.inl rfl)]
    exact fun y hy => by rw [List.mem_singleton.mp hy]; exact nums_all h
  | plain x h =>
    refine ⟨.plain x (ok.nm x (plain_all h)).ok, ?_⟩
    rw [pn_one (.inr (.inl rfl))]
    exact fun y hy => by rw [List.mem_singleton.mp hy]; exact plain_all h
section
variable {P : Program} {w : World} {K : PySem.W.Frag} {mg : Str → Option Value} {base : Heap}
abbrev s_law_drawn_part : Stmt := topS 21
def spPart : Sp := fun vs H Q _ => ∃ (t : Addr) (n : Nat) (k : Str) (hv : V) (d : Hd) (wide : Int), vs = [.ref t, .str k, hv, .int wide] ∧ Tp H t n ∧ n < 900000 ∧ HdAt H hv d ∧ HdOk d ∧ 0 < wide ∧ wide < 1000000 ∧ (k = "row" → d.rows ≠ []) ∧
  k ∈ (["word", "label", "sign", "side", "row", "number", "plain"] : List Str) ∧ ∀ (p : Pt) (v : V) (H' : Hp), PD d wide k p → Im H' p.d v → Tp H' t (n + 10) → But t H H' → Q v H'
theorem scPa : FnScope ["tape", "kind", "head", "wide", "numbers"] ["tape", "kind", "head", "wide"] (defScope s_law_drawn_part) := ⟨rfl, rfl, rfl, by decide +kernel, rfl, by decide +kernel, by decide +kernel⟩
theorem ok_part (B : Bs mg) (c_draw : C8.Cal P w K mg base 1 "_law_draw" spDraw []) (c_pick : C8.Cal P w K mg base 2 "_law_pick" (spPick K) []) (c_word : C8.Cal P w K mg base 3 "_law_a_word" spWord []) {f : Addr} {fd : FuncData} (F : Fun K "_law_drawn_part" "_law_drawn_part" s_law_drawn_part f fd) :
    FnOk P w K mg base CX0 4 f fd ["tape", "kind", "head", "wide"] spPart := by
  refine F.ok scPa (fun vs H Q E h => ?_) (fun cdv A outer s H vs Q E hr h => ?_)
  · obtain ⟨t, n, k, hv, d, wide, rfl, _⟩ := h
    rfl
  · obtain ⟨t, n, k, hv, d, wide, rfl, hT, hn, hd, ok, w0, w1, rowk, kin, q⟩ := h
    refine ⟨_, (pss_cons (ps_set (i := 4) scPa.nd rfl (.inl rfl) (pe_op op_cat (pe_ix (ixT K rfl) (pv 2) pe_int (fun _ _ => rfl)) (pe_callTy call_list_of (by rfl) B.list (by decide +kernel) (pa_cons (pe_ix (ixT K rfl) (pv 2) pe_int (fun _ _ => rfl)) pa_nil))))
      (pss_cons (ps_if (pt_cmpR op_eq (pv 1) pe_str (nomark _)) (pss_one (ps_ret (C8.pe_c c_word hr (by decide) (by rfl) (pa_cons (pv 0) (pa_cons (pv 3) pa_nil))))) pss_nil)
      (pss_cons (ps_if (pt_cmpR op_eq (pv 1) pe_str (nomark _)) (pss_one (ps_ret (C8.pe_c c_draw hr (by decide) (by rfl) (pa_cons (pv 0) (pa_cons pe_int pa_nil))))) pss_nil)
      (pss_cons (ps_if (pt_cmpR op_eq (pv 1) pe_str (nomark _)) (pss_one (ps_ret (C8.pe_c c_pick hr (by decide) (by rfl) (pa_cons (pv 0) (pa_cons (pe_lst (pa_cons pe_str (pa_cons pe_str pa_nil))) pa_nil))))) pss_nil)
      (pss_cons (ps_if (pt_cmpR op_eq (pv 1) pe_str (nomark _)) (pss_one (ps_ret (C8.pe_c c_pick hr (by decide) (by rfl) (pa_cons (pv 0) (pa_cons (pe_lst (pa_cons (C8.pe_c c_word hr (by decide) (by rfl) (pa_cons (pv 0) (pa_cons (pv 3) pa_nil))) (pa_cons (C8.pe_c c_pick hr (by decide) (by rfl) (pa_cons (pv 0) (pa_cons (pv 4) pa_nil))) pa_nil))) pa_nil))))) pss_nil)
      (pss_cons (ps_if (pt_cmpR op_eq (pv 1) pe_str (nomark _)) (pss_one (ps_ret (C8.pe_c c_pick hr (by decide) (by rfl) (pa_cons (pv 0) (pa_cons (pe_callTy call_list_of (by rfl) B.list (by decide +kernel) (pa_cons (pe_ix (ixT K rfl) (pv 2) pe_int (fun _ _ => rfl)) pa_nil)) pa_nil))))) pss_nil)
      (pss_one (ps_ret (C8.pe_c c_pick hr (by decide) (by rfl) (pa_cons (pv 0) (pa_cons (pe_ix (ixL K rfl) (pe_lst (pa_cons (pv 4) (pa_cons (pe_ix (ixT K rfl) (pv 2) pe_int (fun _ _ => rfl)) pa_nil))) (pe_callTy call_int1 (by rfl) B.int (by decide +kernel) (pa_cons (pe_cmpR op_eq (pv 1) pe_str (nomark _)) pa_nil)) (fun _ _ => rfl)) pa_nil))))))))))), ?_⟩
    obtain ⟨a, p, f', r, l, rfl, ha, hp, hf, hrr, hl⟩ := hd
    obtain ⟨pl0, pl3⟩ := ok.pl
    have fl2 := ok.fl
    have rl2 := ok.rl
    have lt : l ≠ t := by
      obtain ⟨_, _, _, e, _⟩ := hT
      exact ne_of hl e (fun z => strs_ne_ints z.symm)
    refine ⟨_, rfl, a, _, 4, _, rfl, rfl, SqT.of ha, atI_nat (j := 4) rfl, _, rfl, a, _, 2, _, rfl, rfl, SqT.of ha, atI_nat (j := 2) rfl, f', _, rfl, .inr (SqT.of hf), fun l2 n2 => ?_⟩
    have s1 := same_new (o := .lst (d.fingers.map V.str)) n2
    refine ⟨l, l2, _, _, rfl, rfl, s1 _ _ hl, upd_same, by rw [List.length_map, List.length_map]; exact Nat.le_trans (show _ ≤ 10 by omega) (by decide), fun nl nn => ?_⟩
    obtain ⟨G, eG⟩ : ∃ G, G = upd (upd H l2 (.lst (d.fingers.map V.str))) nl (.lst (d.plain.map V.str ++ d.fingers.map V.str)) := ⟨_, rfl⟩
    have sG : Same H G := eG ▸ s1.trans (same_new nn)
    have hnl : G nl = some (.lst (d.nums.map V.str)) := by
      rw [eG, upd_same]
      unfold Hd.nums
      rw [List.map_append]
    have nlt : nl ≠ t := (hT.same s1).ne nn
    dsimp only [gName]
    rw [← eG]
    clear eG
    have hTG := hT.same sG
    have haG := sG _ _ ha
    have hrG := sG _ _ hrr
    have hlG := sG _ _ hl
    have nlen : 0 < d.nums.length ∧ d.nums.length ≤ 10 := by
      unfold Hd.nums
      rw [List.length_append]
      omega
    have bG : But t H G := .of sG
    have no : ∀ {kk x : Str} (hne : kk ≠ x), ¬ decide (V.str kk = V.str x) = true := fun hne e => hne (V.str.inj (of_decide_eq_true e))
    have pickS : ∀ (xs : List Str) (pf : ∀ x ∈ xs, PD d wide k (.s x)) (i : Nat) (v : V) (G' : Hp), (xs.map V.str)[i]? = some v → Tp G' t (n + 10) → But t H G' → Q v G' := fun xs pf i v G' hi hT' b => by
      obtain ⟨x, hx, rfl⟩ := map_at hi
      exact q (.s x) _ G' (pf x (List.mem_of_getElem? hx)) .str hT' b
    simp only [List.mem_cons, List.not_mem_nil, or_false] at kin
    rcases kin with rfl | rfl | rfl | rfl | rfl | rfl | rfl
    · refine ⟨_, rfl, rfl, _, rfl, ite2 (fun _ => ?_) (fun hn => absurd (by decide +kernel) hn)⟩
      exact ⟨_, rfl, _, rfl, t, n, wide, rfl, hTG, by omega, w0, w1, fun i G' i0 i1 hT' b => q (.w i) _ G' (.word i i0 i1) .int (hT'.mono (by omega)) (bG.trans b)⟩
    · refine ⟨_, rfl, rfl, _, rfl, ite2 (fun hn => absurd hn (by decide +kernel)) (fun _ => ?_)⟩
      refine ⟨_, rfl, rfl, _, rfl, ite2 (fun _ => ?_) (fun hn => absurd (by decide +kernel) hn)⟩
      exact ⟨_, rfl, t, n, 30, rfl, hTG, by omega, by decide, by decide, fun i G' i0 i1 hT' b => q (.w i) _ G' (.label i i0 i1) .int (hT'.mono (by omega)) (bG.trans b)⟩
    · refine ⟨_, rfl, rfl, _, rfl, ite2 (fun hn => absurd hn (by decide +kernel)) (fun _ => ?_)⟩
      refine ⟨_, rfl, rfl, _, rfl, ite2 (fun hn => absurd hn (by decide +kernel)) (fun _ => ?_)⟩
      refine ⟨_, rfl, rfl, _, rfl, ite2 (fun _ => ?_) (fun hn => absurd (by decide +kernel) hn)⟩
      refine ⟨_, rfl, (by show 2 ≤ sizeLine; decide), fun c hc => ?_⟩
      refine ⟨t, c, n, _, rfl, hTG.new hc, by omega, .inl (SqL.of upd_same), hTG.ne hc, by decide, by decide, fun i v G' hi hT' b => ?_⟩
      exact pickS ["<", "<="] (fun x hx => .sign x (by simpa using hx)) i v G' hi (hT'.mono (by omega)) (bG.trans ((But.new hc).trans b))
    · refine ⟨_, rfl, rfl, _, rfl, ite2 (fun hn => absurd hn (by decide +kernel)) (fun _ => ?_)⟩
      refine ⟨_, rfl, rfl, _, rfl, ite2 (fun hn => absurd hn (by decide +kernel)) (fun _ => ?_)⟩
      refine ⟨_, rfl, rfl, _, rfl, ite2 (fun hn => absurd hn (by decide +kernel)) (fun _ => ?_)⟩
      refine ⟨_, rfl, rfl, _, rfl, ite2 (fun _ => ?_) (fun hn => absurd (by decide +kernel) hn)⟩
      refine ⟨_, rfl, _, rfl, _, rfl, t, n, wide, rfl, hTG, by omega, w0, w1, fun i1 G1 i10 i11 hT1 b1 => ?_⟩
      refine ⟨_, rfl, _, rfl, t, nl, n + 3, _, rfl, hT1, by omega, .inl (SqL.of (b1 _ _ hnl nlt)), nlt, by rw [List.length_map]; omega, by rw [List.length_map]; omega, fun i v G2 hi hT2 b2 => ?_⟩
      obtain ⟨x, hx, rfl⟩ := map_at hi
      refine ⟨(by show 2 ≤ sizeLine; decide), fun c hc => ?_⟩
      refine ⟨t, c, n + 3 + 1, _, rfl, hT2.new hc, by omega, .inl (SqL.of upd_same), hT2.ne hc, (by show 0 < 2; decide), (by show 2 < 100000; decide), fun i v G' hi hT' b => ?_⟩
      have bb : But t H G' := (((bG.trans b1).trans b2).trans (.new hc)).trans b
      match i, hi with
      | 0, hi =>
        obtain rfl := Option.some.inj hi
        exact q (.w i1) _ G' (.sideW i1 i10 i11) .int (hT'.mono (by omega)) bb
      | 1, hi =>
        obtain rfl := Option.some.inj hi
        exact q (.s x) _ G' (.sideS x (List.mem_of_getElem? hx)) .str (hT'.mono (by omega)) bb
      | (i + 2), hi => simp at hi
    · refine ⟨_, rfl, rfl, _, rfl, ite2 (fun hn => absurd hn (by decide +kernel)) (fun _ => ?_)⟩
      refine ⟨_, rfl, rfl, _, rfl, ite2 (fun hn => absurd hn (by decide +kernel)) (fun _ => ?_)⟩
      refine ⟨_, rfl, rfl, _, rfl, ite2 (fun hn => absurd hn (by decide +kernel)) (fun _ => ?_)⟩
      refine ⟨_, rfl, rfl, _, rfl, ite2 (fun hn => absurd hn (by decide +kernel)) (fun _ => ?_)⟩
      refine ⟨_, rfl, rfl, _, rfl, ite2 (fun _ => ?_) (fun hn => absurd (by decide +kernel) hn)⟩
      refine ⟨_, rfl, _, rfl, a, _, 3, _, rfl, rfl, SqT.of haG, atI_nat (j := 3) rfl, r, _, rfl, .inr (SqT.of hrG), fun c hc => ?_⟩
      have rpos : 0 < d.rows.length := List.length_pos_iff.mpr (rowk rfl)
      refine ⟨t, c, n, _, rfl, hTG.new hc, by omega, .inl (SqL.of upd_same), hTG.ne hc, by rw [List.length_map]; exact rpos, by rw [List.length_map]; omega, fun i v G' hi hT' b => ?_⟩
      exact pickS d.rows (fun x hx => .row x hx) i v G' hi (hT'.mono (by omega)) (bG.trans ((But.new hc).trans b))
    · refine ⟨_, rfl, rfl, _, rfl, ite2 (fun hn => absurd hn (by decide +kernel)) (fun _ => ?_)⟩
      refine ⟨_, rfl, rfl, _, rfl, ite2 (fun hn => absurd hn (by decide +kernel)) (fun _ => ?_)⟩
      refine ⟨_, rfl, rfl, _, rfl, ite2 (fun hn => absurd hn (by decide +kernel)) (fun _ => ?_)⟩
      refine ⟨_, rfl, rfl, _, rfl, ite2 (fun hn => absurd hn (by decide +kernel)) (fun _ => ?_)⟩
      refine ⟨_, rfl, rfl, _, rfl, ite2 (fun hn => absurd hn (by decide +kernel)) (fun _ => ?_)⟩
      refine ⟨_, rfl, _, rfl, _, rfl, a, _, 4, _, rfl, rfl, SqT.of haG, atI_nat (j := 4) rfl, (by show 2 ≤ sizeLine; decide), fun c hc => ?_⟩
      refine ⟨_, rfl, rfl, .inr ⟨_, rfl, ?_⟩⟩
      have sc := same_new (o := .lst [.ref nl, .ref l]) hc
      refine ⟨c, _, 0, .ref nl, rfl, rfl, SqL.of upd_same, atI_nat (j := 0) rfl, t, nl, n, _, rfl, hTG.new hc, by omega, .inl (SqL.of (sc _ _ hnl)), nlt, by rw [List.length_map]; omega, by rw [List.length_map]; omega, fun i v G' hi hT' b => ?_⟩
      exact pickS d.nums (fun x hx => .number x hx) i v G' hi (hT'.mono (by omega)) (bG.trans ((But.new hc).trans b))
    · refine ⟨_, rfl, rfl, _, rfl, ite2 (fun hn => absurd hn (by decide +kernel)) (fun _ => ?_)⟩
      refine ⟨_, rfl, rfl, _, rfl, ite2 (fun hn => absurd hn (by decide +kernel)) (fun _ => ?_)⟩
      refine ⟨_, rfl, rfl, _, rfl, ite2 (fun hn => absurd hn (by decide +kernel)) (fun _ => ?_)⟩
      refine ⟨_, rfl, rfl, _, rfl, ite2 (fun hn => absurd hn (by decide +kernel)) (fun _ => ?_)⟩
      refine ⟨_, rfl, rfl, _, rfl, ite2 (fun hn => absurd hn (by decide +kernel)) (fun _ => ?_)⟩
      refine ⟨_, rfl, _, rfl, _, rfl, a, _, 4, _, rfl, rfl, SqT.of haG, atI_nat (j := 4) rfl, (by show 2 ≤ sizeLine; decide), fun c hc => ?_⟩
      refine ⟨_, rfl, rfl, .inr ⟨_, rfl, ?_⟩⟩
      have sc := same_new (o := .lst [.ref nl, .ref l]) hc
      refine ⟨c, _, 1, .ref l, rfl, rfl, SqL.of upd_same, atI_nat (j := 1) rfl, t, l, n, _, rfl, hTG.new hc, by omega, .inl (SqL.of (sc _ _ hlG)), lt, by rw [List.length_map]; omega, by rw [List.length_map]; omega, fun i v G' hi hT' b => ?_⟩
      exact pickS d.plain (fun x hx => .plain x hx) i v G' hi (hT'.mono (by omega)) (bG.trans ((But.new hc).trans b))
end
end K

set_option maxRecDepth 100000
set_option maxHeartbeats 3900000
namespace K
open PySem PySem.Spec PyProof.Rows L2
/-! ### does a name fit, and a call that is drawn -/
/-- a part that is shown in few signs -/
def PtS (p : Pt) : Prop := PyData.weight p.d ≤ 100 ∧ PyData.intsShort 13 p.d = true
theorem PtS.w {i : Int} (h : SmI i) : PtS (.w i) := ⟨Nat.le_trans h.weight (by decide), h.short⟩
theorem PtS.s {x : Str} (h : x.cps.size ≤ 100) : PtS (.s x) := ⟨h, rfl⟩
theorem strs_weight : ∀ {xs : List Str}, (∀ x ∈ xs, x.cps.size ≤ 4) → PyData.weightAll (xs.map PyData.str) ≤ 5 * xs.length
  | [], _ => Nat.le_refl _
  | x :: r, h => by
    have h1 := h x List.mem_cons_self
    have h2 := strs_weight (xs := r) fun y hy => h y (List.mem_cons_of_mem _ hy)
    show x.cps.size + 1 + PyData.weightAll (r.map PyData.str) ≤ _
    rw [List.length_cons]
    omega
theorem PtS.ns {xs : List Str} (h : ∀ x ∈ xs, x.cps.size ≤ 4) (hl : xs.length ≤ 10) : PtS (.ns xs) := by
  have := strs_weight h
  exact ⟨Nat.le_trans (show PyData.weightAll (xs.map PyData.str) ≤ 100 by omega) (Nat.le_refl _), PyData.intsShortAll_strs 13 xs⟩
theorem Na.size {x : Str} (h : Na x) : x.cps.size ≤ 4 := by
  obtain ⟨⟨_, _, l, rfl, hl, _⟩, _⟩ := h
  show ((97 + _) :: l).toArray.size ≤ 4
  simp
  omega
theorem Na.pts {x : Str} (h : Na x) : PtS (.s x) := .s (Nat.le_trans h.size (by decide))
/-- an act that names nothing but the head's own, and is shown in few signs -/
def AcIn (d : Hd) (a : Ac) : Prop := AcOk a ∧ (∀ x ∈ a.names, x ∈ d.all) ∧ ∀ p ∈ a.parts, PtS p
theorem k_tell : kindsOf "tell" = some (["number"] : List Str) := by decide +kernel
theorem k_call : kindsOf "call" = some (["plain", "def", "names"] : List Str) := by decide +kernel
theorem names_kinds {a : Ac} {ks : List Str} (h : kindsOf a.word = some ks) : a.names = pns ks a.parts := by
  unfold Ac.names
  rw [h]
  rfl
theorem tellIn {d : Hd} (ok : HdOk d) {x : Str} (h : x ∈ d.all) : AcIn d ⟨"tell", [.s x]⟩ := by
  refine ⟨⟨_, k_tell, .cons (.number x (ok.nm x h).ok) .nil⟩, fun y hy => ?_, fun p hp => by rw [List.mem_singleton.mp hp]; exact (ok.nm x h).pts⟩
  rw [names_kinds (a := ⟨"tell", [.s x]⟩) k_tell] at hy
  simp only [pns, pn_one (k := "number") (x := x) (.inl rfl), List.append_nil, List.mem_singleton] at hy
  subst hy
  exact h
theorem pn_df {x : Str} : pn "def" (.s x) = [] := pn_nil (by decide +kernel)
theorem callIn {d : Hd} (ok : HdOk d) {x y : Str} {gs : List Str} (h : x ∈ d.plain) (hy : Cn y) (hz : y.cps.size ≤ 100) (hl : gs.length ≤ 10) (hg : ∀ z ∈ gs, z ∈ d.all) : AcIn d ⟨"call", [.s x, .s y, .ns gs]⟩ := by
  refine ⟨⟨_, k_call, .cons (.plain x (ok.nm x (plain_all h)).ok) (.cons (.df y hy) (.cons (.names gs hl fun z hz => (ok.nm z (hg z hz)).ok) .nil))⟩, fun z hz => ?_, fun p hp => ?_⟩
  · rw [names_kinds (a := ⟨"call", [.s x, .s y, .ns gs]⟩) k_call] at hz
    simp only [pns, pn_one (k := "plain") (x := x) (.inr (.inl rfl)), pn_df, pn_all, List.append_nil, List.nil_append, List.mem_append, List.mem_singleton] at hz
    rcases hz with z' | z'
    · subst z'
      exact plain_all h
    · exact hg z z'
  · simp only [List.mem_cons, List.not_mem_nil, or_false] at hp
    rcases hp with e | e | e
    · rw [e]
      exact (ok.nm x (plain_all h)).pts
    · rw [e]
      exact .s hz
    · rw [e]
      exact .ns (fun z hz => (ok.nm z (hg z hz)).size) hl
section
variable {P : Program} {w : World} {K : PySem.W.Frag} {mg : Str → Option Value} {base : Heap}
abbrev s_law_fits : Stmt := topS 19
def spFits : Sp := fun vs H Q _ => ∃ (x y : Str) (v1 v2 : V) (d e : Hd), vs = [.str x, v1, .str y, v2] ∧ HdAt H v1 d ∧ HdAt H v2 e ∧ ∀ b : Bool, Q (.bl b) H
theorem scFi : FnScope ["name", "one", "param", "other"] ["name", "one", "param", "other"] (defScope s_law_fits) := ⟨rfl, rfl, rfl, by decide +kernel, rfl, by decide +kernel, by decide +kernel⟩
theorem ok_fits (B : Bs mg) {f : Addr} {fd : FuncData} (F : Fun K "_law_fits" "_law_fits" s_law_fits f fd) : FnOk P w K mg base CX0 1 f fd ["name", "one", "param", "other"] spFits := by
  refine F.ok scFi (fun vs H Q E h => ?_) (fun cdv A outer s H vs Q E hr h => ?_)
  · obtain ⟨x, y, v1, v2, d, e, rfl, _⟩ := h
    rfl
  · obtain ⟨x, y, v1, v2, d, e, rfl, ⟨a, p, f, r, l, rfl, ha, hp, hf, hrr, hl⟩, ⟨a2, p2, f2, r2, l2, rfl, ha2, hp2, hf2, hr2, hl2⟩, q⟩ := h
    refine ⟨_, (pss_cons (ps_if (pt_cmpR (inS K rfl) (pv 2) (pe_ix (ixT K rfl) (pv 3) pe_int (fun _ _ => rfl)) rfl) (pss_one (ps_ret (pe_cmpR (inS K rfl) (pv 0) (pe_ix (ixT K rfl) (pv 1) pe_int (fun _ _ => rfl)) rfl))) pss_nil)
      (pss_one (ps_ret (pe_and (pe_cmpR (notInS K rfl) (pv 0) (pe_ix (ixT K rfl) (pv 1) pe_int (fun _ _ => rfl)) rfl) (pe_one (pe_or (pe_cmpR (notInS K rfl) (pv 2) (pe_ix (ixT K rfl) (pv 3) pe_int (fun _ _ => rfl)) rfl) (pe_one (pe_cmpR (inS K rfl) (pv 0) (pe_ix (ixT K rfl) (pv 1) pe_int (fun _ _ => rfl)) rfl)))))))), ?_⟩
    refine ⟨_, rfl, _, rfl, a2, _, 3, _, rfl, rfl, SqT.of ha2, atI_nat (j := 3) rfl, r2, _, rfl, .inr (SqT.of hr2), rfl, flat_strs _, _, rfl, ?_⟩
    refine ite2 (fun _ => ?_) (fun _ => ?_)
    · refine ⟨_, rfl, _, rfl, a, _, 3, _, rfl, rfl, SqT.of ha, atI_nat (j := 3) rfl, r, _, rfl, .inr (SqT.of hrr), rfl, flat_strs _, ?_⟩
      exact q _
    · refine ⟨_, rfl, _, rfl, a, _, 3, _, rfl, rfl, SqT.of ha, atI_nat (j := 3) rfl, r, _, rfl, .inr (SqT.of hrr), rfl, flat_strs _, _, rfl, ?_⟩
      refine ite2 (fun _ => ?_) (fun _ => q _)
      refine ⟨_, rfl, _, rfl, a2, _, 2, _, rfl, rfl, SqT.of ha2, atI_nat (j := 2) rfl, f2, _, rfl, .inr (SqT.of hf2), rfl, flat_strs _, _, rfl, ?_⟩
      refine ite2 (fun _ => q _) (fun _ => ?_)
      refine ⟨_, rfl, _, rfl, a, _, 2, _, rfl, rfl, SqT.of ha, atI_nat (j := 2) rfl, f, _, rfl, .inr (SqT.of hf), rfl, flat_strs _, ?_⟩
      exact q _
abbrev s_law_drawn_call : Stmt := topS 22
/-- an act drawn for the head d -/
def ActQ (d : Hd) (t : Addr) (n : Nat) (H : Hp) (Q : VK) : Prop := ∀ (a : Ac) (v : V) (H' : Hp), AcIn d a → Im H' a.d v → Tp H' t n → But t H H' → Q v H'
def spCall : Sp := fun vs H Q _ => ∃ (t : Addr) (n : Nat) (hv ov : V) (d e : Hd), vs = [.ref t, hv, ov] ∧ Tp H t n ∧ n < 900000 ∧ HdAt H hv d ∧ HdOk d ∧ HdAt H ov e ∧ HdOk e ∧ Cn e.name ∧ e.name.cps.size ≤ 100 ∧ ActQ d t (n + 20) H Q
theorem scCa : FnScope ["tape", "head", "other", "given", "param", "every", "some", "name"] ["tape", "head", "other"] (defScope s_law_drawn_call) := ⟨rfl, rfl, rfl, by decide +kernel, rfl, by decide +kernel, by decide +kernel⟩
theorem params_few {d : Hd} (ok : HdOk d) : d.params.length ≤ 7 := by
  refine Nat.le_trans (len_sub ok.pd ok.ps) ?_
  have := ok.pl
  have := ok.fl
  have := ok.rl
  unfold Hd.all
  rw [List.length_append, List.length_append]
  omega
theorem catA_strs {a b : Addr} {xs ys : List Str} {G : Hp} {Q : VK} (ha : G a = some (.tup (xs.map V.str))) (hb : G b = some (.tup (ys.map V.str))) (hl : xs.length + ys.length ≤ sizeLine)
    (h : ∀ (k : Addr) (G1 : Hp), Same G G1 → G1 k = some (.tup ((xs ++ ys).map V.str)) → Q (.ref k) G1) : rCatA K (.ref a) (.ref b) G Q := by
  refine ⟨a, b, _, _, rfl, rfl, SqT.of ha, SqT.of hb, by rw [List.length_map, List.length_map]; exact hl, fun z => h _ _ (fun _ _ h => h) ?_, fun _ z => h _ _ (fun _ _ h => h) ?_, fun _ _ k nk => h _ _ (same_new nk) ?_⟩
  · rw [List.map_append, z]
    exact hb
  · rw [List.map_append, z, List.append_nil]
    exact ha
  · rw [List.map_append]
    exact upd_same
theorem ok_drawn_call (B : Bs mg) (c_pick : C8.Cal P w K mg base 2 "_law_pick" (spPick K) []) (c_fits : C8.Cal P w K mg base 1 "_law_fits" spFits []) {f : Addr} {fd : FuncData} (F : Fun K "_law_drawn_call" "_law_drawn_call" s_law_drawn_call f fd) :
    FnOk P w K mg base CX0 3 f fd ["tape", "head", "other"] spCall := by
  refine F.ok scCa (fun vs H Q E h => ?_) (fun cdv A outer s H vs Q E hr h => ?_)
  · obtain ⟨t, n, hv, ov, d, e, rfl, _⟩ := h
    rfl
  · obtain ⟨t, n, hv, ov, d, e, rfl, hT, hn, hd, ok, he, oke, en, ez, q⟩ := h
    refine ⟨_, (pss_cons (ps_set (i := 3) scCa.nd rfl (.inl rfl) (pe_lst pa_nil))
      (pss_cons (ps_for PassesOwn.never rfl (pi_tup (pe_ix (ixT K rfl) (pv 2) pe_int (fun _ _ => rfl))) (pg_name (i := 4) scCa.nd rfl (.inr rfl))
      (pss_cons (ps_set (i := 5) scCa.nd rfl (.inl rfl) (pe_op op_cat (pe_ix (ixT K rfl) (pv 1) pe_int (fun _ _ => rfl)) (pe_callTy call_list_of (by rfl) B.list (by decide +kernel) (pa_cons (pe_op op_catA (pe_ix (ixT K rfl) (pv 1) pe_int (fun _ _ => rfl)) (pe_ix (ixT K rfl) (pv 1) pe_int (fun _ _ => rfl))) pa_nil))))
      (pss_cons (ps_setLc (i := 6) (own := [("name", 7)]) (g := gName 7) (by rfl) scCa.nd rfl rfl (sw_true rfl rfl rfl (by decide +kernel)) (pi_list (pv 5)) (blkOk_by (own := [("name", 7)]) (N := ["tape", "head", "other", "given", "param", "every", "some", "name"]) (sc := defScope s_law_drawn_call) (by decide +kernel)) (fun _ _ _ _ _ => (pg_name (i := 7) scCa.nd rfl (.inl rfl) (hf := .inr rfl))) (fun _ _ _ _ _ => pts_one (pt_val (C8.pe_c c_fits hr (by decide) (by rfl) (pa_cons (pv 7) (pa_cons (pv 1) (pa_cons (pv 4) (pa_cons (pv 2) pa_nil))))))) (fun _ _ _ _ _ => (pv 7)))
      (pss_cons (ps_if (pt_cmpR (op_eqD hr.units) (pv 6) (pe_lst pa_nil) (nomark _)) (pss_one (ps_ret (pe_tup (pa_cons pe_str (pa_cons (pe_ix (ixL K rfl) (pe_ix (ixT K rfl) (pv 1) pe_int (fun _ _ => rfl)) pe_int (fun _ _ => rfl)) pa_nil))))) pss_nil)
      (pss_one (ps_expr (pe_bm PySem.F.plainAttrs_list PySem.F.slot_list_append PySem.F.type_list_append mt_append (pv 3) (pa_cons (C8.pe_c c_pick hr (by decide) (by rfl) (pa_cons (pv 0) (pa_cons (pv 6) pa_nil))) pa_nil))))))))
      (pss_one (ps_ret (pe_tup (pa_cons pe_str (pa_cons (C8.pe_c c_pick hr (by decide) (by rfl) (pa_cons (pv 0) (pa_cons (pe_ix (ixT K rfl) (pv 1) pe_int (fun _ _ => rfl)) pa_nil))) (pa_cons (pe_ix (ixT K rfl) (pv 2) pe_int (fun _ _ => rfl)) (pa_cons (pe_tupleOf (by rfl) B.tuple (pv 3)) pa_nil))))))))), ?_⟩
    have hd0 := hd
    have he0 := he
    obtain ⟨a, p, f', r, l, rfl, ha, hp, hf, hrr, hl⟩ := hd
    obtain ⟨a2, p2, f2, r2, l2, rfl, ha2, hp2, hf2, hr2, hl2⟩ := he
    obtain ⟨pl0, pl3⟩ := ok.pl
    have fl2 := ok.fl
    have rl2 := ok.rl
    have pf := params_few oke
    refine ⟨(by show 0 ≤ sizeLine; decide), fun g ng => ?_⟩
    obtain ⟨G0, eG0⟩ : ∃ G0, G0 = upd H g (.lst []) := ⟨_, rfl⟩
    have s0 : Same H G0 := eG0 ▸ same_new ng
    have hg0 : G0 g = some (.lst ([] : List V)) := by rw [eG0]; exact upd_same
    dsimp only [gName]
    rw [← eG0]
    clear eG0
    refine ⟨_, rfl, a2, _, 1, _, rfl, rfl, SqT.of (s0 _ _ ha2), atI_nat (j := 1) rfl, p2, rfl, ⟨_, SqT.of (s0 _ _ hp2)⟩, for_it (walk_tup (K := K) (a := p2) (xs := e.params.map V.str)) (fun i σ G => ∃ (y4 y5 y6 : Option V) (gs : List Str), σ = [some (.ref t), some (.ref a), some (.ref a2), some (.ref g), y4, y5, y6, none] ∧ But t H G ∧ Tp G t (n + i) ∧ G g = some (.lst (gs.map V.str)) ∧ gs.length = i ∧ ∀ x ∈ gs, x ∈ d.all)
      ⟨_, _, _, [], rfl, .of s0, hT.same s0, hg0, rfl, fun x h => nomatch h⟩ ?_ ?_ ?_⟩
    · rintro i σ G hi ⟨y4, y5, y6, gs, rfl, b, hTg, hg, hlen, hall⟩
      exact SqT.of (by
        obtain ⟨x, y, w, hT, _, _⟩ := hT
        exact b _ _ hp2 (ne_of hp2 hT (fun z => by cases z)))
    · rintro i x σ Gz G hi ⟨y4, y5, y6, gs, rfl, b, hTg, hg, hlen, hall⟩ ⟨rfl, hx⟩
      rw [List.length_map] at hi
      obtain ⟨pa, hpa, rfl⟩ := map_at hx
      have hd1 := hd0.but b hT
      have he1 := he0.but b hT
      have keep : ∀ {k : Addr} {xs : List V}, H k = some (.tup xs) → G k = some (.tup xs) := fun {k xs} e => keep_but b hT k xs e
      have lt : l ≠ t := by
        obtain ⟨_, _, _, e, _⟩ := hT
        exact ne_of hl e (fun z => strs_ne_ints z.symm)
      have gt : g ≠ t := by
        obtain ⟨_, _, _, e, _⟩ := hT
        exact (ne_of_none e ng).symm
      have ha1 := keep ha
      have hf1 := keep hf
      have hr1 := keep hrr
      have hl1 := b _ _ hl lt
      refine ⟨_, rfl, a, _, 4, _, rfl, rfl, SqT.of ha1, atI_nat (j := 4) rfl, _, rfl, a, _, 2, _, rfl, rfl, SqT.of ha1, atI_nat (j := 2) rfl, _, rfl, a, _, 3, _, rfl, rfl, SqT.of ha1, atI_nat (j := 3) rfl, ?_⟩
      refine catA_strs hf1 hr1 (Nat.le_trans (show _ ≤ 10 by omega) (by decide)) fun k G1 sk hk => ?_
      refine ⟨k, _, rfl, .inr (SqT.of hk), fun l3 n3 => ?_⟩
      have s3 := same_new (o := .lst ((d.fingers ++ d.rows).map V.str)) n3
      refine ⟨l, l3, _, _, rfl, rfl, s3 _ _ (sk _ _ hl1), upd_same, by rw [List.length_map, List.length_map, List.length_append]; exact Nat.le_trans (show _ ≤ 10 by omega) (by decide), fun l4 n4 => ?_⟩
      obtain ⟨G4, e4⟩ : ∃ G4, G4 = upd (upd G1 l3 (.lst ((d.fingers ++ d.rows).map V.str))) l4 (.lst (d.plain.map V.str ++ (d.fingers ++ d.rows).map V.str)) := ⟨_, rfl⟩
      have s4 : Same G G4 := e4 ▸ (sk.trans s3).trans (same_new n4)
      have hl4 : G4 l4 = some (.lst (d.all.map V.str)) := by
        rw [e4, upd_same]
        unfold Hd.all
        rw [List.map_append, List.map_append, List.map_append, List.append_assoc]
      dsimp only [gName]
      rw [← e4]
      clear e4
      have alen : d.all.length ≤ 7 := by
        unfold Hd.all
        rw [List.length_append, List.length_append]
        omega
      have hT4 := hTg.same s4
      -- some
      refine ⟨_, rfl, l4, rfl, ⟨_, SqL.of hl4⟩, fun D hD => ?_⟩
      have l4D : l4 ≠ D := ne_of_none hl4 hD
      refine lc_w (walk_list (K := K) (a := l4) (xs := d.all.map V.str)) (fun _ => False) (fun j acc G => G l4 = some (.lst (d.all.map V.str)) ∧ ∃ zs : List Str, acc = zs.map V.str ∧ ∀ z ∈ zs, z ∈ d.all) id hD (by rw [List.length_map]; exact Nat.lt_of_le_of_lt alen (by decide))
        (fun j acc G G' ⟨a, b⟩ k => ⟨k _ _ a l4D, b⟩) ⟨hl4, [], rfl, fun z h => nomatch h⟩ (fun _ _ _ _ _ h => SqL.of h.1) ?_ ?_
      · rintro j acc z Ga Gb hj hb ⟨g1, zs, rfl, hzs⟩ hA hal ⟨rfl, hz⟩ N N0 q1 q0
        obtain ⟨y, hy, rfl⟩ := map_at hz
        have sa : Same G Gb := s4.trans (Bt.same hb)
        refine ⟨rfl, ?_⟩
        refine ⟨_, rfl, _, rfl, _, rfl, _, rfl, y, pa, _, _, d, e, rfl, hd1.same sa, he1.same sa, fun bb => ?_⟩
        refine ⟨_, rfl, ?_⟩
        cases bb with
        | true =>
          refine iteT ⟨_, rfl, q1 _ _ .refl ⟨g1, zs ++ [y], by rw [List.map_append]; rfl, fun z hz => ?_⟩⟩
          rcases List.mem_append.mp hz with h | h
          · exact hzs z h
          · rw [List.mem_singleton.mp h]
            exact List.mem_of_getElem? hy
        | false => exact iteF (q0 _ .refl ⟨g1, zs, rfl, hzs⟩)
      · rintro acc G5 hb5 hA hal ⟨g1, zs, rfl, hzs⟩
        rw [List.length_map, List.length_map] at hal
        have s5 : Same G G5 := s4.trans (Bt.same hb5)
        have zok : ∀ z ∈ zs, TxOk z := fun z hz => (ok.nm z (hzs z hz)).ok
        refine ⟨_, rfl, (by show 0 ≤ sizeLine; decide), fun m nm => ?_⟩
        have sm := same_new (o := .lst []) nm
        refine ⟨.list (zs.map .str), .list [], .lst (SqL.of (sm _ _ hA)) (dp_strs zs), .lst (SqL.of upd_same) .nil, shaped_strs zok, rfl, _, rfl, ?_⟩
        obtain ⟨G6, e6⟩ : ∃ G6, G6 = upd G5 m (.lst []) := ⟨_, rfl⟩
        rw [← e6] at sm ⊢
        have s6 : Same G G6 := s5.trans sm
        have hA6 := sm _ _ hA
        have hT6 := hTg.same s6
        have b6 : But t H G6 := b.trans (.of s6)
        clear e6
        refine ite2 (fun hz => ?_) (fun hz => ?_)
        · have hpl : 0 < d.plain.length := pl0
          have h0 : d.plain[0]? = some d.plain[0] := List.getElem?_eq_getElem hpl
          refine ⟨_, rfl, a, _, 4, _, rfl, rfl, SqT.of (s6 _ _ ha1), atI_nat (j := 4) rfl, l, _, 0, _, rfl, rfl, SqL.of (s6 _ _ hl1), atI_nat (j := 0) (by rw [List.getElem?_map, h0]; rfl), (by show 2 ≤ sizeLine; decide), fun u nu => ?_⟩
          exact q _ _ _ (tellIn ok (plain_all (List.getElem_mem hpl))) (.tup upd_same (.cons .str (.cons .str .nil))) ((hT6.new nu).mono (by omega)) (b6.trans (.new nu))
        · have zne : zs ≠ [] := fun z => by
            subst z
            exact hz (by decide +kernel)
          have zpos : 0 < zs.length := List.length_pos_iff.mpr zne
          have hg6 := s6 _ _ hg
          have Dt : D ≠ t := (hT6.same (fun _ _ h => h)).elim fun x h => by
            obtain ⟨y, z, h, _⟩ := h
            exact ne_of hA6 h (fun w => strs_ne_ints w.symm)
          refine ⟨_, rfl, .inl ⟨rfl, _, SqL.of hg6⟩, _, rfl, _, rfl, t, D, _, _, rfl, hT6, by omega, .inl (SqL.of hA6), Dt, by rw [List.length_map]; exact zpos, by rw [List.length_map]; omega, fun k v G7 hk hT7 b7 => ?_⟩
          obtain ⟨y, hy, rfl⟩ := map_at hk
          refine ⟨g, _, _, rfl, rfl, b7 _ _ hg6 gt, by rw [List.length_map]; exact Nat.lt_of_le_of_lt (show gs.length ≤ 10 by omega) (by decide), ?_⟩
          refine ⟨_, _, _, gs ++ [y], rfl, (b6.trans b7).put ng, hT7.at .set gt.symm, by rw [upd_same, List.map_append]; rfl, by simp [hlen], fun z hz => ?_⟩
          rcases List.mem_append.mp hz with h | h
          · exact hall z h
          · rw [List.mem_singleton.mp h]
            exact hzs y (List.mem_of_getElem? hy)
    · rintro σ G ⟨y4, y5, y6, gs, rfl, b, hTg, hg, hlen, hall⟩
      rw [List.length_map] at hlen hTg
      have keep : ∀ {k : Addr} {xs : List V}, H k = some (.tup xs) → G k = some (.tup xs) := fun {k xs} e => keep_but b hT k xs e
      have lt : l ≠ t := by
        obtain ⟨_, _, _, e, _⟩ := hT
        exact ne_of hl e (fun z => strs_ne_ints z.symm)
      have gt : g ≠ t := by
        obtain ⟨_, _, _, e, _⟩ := hT
        exact (ne_of_none e ng).symm
      refine ⟨_, rfl, _, rfl, a, _, 4, _, rfl, rfl, SqT.of (keep ha), atI_nat (j := 4) rfl, t, l, _, _, rfl, hTg, by omega, .inl (SqL.of (b _ _ hl lt)), lt, by rw [List.length_map]; omega, by rw [List.length_map]; omega, fun k v G1 hk hT1 b1 => ?_⟩
      obtain ⟨y, hy, rfl⟩ := map_at hk
      refine ⟨_, rfl, a2, _, 0, _, rfl, rfl, SqT.of (keep_but b1 hTg _ _ (keep ha2)), atI_nat (j := 0) rfl, _, rfl, .inl ⟨g, _, rfl, SqL.of (b1 _ _ hg gt), fun u nu => ?_⟩⟩
      refine ⟨(by show 4 ≤ sizeLine; decide), fun u2 nu2 => ?_⟩
      have s2 := same_new (o := .tup [.str "call", .str y, .str e.name, .ref u]) nu2
      refine q ⟨"call", [.s y, .s e.name, .ns gs]⟩ _ _ (callIn ok (List.mem_of_getElem? hy) en ez (by omega) hall) (.tup upd_same (.cons .str (.cons .str (.cons .str (.cons (.tup (s2 _ _ upd_same) (ImAll.strs gs)) .nil))))) (((hT1.new nu).new nu2).mono (by omega)) (((b.trans b1).trans (.new nu)).trans (.new nu2))
end
end K

set_option maxRecDepth 100000
set_option maxHeartbeats 3900000
namespace K
open PySem PySem.Spec PyProof.Rows L2
/-! ### an act that is drawn -/
section
variable {K : PySem.W.Frag}
theorem catA_of {a b : Addr} {xs ys : List V} {G : Hp} {Q : VK} (ha : G a = some (.tup xs)) (hb : G b = some (.tup ys)) (hl : xs.length + ys.length ≤ sizeLine)
    (h : ∀ (k : Addr) (G1 : Hp), Same G G1 → G1 k = some (.tup (xs ++ ys)) → Q (.ref k) G1) : rCatA K (.ref a) (.ref b) G Q := by
  refine ⟨a, b, _, _, rfl, rfl, SqT.of ha, SqT.of hb, hl, fun z => h _ _ (fun _ _ h => h) ?_, fun _ z => h _ _ (fun _ _ h => h) ?_, fun _ _ k nk => h _ _ (same_new nk) upd_same⟩
  · rw [z]
    exact hb
  · rw [z, List.append_nil]
    exact ha
theorem slA_of {a : Addr} {xs ys : List V} {lo hi : Option Int} {G : Hp} {Q : VK} (ha : G a = some (.tup xs)) (e : cutV xs lo hi = ys)
    (h : ∀ (k : Addr) (G1 : Hp), Same G G1 → G1 k = some (.tup ys) → Q (.ref k) G1) : rSlA K (.ref a) lo hi G Q := by
  refine ⟨a, _, rfl, SqT.of ha, fun z => h _ _ (fun _ _ h => h) ?_, fun _ k nk => h _ _ (same_new nk) (by rw [upd_same, e])⟩
  rw [← e]
  unfold cutV
  rw [z.1, z.2, Nat.sub_zero, List.drop_zero, List.take_length]
  exact ha
end
/-- heads in a list -/
def HsAt (H : Hp) (v : V) (ds : List Hd) : Prop := ∃ (l : Addr) (hs : List V), v = .ref l ∧ H l = some (.lst hs) ∧ Paired (HdAt H) hs ds
theorem HsAt.ne {H : Hp} {l t : Addr} {n : Nat} {hs : List V} {ds : List Hd} (h : H l = some (.lst hs)) (p : Paired (HdAt H) hs ds) (hT : Tp H t n) : l ≠ t := by
  obtain ⟨_, _, _, e, _⟩ := hT
  refine ne_of h e fun z => ?_
  injection z with z
  subst z
  cases p with
  | cons r _ =>
    obtain ⟨_, _, _, _, _, e, _⟩ := r
    cases e
theorem HsAt.same {H H' : Hp} {v : V} {ds : List Hd} (h : HsAt H v ds) (s : Same H H') : HsAt H' v ds :=
  let ⟨l, hs, e, a, p⟩ := h
  ⟨l, hs, e, s _ _ a, paired_map (fun _ _ r => r.same s) p⟩
theorem HsAt.but {H H' : Hp} {v : V} {ds : List Hd} {t : Addr} {n : Nat} (h : HsAt H v ds) (b : But t H H') (hT : Tp H t n) : HsAt H' v ds :=
  let ⟨l, hs, e, a, p⟩ := h
  ⟨l, hs, e, b _ _ a (HsAt.ne a p hT), paired_map (fun _ _ r => r.but b hT) p⟩
def words : List Str := ["set", "add", "plus", "minus", "times", "over", "rest", "mid", "row", "get", "put", "length", "ask", "tell", "check", "if", "go", "call", "call", "back", "if"]
def seven : List Str := ["word", "label", "sign", "side", "row", "number", "plain"]
theorem words_kinds {x : Str} (h : x ∈ words) : ∃ ks, kindsOf x = some ks ∧ ks.length ≤ 4 ∧ (x ≠ "call" → ∀ k ∈ ks, k ∈ seven) := by
  have all : words.all (fun x => (kindsOf x).isSome && (decide (x = "call") || ((kindsOf x).getD []).all fun k => decide (k ∈ seven))) = true := by decide +kernel
  have := List.all_eq_true.mp all x h
  rw [Bool.and_eq_true, Bool.or_eq_true, decide_eq_true_eq] at this
  obtain ⟨ks, hks⟩ := Option.isSome_iff_exists.mp this.1
  refine ⟨ks, hks, kinds_few hks, fun ne k hk => ?_⟩
  rcases this.2 with e | e
  · exact absurd e ne
  · rw [hks] at e
    exact of_decide_eq_true (List.all_eq_true.mp e k hk)
section
variable {d : Hd} {wide : Int} {k : Str} {p : Pt}
theorem PD.number' (h : PD d wide k p) (e : k = "number") : ∃ x, p = .s x ∧ x ∈ d.nums := by
  cases h with
  | number x h => exact ⟨x, rfl, h⟩
  | word => exact absurd e (by decide +kernel)
  | label => exact absurd e (by decide +kernel)
  | sign => exact absurd e (by decide +kernel)
  | sideW => exact absurd e (by decide +kernel)
  | sideS => exact absurd e (by decide +kernel)
  | row => exact absurd e (by decide +kernel)
  | plain => exact absurd e (by decide +kernel)
theorem PD.plain' (h : PD d wide k p) (e : k = "plain") : ∃ x, p = .s x ∧ x ∈ d.plain := by
  cases h with
  | plain x h => exact ⟨x, rfl, h⟩
  | word => exact absurd e (by decide +kernel)
  | label => exact absurd e (by decide +kernel)
  | sign => exact absurd e (by decide +kernel)
  | sideW => exact absurd e (by decide +kernel)
  | sideS => exact absurd e (by decide +kernel)
  | row => exact absurd e (by decide +kernel)
  | number => exact absurd e (by decide +kernel)
theorem PD.word' (h : PD d wide k p) (e : k = "word") : ∃ i, p = .w i ∧ -wide ≤ i ∧ i ≤ wide := by
  cases h with
  | word i h1 h2 => exact ⟨i, rfl, h1, h2⟩
  | plain => exact absurd e (by decide +kernel)
  | label => exact absurd e (by decide +kernel)
  | sign => exact absurd e (by decide +kernel)
  | sideW => exact absurd e (by decide +kernel)
  | sideS => exact absurd e (by decide +kernel)
  | row => exact absurd e (by decide +kernel)
  | number => exact absurd e (by decide +kernel)
end
theorem paired_kp {d : Hd} {wide : Int} (ok : HdOk d) : ∀ {ks : List Str} {ps : List Pt}, Paired (PD d wide) ks ps → Paired KP ks ps ∧ ∀ x ∈ pns ks ps, x ∈ d.all
  | _, _, .nil => ⟨.nil, fun x h => nomatch h⟩
  | k :: ks, p :: ps, .cons r t => by
    obtain ⟨a, b⟩ := r.kp ok
    obtain ⟨c, e⟩ := paired_kp ok t
    refine ⟨.cons a c, fun x h => ?_⟩
    rcases List.mem_append.mp (show x ∈ pn k p ++ pns ks ps from h) with z | z
    · exact b x z
    · exact e x z
theorem PD.pts {d : Hd} {wide : Int} {k : Str} {p : Pt} (ok : HdOk d) (hw : wide < 1000000) (h : PD d wide k p) : PtS p := by
  cases h with
  | word i h k => exact .w (.of hw h k)
  | label i h k => exact .w (.of (w := 30) (by decide) (by omega) (by omega))
  | sign x h =>
    refine .s ?_
    rcases h with h | h <;> subst h <;> decide +kernel
  | sideW i h k => exact .w (.of hw h k)
  | sideS x h => exact (ok.nm x (nums_all h)).pts
  | row x h => exact (ok.nm x (rows_all h)).pts
  | number x h => exact (ok.nm x (nums_all h)).pts
  | plain x h => exact (ok.nm x (plain_all h)).pts
theorem paired_pts {d : Hd} {wide : Int} (ok : HdOk d) (hw : wide < 1000000) : ∀ {ks : List Str} {ps : List Pt}, Paired (PD d wide) ks ps → ∀ p ∈ ps, PtS p
  | _, _, .nil, p, h => nomatch h
  | _, _, .cons r t, p, h => by
    obtain e | e := List.mem_cons.mp h
    · rw [e]
      exact r.pts ok hw
    · exact paired_pts ok hw t p e
theorem partsIn {d : Hd} {wide : Int} (ok : HdOk d) (hw : wide < 1000000) {x : Str} {ks : List Str} {ps : List Pt} (h : kindsOf x = some ks) (P : Paired (PD d wide) ks ps) : AcIn d ⟨x, ps⟩ := by
  obtain ⟨a, b⟩ := paired_kp ok P
  exact ⟨⟨ks, h, a⟩, by rw [names_kinds (a := ⟨x, ps⟩) h]; exact b, paired_pts ok hw P⟩
theorem k_ask : kindsOf "ask" = some (["plain", "word", "word"] : List Str) := by decide +kernel
theorem k_add : kindsOf "add" = some (["number", "number", "word"] : List Str) := by decide +kernel
theorem k_mid : kindsOf "mid" = some (["number", "number", "number"] : List Str) := by decide +kernel
theorem shapedT_strs {xs : List Str} (h : ∀ x ∈ xs, TxOk x) : PySem.SeqAt.shaped (.tuple (xs.map PyData.str)) = true := by
  unfold PySem.SeqAt.shaped
  rw [Bool.and_eq_true]
  refine ⟨lay_strs h, ?_⟩
  rw [decide_eq_true_eq]
  show PyData.depthAll (xs.map PyData.str) + 1 ≤ 64
  rw [depth_strs]
  decide
end K

set_option maxRecDepth 100000
set_option maxHeartbeats 3900000
namespace K
open PySem PySem.Spec PyProof.Rows L2
/-- a part's value, if it is no list of names -/
def Pt.v : Pt → V
  | .w i => .int i
  | .s x => .str x
  | .ns _ => .non
theorem PD.im {d : Hd} {wide : Int} {k : Str} {p : Pt} (h : PD d wide k p) {H : Hp} {v : V} : Im H p.d v ↔ v = p.v := by
  cases h <;> (show Im _ _ v ↔ _; simp only [Pt.d, Pt.v]; unfold Im; exact Iff.rfl)
theorem paired3 {α β : Type} {R : α → β → Prop} {a b c : α} {ps : List β} (h : Paired R [a, b, c] ps) : ∃ x y z, ps = [x, y, z] ∧ R a x ∧ R b y ∧ R c z := by
  cases h with
  | cons r1 t =>
    cases t with
    | cons r2 t =>
      cases t with
      | cons r3 t =>
        cases t
        exact ⟨_, _, _, rfl, r1, r2, r3⟩
theorem paired_im {d : Hd} {wide : Int} {H : Hp} : ∀ {ks : List Str} {ps : List Pt}, Paired (PD d wide) ks ps → ImAll H (ps.map Pt.d) (ps.map Pt.v)
  | _, _, .nil => .nil
  | _, _, .cons r t => .cons (r.im.mpr rfl) (paired_im t)
theorem askIn {d : Hd} (ok : HdOk d) {x : Str} {i j : Int} (h : x ∈ d.plain) (hi : SmI i) (hj : SmI j) : AcIn d ⟨"ask", [.s x, .w i, .w j]⟩ := by
  refine ⟨⟨_, k_ask, .cons (.plain x (ok.nm x (plain_all h)).ok) (.cons (.word i) (.cons (.word j) .nil))⟩, fun z hz => ?_, (fun p hp => by
    simp only [List.mem_cons, List.not_mem_nil, or_false] at hp
    rcases hp with e | e | e <;> rw [e]
    · exact (ok.nm x (plain_all h)).pts
    · exact .w hi
    · exact .w hj)⟩
  rw [names_kinds (a := ⟨"ask", [.s x, .w i, .w j]⟩) k_ask] at hz
  simp only [pns, pn_one (k := "plain") (x := x) (.inr (.inl rfl)), show ∀ k i, pn k (.w i) = [] from fun _ _ => rfl, List.append_nil, List.mem_singleton] at hz
  rw [hz]
  exact plain_all h
theorem addIn {d : Hd} (ok : HdOk d) {x y : Str} {i : Int} (h : x ∈ d.all) (h2 : y ∈ d.all) (hi : SmI i) : AcIn d ⟨"add", [.s x, .s y, .w i]⟩ := by
  refine ⟨⟨_, k_add, .cons (.number x (ok.nm x h).ok) (.cons (.number y (ok.nm y h2).ok) (.cons (.word i) .nil))⟩, fun z hz => ?_, (fun p hp => by
    simp only [List.mem_cons, List.not_mem_nil, or_false] at hp
    rcases hp with e | e | e <;> rw [e]
    · exact (ok.nm x h).pts
    · exact (ok.nm y h2).pts
    · exact .w hi)⟩
  rw [names_kinds (a := ⟨"add", [.s x, .s y, .w i]⟩) k_add] at hz
  simp only [pns, pn_one (k := "number") (x := x) (.inl rfl), pn_one (k := "number") (x := y) (.inl rfl), show ∀ k i, pn k (.w i) = [] from fun _ _ => rfl, List.append_nil, List.mem_append, List.mem_singleton] at hz
  rcases hz with z | z <;> rw [z] <;> assumption
theorem midIn {d : Hd} (ok : HdOk d) {x y u : Str} (h : x ∈ d.all) (h2 : y ∈ d.all) (h3 : u ∈ d.all) : AcIn d ⟨"mid", [.s x, .s y, .s u]⟩ := by
  refine ⟨⟨_, k_mid, .cons (.number x (ok.nm x h).ok) (.cons (.number y (ok.nm y h2).ok) (.cons (.number u (ok.nm u h3).ok) .nil))⟩, fun z hz => ?_, (fun p hp => by
    simp only [List.mem_cons, List.not_mem_nil, or_false] at hp
    rcases hp with e | e | e <;> rw [e]
    · exact (ok.nm x h).pts
    · exact (ok.nm y h2).pts
    · exact (ok.nm u h3).pts)⟩
  rw [names_kinds (a := ⟨"mid", [.s x, .s y, .s u]⟩) k_mid] at hz
  simp only [pns, pn_one (k := "number") (x := x) (.inl rfl), pn_one (k := "number") (x := y) (.inl rfl), pn_one (k := "number") (x := u) (.inl rfl), List.append_nil, List.mem_append, List.mem_singleton] at hz
  rcases hz with z | z | z <;> rw [z] <;> assumption
section
variable {P : Program} {w : World} {K : PySem.W.Frag} {mg : Str → Option Value} {base : Heap}
abbrev s_law_drawn_act : Stmt := topS 23
def spDAct : Sp := fun vs H Q _ => ∃ (t : Addr) (n : Nat) (hv lv : V) (d : Hd) (ds : List Hd) (wide : Int), vs = [.ref t, hv, lv, .int wide] ∧ Tp H t n ∧ n < 800000 ∧ HdAt H hv d ∧ HdOk d ∧ HsAt H lv ds ∧ 0 < ds.length ∧ ds.length ≤ 10 ∧ (∀ e ∈ ds, HdOk e ∧ Cn e.name ∧ e.name.cps.size ≤ 100) ∧ 0 < wide ∧ wide < 1000000 ∧ ActQ d t (n + 100) H Q
theorem scAc : FnScope ["tape", "head", "heads", "wide", "some", "word", "kinds", "act", "kind", "name"] ["tape", "head", "heads", "wide"] (defScope s_law_drawn_act) := ⟨rfl, rfl, rfl, by decide +kernel, rfl, by decide +kernel, by decide +kernel⟩
theorem ok_drawn_act (B : Bs mg) (c_pick : C8.Cal P w K mg base 2 "_law_pick" (spPick K) []) (c_word : C8.Cal P w K mg base 3 "_law_a_word" spWord []) (c_kinds : C8.Cal P w K mg base 1 "_law_kinds" spKinds [])
    (c_drawn_part : C8.Cal P w K mg base 4 "_law_drawn_part" spPart []) (c_drawn_call : C8.Cal P w K mg base 3 "_law_drawn_call" spCall []) {f : Addr} {fd : FuncData} (F : Fun K "_law_drawn_act" "_law_drawn_act" s_law_drawn_act f fd) :
    FnOk P w K mg base CX0 5 f fd ["tape", "head", "heads", "wide"] spDAct := by
  refine F.ok scAc (fun vs H Q E h => ?_) (fun cdv A outer s H vs Q E hr h => ?_)
  · obtain ⟨t, n, hv, lv, d, ds, wide, rfl, _⟩ := h
    rfl
  · obtain ⟨t, n, hv, lv, d, ds, wide, rfl, hT, hn, hd, ok, hs, dpos, dfew, dok, w0, w1, q⟩ := h
    refine ⟨_, (pss_cons (ps_set (i := 4) scAc.nd rfl (.inl rfl) (pe_lst (pa_cons pe_str (pa_cons pe_str (pa_cons pe_str (pa_cons pe_str (pa_cons pe_str (pa_cons pe_str (pa_cons pe_str (pa_cons pe_str (pa_cons pe_str (pa_cons pe_str (pa_cons pe_str (pa_cons pe_str (pa_cons pe_str pa_nil)))))))))))))))
      (pss_cons (ps_set (i := 5) scAc.nd rfl (.inl rfl) (C8.pe_c c_pick hr (by decide) (by rfl) (pa_cons (pv 0) (pa_cons (pe_op op_cat (pv 4) (pe_lst (pa_cons pe_str (pa_cons pe_str (pa_cons pe_str (pa_cons pe_str (pa_cons pe_str (pa_cons pe_str (pa_cons pe_str (pa_cons pe_str pa_nil)))))))))) pa_nil))))
      (pss_cons (ps_if (pt_cmpR op_eq (pv 5) pe_str (nomark _)) (pss_one (ps_ret (C8.pe_c c_drawn_call hr (by decide) (by rfl) (pa_cons (pv 0) (pa_cons (pv 1) (pa_cons (C8.pe_c c_pick hr (by decide) (by rfl) (pa_cons (pv 0) (pa_cons (pv 2) pa_nil))) pa_nil)))))) pss_nil)
      (pss_cons (ps_set (i := 6) scAc.nd rfl (.inl rfl) (C8.pe_c c_kinds hr (by decide) (by rfl) (pa_cons (pe_tup (pa_cons (pv 5) pa_nil)) pa_nil)))
      (C8.pss_cut (ps_if (PW.pt (pw_and (pt_cmpR (inS K rfl) pe_str (pv 6) rfl) (pw_and1 (pt_cmpR (op_eqD hr.units) (pe_ix (ixT K rfl) (pv 1) pe_int (fun _ _ => rfl)) (pe_tup pa_nil) (nomark _))))) (pss_one (ps_ret (pe_tup (pa_cons pe_str (pa_cons (pe_ix (ixL K rfl) (pe_ix (ixT K rfl) (pv 1) pe_int (fun _ _ => rfl)) pe_int (fun _ _ => rfl)) pa_nil))))) pss_nil)
      (pss_cons (ps_set (i := 7) scAc.nd rfl (.inl rfl) (pe_op op_catA (pe_tup (pa_cons (pv 5) pa_nil)) (pe_tupleOf (by rfl) B.tuple (pe_lc (own := [("kind", 8)]) (g := gName 8) (tt := tYes) (by rfl) scAc.nd (pi_list (pv 6)) (blkOk_by (own := [("kind", 8)]) (N := ["tape", "head", "heads", "wide", "some", "word", "kinds", "act", "kind", "name"]) (sc := defScope s_law_drawn_act) (by decide +kernel)) (fun _ _ _ _ _ => (pg_name (i := 8) scAc.nd rfl (.inl rfl) (hf := .inr rfl))) (fun _ _ _ _ _ => pts_nil) (fun _ _ _ _ _ => (C8.pe_c c_drawn_part hr (by decide) (by rfl) (pa_cons (pv 0) (pa_cons (pv 8) (pa_cons (pv 1) (pa_cons (pv 3) pa_nil))))))))))
      (pss_cons (ps_if (pt_cmpR op_eq (pv 5) pe_str (nomark _)) (pss_one (ps_ret (pe_op op_catA (pe_slice sl_tupA (pv 7) po_none (po_some pe_int)) (pe_tup (pa_cons (pe_callB (Zm.cr_min2 K rfl rfl) (by rfl) B.min PyProof.Rows.boot_min (pa_cons (pe_slice sl_tupA (pv 7) (po_some pe_int) po_none) pa_nil)) (pa_cons (pe_callB (Zm.cr_max2 K rfl rfl) (by rfl) B.max PyProof.Rows.boot_max (pa_cons (pe_slice sl_tupA (pv 7) (po_some pe_int) po_none) pa_nil)) pa_nil)))))) pss_nil)
      (C8.pss_cut (ps_if (PW.pt (pw_and (pt_cmpR (inS K rfl) (pv 5) (pe_tup (pa_cons pe_str (pa_cons pe_str pa_nil))) rfl) (pw_and1 (pt_cmpR (inS K rfl) (pe_ix (ixT K rfl) (pv 7) pe_int (fun _ _ => rfl)) (pe_ix (ixT K rfl) (pv 1) pe_int (fun _ _ => rfl)) rfl)))) (pss_one (ps_set (i := 7) scAc.nd rfl (.inl rfl) (pe_op op_catA (pe_slice sl_tupA (pv 7) po_none (po_some pe_int)) (pe_tupleOf (by rfl) B.tuple (pe_lc (own := [("name", 9)]) (g := gName 9) (tt := tYes) (by rfl) scAc.nd (pi_tup (pe_slice sl_tupA (pv 7) (po_some pe_int) po_none)) (blkOk_by (own := [("name", 9)]) (N := ["tape", "head", "heads", "wide", "some", "word", "kinds", "act", "kind", "name"]) (sc := defScope s_law_drawn_act) (by decide +kernel)) (fun _ _ _ _ _ => (pg_name (i := 9) scAc.nd rfl (.inl rfl) (hf := .inr rfl))) (fun _ _ _ _ _ => pts_nil) (fun _ _ _ _ _ => (C8.pe_c c_pick hr (by decide) (by rfl) (pa_cons (pv 0) (pa_cons (pe_ix (ixT K rfl) (pv 1) pe_int (fun _ _ => rfl)) pa_nil))))))))) pss_nil)
      (pss_cons (ps_if (pt_cmpR op_eq (pv 5) pe_str (nomark _)) (pss_one (ps_set (i := 7) scAc.nd rfl (.inl rfl) (pe_op op_catA (pe_slice sl_tupA (pv 7) po_none (po_some pe_int)) (pe_tup (pa_cons (C8.pe_c c_word hr (by decide) (by rfl) (pa_cons (pv 0) (pa_cons (pv 3) pa_nil))) pa_nil))))) pss_nil)
      (pss_one (ps_ret (pv 7)))))))))))), ?_⟩
    have hd0 := hd
    have hs0 := hs
    obtain ⟨a, p, f', r, l, rfl, ha, hp, hf, hrr, hl⟩ := hd
    obtain ⟨lh, hh, rfl, hlh, hds⟩ := hs
    obtain ⟨pl0, pl3⟩ := ok.pl
    have fl2 := ok.fl
    have rl2 := ok.rl
    have lt : l ≠ t := by
      obtain ⟨_, _, _, e, _⟩ := hT
      exact ne_of hl e (fun z => strs_ne_ints z.symm)
    have hht := HsAt.ne hlh hds hT
    have hdl := hds.length
    refine ⟨(by show 13 ≤ sizeLine; decide), fun g1 n1 => ?_⟩
    refine ⟨_, rfl, _, rfl, (by show 8 ≤ sizeLine; decide), fun g2 n2 => ?_⟩
    have s1 := same_new (o := .lst ((["set", "add", "plus", "minus", "times", "over", "rest", "mid", "row", "get", "put", "length", "ask"] : List Str).map V.str)) n1
    have s2 := same_new (o := .lst ((["tell", "check", "if", "go", "call", "call", "back", "if"] : List Str).map V.str)) n2
    refine ⟨g1, g2, _, _, rfl, rfl, s2 _ _ upd_same, upd_same, (by show 21 ≤ sizeLine; decide), fun g3 n3 => ?_⟩
    have s3 := same_new (o := .lst (words.map V.str)) n3
    have s13 := (s1.trans s2).trans s3
    have hT3 := hT.same s13
    refine ⟨t, g3, n, words.map V.str, rfl, hT3, by omega, .inl (SqL.of upd_same), ((hT.same s1).same s2).ne n3, by decide, by decide, fun k v G hk hTG b1 => ?_⟩
    have bG : But t H G := (But.of s13).trans b1
    obtain ⟨x, hx, rfl⟩ := map_at hk
    have xw := List.mem_of_getElem? hx
    obtain ⟨ks, hks, ksf, seven⟩ := words_kinds xw
    clear b1 hT3 s1 s2 s3 s13 n1 n2 n3
    have kT : ∀ {G : Hp} {k : Addr} {xs : List V}, But t H G → H k = some (.tup xs) → G k = some (.tup xs) := fun {G k xs} b e => keep_but b hT k xs e
    have kL : ∀ {G : Hp}, But t H G → G l = some (.lst (d.plain.map V.str)) := fun b => b _ _ hl lt
    refine ⟨_, rfl, rfl, _, rfl, ?_⟩
    refine ite2 (fun h => ?_) (fun h => ?_)
    · refine ⟨_, rfl, _, rfl, _, rfl, _, rfl, t, lh, n + 1, hh, rfl, hTG, by omega, .inl (SqL.of (bG _ _ hlh hht)), hht, by omega, by omega, fun i v G1 hi hT1 b1 => ?_⟩
      obtain ⟨e, he, hve⟩ : ∃ e, ds[i]? = some e ∧ HdAt H v e := by
        have hi' := (List.getElem?_eq_some_iff.mp hi).1
        exact ⟨ds[i]'(by omega), List.getElem?_eq_getElem (by omega), Paired.at hds hi (List.getElem?_eq_getElem (by omega))⟩
      have em := List.mem_of_getElem? he
      refine ⟨t, n + 1 + 1, _, v, d, e, rfl, hT1, by omega, hd0.but (bG.trans b1) hT, ok, hve.but (bG.trans b1) hT, (dok e em).1, (dok e em).2.1, (dok e em).2.2, fun ac u G2 ai hi2 hT2 b2 => ?_⟩
      exact q ac u G2 ai hi2 (hT2.mono (by omega)) ((bG.trans b1).trans b2)
    · have xne : x ≠ "call" := fun e => h (by rw [e]; exact decide_eq_true rfl)
      have hk7 := seven xne
      refine ⟨_, rfl, (by show 1 ≤ sizeLine; decide), fun u nu => ?_⟩
      have s4 := same_new (o := .tup [.str x]) nu
      refine ⟨_, x, [], ks, rfl, .tup upd_same (.cons .str .nil), ?_, hks, fun lk G1 sk hlk => ?_⟩
      · unfold PySem.SeqAt.shaped
        rw [Bool.and_eq_true]
        refine ⟨?_, decide_eq_true (show 1 ≤ 64 from by decide)⟩
        show (PyData.canLay0 (.str x) && true) = true
        rw [show PyData.canLay0 (.str x) = true from words_ok hks]
        rfl
      have bG1 : But t H G1 := bG.trans (.of (s4.trans sk))
      have hT1 := (hTG.same s4).same sk
      clear s4 sk
      refine ⟨fun σ G => (("row" : Str) ∈ ks → d.rows ≠ []) ∧ σ = [some (.ref t), some (.ref a), some (.ref lh), some (.int wide), some (.ref g1), some (.str x), some (.ref lk), none, none, none] ∧ But t H G ∧ Tp G t (n + 1) ∧ G lk = some (.lst (ks.map V.str)), ?_, ?_⟩
      · refine ⟨_, rfl, lk, _, rfl, .inl (SqL.of hlk), rfl, flat_strs _, _, rfl, ?_⟩
        refine ite2 (fun hrow => ?_) (fun hrow => ?_)
        · refine ⟨_, rfl, a, _, 3, _, rfl, rfl, SqT.of (kT bG1 ha), atI_nat (j := 3) rfl, (by show 0 ≤ sizeLine; decide), fun m nm => ?_⟩
          have sm := same_new (o := .tup []) nm
          refine ⟨.tuple (d.rows.map .str), .tuple [], .tup (SqT.of (sm _ _ (kT bG1 hrr))) (dp_strs d.rows), .tup (SqT.of upd_same) .nil, shapedT_strs (fun y hy => (ok.nm y (rows_all hy)).ok), rfl, _, rfl, ?_⟩
          refine ite2 (fun hz => ?_) (fun hz => ?_)
          · have h0 : d.plain[0]? = some d.plain[0] := List.getElem?_eq_getElem pl0
            have b2 := bG1.trans (.new nm (o := .tup []))
            have hT2 := hT1.new nm (o := .tup [])
            refine ⟨_, rfl, a, _, 4, _, rfl, rfl, SqT.of (kT b2 ha), atI_nat (j := 4) rfl, l, _, 0, _, rfl, rfl, SqL.of (kL b2), atI_nat (j := 0) (by rw [List.getElem?_map, h0]; rfl), (by show 2 ≤ sizeLine; decide), fun v nv => ?_⟩
            exact q _ _ _ (tellIn ok (plain_all (List.getElem_mem pl0))) (.tup upd_same (.cons .str (.cons .str .nil))) ((hT2.new nv).mono (by omega)) (b2.trans (.new nv))
          · exact ⟨fun _ z => hz (by rw [z]; decide +kernel), rfl, bG1.trans (.new nm), hT1.new nm, sm _ _ hlk⟩
        · refine iteF ?_
          exact ⟨fun m => absurd (by rw [in_strs]; exact decide_eq_true m) hrow, rfl, bG1, hT1, hlk⟩
      · rintro σ G2 ⟨hrow, rfl, b2, hT2, hlk2⟩
        refine ⟨_, rfl, (by show 1 ≤ sizeLine; decide), fun c nc => ?_⟩
        have s4 := same_new (o := .tup [.str x]) nc
        obtain ⟨G3, e3⟩ : ∃ G3, G3 = upd G2 c (.tup [.str x]) := ⟨_, rfl⟩
        have hc3 : G3 c = some (.tup [.str x]) := by rw [e3]; exact upd_same
        rw [← e3] at s4 ⊢
        have b3 := b2.trans (.of s4)
        have hT3 := hT2.same s4
        have hlk3 := s4 _ _ hlk2
        clear e3
        have nrm : ks.length ≤ 4 := ksf
        refine ⟨_, rfl, lk, rfl, ⟨_, SqL.of hlk3⟩, fun D hD => ?_⟩
        have lkt : lk ≠ t := by
          obtain ⟨_, _, _, e, _⟩ := hT3
          exact ne_of hlk3 e (fun z => strs_ne_ints z.symm)
        have tD := hT3.ne' hD
        have lkD : lk ≠ D := ne_of_none hlk3 hD
        have cD : c ≠ D := ne_of_none hc3 hD
        have ct : c ≠ t := by
          obtain ⟨_, _, _, e, _⟩ := hT3
          exact ne_of hc3 e (fun z => by cases z)
        have nDH : H D = none := b3.back hT3 hD
        refine lc_w (walk_list (K := K) (a := lk) (xs := ks.map V.str)) (fun z => z = t) (fun j acc G => Tp G t (n + 1 + 10 * j) ∧ But t G3 G ∧ ∃ ps, Paired (PD d wide) (ks.take j) ps ∧ acc = ps.map Pt.v) (fun z => tD z.symm) hD (by rw [List.length_map]; exact Nat.lt_of_le_of_lt nrm (by decide))
          (fun j acc G G' ⟨g1, g2, g3⟩ k => ⟨g1.at k tD, fun y o e ny => k _ _ (g2 y o e ny) (ne_of_none e hD), g3⟩) ⟨hT3.mono (by omega), .refl, [], .nil, rfl⟩ (fun _ _ _ _ _ h => SqL.of (h.2.1 _ _ hlk3 lkt)) ?_ ?_
        · rintro j acc z Ga Gb hj hb ⟨m1, m2, ps, m3, rfl⟩ hA hal ⟨rfl, hz⟩ N N0 q1 q0
          rw [List.length_map] at hj
          obtain ⟨y, hy, rfl⟩ := map_at hz
          refine ⟨rfl, ?_⟩
          have bH := b3.trans m2
          refine ⟨_, rfl, _, rfl, _, rfl, _, rfl, t, _, y, _, d, wide, rfl, m1, by omega, hd0.but bH hT, ok, w0, w1, fun e => hrow (by rw [← e]; exact List.mem_of_getElem? hy), hk7 y (List.mem_of_getElem? hy), fun pt v G5 hpt hv hT5 b5 => ?_⟩
          rw [hpt.im.mp hv]
          refine q1 _ _ (fun y o e ny => b5 y o e ny) ⟨hT5.mono (by omega), m2.trans b5, ps ++ [pt], ?_, by rw [List.map_append]; rfl⟩
          rw [List.take_add_one, hy]
          exact paired_snoc hpt m3
        · rintro acc G4 hb hA hal ⟨m1, m2, ps, m3, rfl⟩
          rw [List.length_map] at m1 m3 hal
          rw [List.take_length] at m3
          have psl := m3.length
          refine .inl ⟨D, _, rfl, SqL.of hA, fun D2 nD2 => ?_⟩
          have s5 := same_new (o := .tup (ps.map Pt.v)) nD2
          refine catA_of (s5 _ _ (m2 _ _ hc3 ct)) upd_same (by rw [List.length_map]; exact Nat.le_trans (show 1 + ps.length ≤ 5 by omega) (by decide)) fun pa G5 s6 hpa => ?_
          have s56 := s5.trans s6
          have bH : But t H G5 := (b3.trans m2).trans (.of s56)
          have hT5 := m1.same s56
          have nm : n + 1 + 10 * ks.length ≤ n + 41 := by omega
          have hT6 := hT5.mono nm
          clear s56 s5 s6
          dsimp only [gName]
          refine ⟨_, rfl, rfl, _, rfl, ?_⟩
          refine ite2 (fun he => ?_) (fun he => ?_)
          · -- ask
            have ex : x = "ask" := V.str.inj (of_decide_eq_true he)
            subst ex
            rw [k_ask] at hks
            obtain rfl := Option.some.inj hks
            obtain ⟨p1, p2, p3, rfl, r1, r2, r3⟩ := paired3 m3
            obtain ⟨y, rfl, hy⟩ := r1.plain' rfl
            obtain ⟨i, rfl, i1, i2⟩ := r2.word' rfl
            obtain ⟨j, rfl, j1, j2⟩ := r3.word' rfl
            have sm : ∀ m ∈ [i, j], SmI m := fun m hm => by
              have hm := List.mem_cons.mp hm
              rw [List.mem_singleton] at hm
              rcases hm with e | e <;> rw [e]
              · exact .of w1 i1 i2
              · exact .of w1 j1 j2
            refine ⟨_, rfl, _, rfl, slA_of hpa rfl fun u1 G6 s6 h6 => ?_⟩
            have hpa6 := s6 _ _ hpa
            refine ⟨_, rfl, _, rfl, ?_⟩
            dsimp only [tNoPart]
            refine slA_of hpa6 rfl fun u2 G7 s7 h7 => ?_
            refine ⟨u2, [i, j], rfl, SqT.of h7, Nat.zero_lt_two, fun m hm => ?_⟩
            refine ⟨_, rfl, _, rfl, ?_⟩
            dsimp only [tNoPart]
            refine slA_of (s7 _ _ hpa6) rfl fun u3 G8 s8 h8 => ?_
            refine ⟨u3, [i, j], rfl, SqT.of h8, Nat.zero_lt_two, fun m' hm' => ?_⟩
            refine ⟨(by show 2 ≤ sizeLine; decide), fun u4 n4 => ?_⟩
            have s9 := same_new (o := .tup [.int m, .int m']) n4
            have s69 := (s7.trans s8).trans s9
            refine catA_of (s69 _ _ h6) upd_same (by show 4 ≤ sizeLine; decide) fun u5 G9 s10 h10 => ?_
            exact q _ _ _ (askIn ok hy (sm m hm) (sm m' hm')) (.tup h10 (.cons .str (.cons .str (.cons .int (.cons .int .nil))))) ((hT6.same ((s6.trans s69).trans s10)).mono (by omega)) (bH.trans (.of ((s6.trans s69).trans s10)))
          · have xna : x ≠ "ask" := fun e => he (by rw [e]; exact decide_eq_true rfl)
            refine ⟨fun σ G => ∃ (pb : Addr) (us : List V), σ = [some (.ref t), some (.ref a), some (.ref lh), some (.int wide), some (.ref g1), some (.str x), some (.ref lk), some (.ref pb), none, none] ∧ But t H G ∧ Tp G t (n + 60) ∧ G pb = some (.tup (.str x :: us)) ∧ (x = "add" → ∃ y z u, us = [.str y, .str z, u] ∧ y ∈ d.all ∧ z ∈ d.all) ∧ (x ≠ "add" → ∃ ps, AcIn d ⟨x, ps⟩ ∧ ImAll G (ps.map Pt.d) us), ?_, ?_⟩
            · have keepM : ∀ G, But t H G → Tp G t (n + 60) → G pa = some (.tup (.str x :: ps.map Pt.v)) → (x = "add" → ∃ y z u, ps.map Pt.v = [.str y, .str z, u] ∧ y ∈ d.all ∧ z ∈ d.all) ∧ (x ≠ "add" → ∃ ps', AcIn d ⟨x, ps'⟩ ∧ ImAll G (ps'.map Pt.d) (ps.map Pt.v)) := fun G _ _ _ => by
                refine ⟨fun e => ?_, fun _ => ⟨ps, partsIn ok w1 hks m3, paired_im m3⟩⟩
                subst e
                rw [k_add] at hks
                obtain rfl := Option.some.inj hks
                obtain ⟨p1, p2, p3, rfl, r1, r2, r3⟩ := paired3 m3
                obtain ⟨y, rfl, hy⟩ := r1.number' rfl
                obtain ⟨z, rfl, hz⟩ := r2.number' rfl
                exact ⟨y, z, _, rfl, nums_all hy, nums_all hz⟩
              refine ⟨_, rfl, (by show 2 ≤ sizeLine; decide), fun u1 n1 => ?_⟩
              have s6 := same_new (o := .tup ((["add", "mid"] : List Str).map V.str)) n1
              obtain ⟨G6, e6⟩ : ∃ G6, G6 = upd G5 u1 (.tup ((["add", "mid"] : List Str).map V.str)) := ⟨_, rfl⟩
              have h1 : G6 u1 = some (.tup ((["add", "mid"] : List Str).map V.str)) := by rw [e6]; exact upd_same
              rw [← e6] at s6
              have eG : upd G5 u1 (.tup [.str "add", .str "mid"]) = G6 := e6.symm
              rw [eG]
              clear e6 eG
              have b6 : But t H G6 := bH.trans (.of s6)
              have hT7 : Tp G6 t (n + 41) := hT6.same s6
              have hpa6 := s6 _ _ hpa
              have stay : ∃ (pb : Addr) (us : List V), ([some (.ref t), some (.ref a), some (.ref lh), some (.int wide), some (.ref g1), some (.str x), some (.ref lk), some (.ref pa), none, none] : L2.St) = [some (.ref t), some (.ref a), some (.ref lh), some (.int wide), some (.ref g1), some (.str x), some (.ref lk), some (.ref pb), none, none] ∧ But t H G6 ∧ Tp G6 t (n + 60) ∧ G6 pb = some (.tup (.str x :: us)) ∧ (x = "add" → ∃ y z u, us = [.str y, .str z, u] ∧ y ∈ d.all ∧ z ∈ d.all) ∧ (x ≠ "add" → ∃ ps, AcIn d ⟨x, ps⟩ ∧ ImAll G6 (ps.map Pt.d) us) :=
                ⟨pa, _, rfl, b6, hT7.mono (by omega), hpa6, keepM G6 b6 (hT7.mono (by omega)) hpa6⟩
              refine ⟨u1, _, rfl, .inr (SqT.of h1), rfl, flat_strs _, _, rfl, ?_⟩
              refine ite2 (fun hin => ?_) (fun hin => iteF stay)
              have hin' : x = "add" ∨ x = "mid" := by
                have : inV (.str x) ((["add", "mid"] : List Str).map V.str) = true := hin
                rw [in_strs] at this
                simpa using of_decide_eq_true this
              obtain ⟨y, z, v3, eus, hy, hz⟩ : ∃ y z v3, ps.map Pt.v = [.str y, .str z, v3] ∧ y ∈ d.nums ∧ z ∈ d.nums := by
                rcases hin' with e | e
                · subst e
                  rw [k_add] at hks
                  obtain rfl := Option.some.inj hks
                  obtain ⟨p1, p2, p3, rfl, r1, r2, r3⟩ := paired3 m3
                  obtain ⟨y, rfl, hy⟩ := r1.number' rfl
                  obtain ⟨z, rfl, hz⟩ := r2.number' rfl
                  exact ⟨y, z, _, rfl, hy, hz⟩
                · subst e
                  rw [k_mid] at hks
                  obtain rfl := Option.some.inj hks
                  obtain ⟨p1, p2, p3, rfl, r1, r2, r3⟩ := paired3 m3
                  obtain ⟨y, rfl, hy⟩ := r1.number' rfl
                  obtain ⟨z, rfl, hz⟩ := r2.number' rfl
                  exact ⟨y, z, _, rfl, hy, hz⟩
              have hpa7 : G6 pa = some (.tup [.str x, .str y, .str z, v3]) := by
                rw [hpa6, eus]
                rfl
              refine ⟨_, rfl, pa, _, 1, .str y, rfl, rfl, SqT.of hpa7, atI_nat (j := 1) rfl, _, rfl, a, _, 2, _, rfl, rfl, SqT.of (kT b6 ha), atI_nat (j := 2) rfl, f', _, rfl, .inr (SqT.of (kT b6 hf)), rfl, flat_strs _, _, rfl, ?_⟩
              refine ite2 (fun hf2 => ?_) (fun hf2 => stay)
              have yf : y ∈ d.fingers := by
                have : inV (.str y) (d.fingers.map V.str) = true := hf2
                rw [in_strs] at this
                exact of_decide_eq_true this
              have fpos : 0 < d.fingers.length := List.length_pos_of_mem yf
              clear stay keepM
              refine ⟨_, rfl, _, rfl, slA_of hpa7 rfl fun u2 G7 s7 h7 => ?_⟩
              have hpa8 := s7 _ _ hpa7
              refine ⟨_, rfl, _, rfl, ?_⟩
              dsimp only [tNoPart]
              refine slA_of hpa8 rfl fun u3 G8 s8 h8 => ⟨u3, rfl, ⟨_, SqT.of h8⟩, fun D4 hD4 => ?_⟩
              have h78 := s8 _ _ h7
              have hT8 := (hT7.same s7).same s8
              have b8 : But t H G8 := (b6.trans (.of s7)).trans (.of s8)
              have tD4 := hT8.ne' hD4
              have tt : ∀ {G : Hp} {k : Addr} {xs : List V} {m : Nat}, Tp G t m → G k = some (.tup xs) → k ≠ t := fun {G k xs m} hT e => by
                obtain ⟨_, _, _, e', _⟩ := hT
                exact ne_of e e' (fun z => by cases z)
              have u3t := tt hT8 h8
              have u2t := tt hT8 h78
              refine lc_w (walk_tup (K := K) (a := u3) (xs := [.str z, v3])) (fun z => z = t) (fun j acc G => Tp G t (n + 41 + j) ∧ But t G8 G ∧ ∃ zs : List Str, zs.length = j ∧ (∀ z ∈ zs, z ∈ d.fingers) ∧ acc = zs.map V.str) (fun z => tD4 z.symm) hD4 (by show 2 < sizeLine; decide)
                (fun j acc G G' ⟨g1, g2, g3⟩ k => ⟨g1.at k tD4, fun y o e ny => k _ _ (g2 y o e ny) (ne_of_none e hD4), g3⟩) ⟨hT8.mono (by omega), .refl, [], rfl, (fun z h => nomatch h), rfl⟩ (fun _ _ _ _ _ h => SqT.of (h.2.1 _ _ h8 u3t)) ?_ ?_
              · rintro j acc z Ga Gb hj hb ⟨m1, m2, zs, m3, m4, rfl⟩ hA hal ⟨rfl, hz⟩ N N0 q1 q0
                have hj : j < 2 := hj
                refine ⟨rfl, ?_⟩
                have bH := b8.trans m2
                refine ⟨_, rfl, _, rfl, a, _, 2, _, rfl, rfl, SqT.of (kT bH ha), atI_nat (j := 2) rfl, t, f', _, _, rfl, m1, by omega, .inr (SqT.of (kT bH hf)), tt m1 (kT bH hf), by rw [List.length_map]; exact fpos, by rw [List.length_map]; omega, fun i v G9 hi hT9 b9 => ?_⟩
                obtain ⟨fy, hfy, rfl⟩ := map_at hi
                refine q1 _ _ (fun y o e ny => b9 y o e ny) ⟨hT9, m2.trans b9, zs ++ [fy], by simp [m3], fun w hw => ?_, by rw [List.map_append]; rfl⟩
                rcases List.mem_append.mp hw with z | z
                · exact m4 w z
                · rw [List.mem_singleton.mp z] <;> skip
                  exact List.mem_of_getElem? hfy
              · rintro acc G9 hb9 hA hal ⟨m1, m2, zs, m3', m4, rfl⟩
                obtain ⟨f1, f2, rfl⟩ : ∃ f1 f2, zs = [f1, f2] := by
                  match zs, m3' with
                  | [f1, f2], _ => exact ⟨f1, f2, rfl⟩
                have mf1 : f1 ∈ d.all := nums_all (List.mem_append_right _ (m4 f1 (by simp)))
                have mf2 : f2 ∈ d.all := nums_all (List.mem_append_right _ (m4 f2 (by simp)))
                refine .inl ⟨D4, _, rfl, SqL.of hA, fun D5 nD5 => ?_⟩
                have s10 := same_new (o := .tup (([f1, f2] : List Str).map V.str)) nD5
                refine catA_of (s10 _ _ (m2 _ _ h78 u2t)) upd_same (by show 4 ≤ sizeLine; decide) fun u6 G10 s11 h11 => ?_
                refine ⟨u6, _, rfl, (b8.trans m2).trans (.of (s10.trans s11)), (m1.same (s10.trans s11)).mono (by show n + 41 + 2 ≤ n + 60; omega), h11, fun e => ⟨y, f1, .str f2, rfl, nums_all hy, mf1⟩, fun ne => ?_⟩
                have em : x = "mid" := hin'.resolve_left ne
                rw [em]
                exact ⟨_, midIn ok (nums_all hy) mf1 mf2, .cons .str (.cons .str (.cons .str .nil))⟩
            · rintro σ G6 ⟨pb, us, rfl, b6, hT6, hpb, cadd, cno⟩
              refine ⟨_, rfl, rfl, _, rfl, ?_⟩
              refine ite2 (fun he => ?_) (fun he => ?_)
              · have ex : x = "add" := V.str.inj (of_decide_eq_true he)
                obtain ⟨y, z, u, rfl, hy, hz⟩ := cadd ex
                subst ex
                refine ⟨_, rfl, _, rfl, slA_of hpb rfl fun u1 G7 s7 h7 => ?_⟩
                refine ⟨_, rfl, _, rfl, t, n + 60, wide, rfl, hT6.same s7, by omega, w0, w1, fun i G8 i0 i1 hT8 b8 => ?_⟩
                have u1t : u1 ≠ t := by
                  obtain ⟨_, _, _, e, _⟩ := hT6.same s7
                  exact ne_of h7 e (fun z => by cases z)
                refine ⟨(by show 1 ≤ sizeLine; decide), fun u2 n2 => ?_⟩
                have s9 := same_new (o := .tup [.int i]) n2
                refine catA_of (s9 _ _ (b8 _ _ h7 u1t)) upd_same (by show 4 ≤ sizeLine; decide) fun u3 G9 s10 h10 => ?_
                refine ⟨_, rfl, ?_⟩
                exact q _ _ _ (addIn ok hy hz (i := i) (.of w1 i0 i1)) (.tup h10 (.cons .str (.cons .str (.cons .str (.cons .int .nil))))) ((hT8.same (s9.trans s10)).mono (by omega)) (((b6.trans (.of s7)).trans b8).trans (.of (s9.trans s10)))
              · have xna : x ≠ "add" := fun e => he (by rw [e]; exact decide_eq_true rfl)
                obtain ⟨ps', h1, h2⟩ := cno xna
                refine ⟨_, rfl, ?_⟩
                exact q _ _ _ h1 (.tup hpb (.cons .str h2)) (hT6.mono (by omega)) b6
end
end K

set_option maxRecDepth 100000
set_option maxHeartbeats 3900000
namespace K
open PySem PySem.Spec PyProof.Rows L2
/-! ### a definition that is drawn -/
theorem k_back : kindsOf "back" = some (["number"] : List Str) := by decide +kernel
theorem k_go : kindsOf "go" = some (["label"] : List Str) := by decide +kernel
theorem k_if : kindsOf "if" = some (["side", "sign", "side", "label"] : List Str) := by decide +kernel
theorem backIn {d : Hd} (ok : HdOk d) {x : Str} (h : x ∈ d.all) : AcIn d ⟨"back", [.s x]⟩ := by
  refine ⟨⟨_, k_back, .cons (.number x (ok.nm x h).ok) .nil⟩, fun y hy => ?_, fun p hp => by rw [List.mem_singleton.mp hp]; exact (ok.nm x h).pts⟩
  rw [names_kinds (a := ⟨"back", [.s x]⟩) k_back] at hy
  simp only [pns, pn_one (k := "number") (x := x) (.inl rfl), List.append_nil, List.mem_singleton] at hy
  subst hy
  exact h
theorem goIn {d : Hd} (i : Int) (hi : SmI i) : AcIn d ⟨"go", [.w i]⟩ := by
  refine ⟨⟨_, k_go, .cons (.label i) .nil⟩, fun y hy => ?_, fun p hp => by rw [List.mem_singleton.mp hp]; exact .w hi⟩
  rw [names_kinds (a := ⟨"go", [.w i]⟩) k_go] at hy
  cases hy
theorem KP.label' {k : Str} {p : Pt} (h : KP k p) (e : k = "label") : ∃ i, p = .w i := by
  cases h with
  | label i => exact ⟨i, rfl⟩
  | word => exact absurd e (by decide +kernel)
  | names => exact absurd e (by decide +kernel)
  | sign => exact absurd e (by decide +kernel)
  | sideW => exact absurd e (by decide +kernel)
  | sideS => exact absurd e (by decide +kernel)
  | row => exact absurd e (by decide +kernel)
  | number => exact absurd e (by decide +kernel)
  | plain => exact absurd e (by decide +kernel)
  | df => exact absurd e (by decide +kernel)
theorem paired1 {α β : Type} {R : α → β → Prop} {a : α} {ps : List β} (h : Paired R [a] ps) : ∃ x, ps = [x] ∧ R a x := by
  cases h with
  | cons r1 t =>
    cases t
    exact ⟨_, rfl, r1⟩
theorem paired4 {α β : Type} {R : α → β → Prop} {a b c e : α} {ps : List β} (h : Paired R [a, b, c, e] ps) : ∃ x y z u, ps = [x, y, z, u] ∧ R a x ∧ R b y ∧ R c z ∧ R e u := by
  cases h with
  | cons r1 t =>
    obtain ⟨y, z, u, rfl, r2, r3, r4⟩ := paired3 t
    exact ⟨_, _, _, _, rfl, r1, r2, r3, r4⟩
theorem last_label {d : Hd} {a : Ac} (h : AcIn d a) (e : a.word = "if" ∨ a.word = "go") : ∃ ps i, a.parts = ps ++ [.w i] ∧ ps.length ≤ 3 ∧ ∀ j, SmI j → AcIn d ⟨a.word, ps ++ [.w j]⟩ := by
  obtain ⟨x, parts⟩ := a
  obtain ⟨⟨ks, hk, P⟩, hn, hz⟩ := h
  have hz : ∀ p ∈ parts, PtS p := hz
  have hk : kindsOf x = some ks := hk
  have P : Paired KP ks parts := P
  rw [names_kinds (a := ⟨x, parts⟩) hk] at hn
  have hn : ∀ y ∈ pns ks parts, y ∈ d.all := hn
  have e : x = "if" ∨ x = "go" := e
  rcases e with e | e
  · subst e
    rw [k_if] at hk
    rcases Option.some.inj hk with rfl
    obtain ⟨p1, p2, p3, p4, rfl, r1, r2, r3, r4⟩ := paired4 P
    obtain ⟨i, rfl⟩ := r4.label' rfl
    refine ⟨[p1, p2, p3], i, rfl, Nat.le_refl _, fun j hj => ⟨⟨_, k_if, .cons r1 (.cons r2 (.cons r3 (.cons (.label j) .nil)))⟩, fun y hy => hn y ?_, fun p hp => ?_⟩⟩
    rotate_left
    · obtain h | h := List.mem_append.mp hp
      · exact hz p (show p ∈ [p1, p2, p3] ++ [Pt.w i] from List.mem_append_left _ h)
      · rw [List.mem_singleton.mp h]
        exact .w hj
    have e2 : (Ac.mk "if" [p1, p2, p3, Pt.w j]).names = pns ["side", "sign", "side", "label"] [p1, p2, p3, Pt.w j] := names_kinds k_if
    have hy : y ∈ (Ac.mk "if" [p1, p2, p3, Pt.w j]).names := hy
    rw [e2] at hy
    exact hy
  · subst e
    rw [k_go] at hk
    rcases Option.some.inj hk with rfl
    obtain ⟨p1, rfl, r1⟩ := paired1 P
    obtain ⟨i, rfl⟩ := r1.label' rfl
    exact ⟨[], i, rfl, Nat.zero_le _, fun j hj => goIn j hj⟩
theorem ImAll.split {H : Hp} : ∀ {ds es : List PyData} {us : List V}, ImAll H (ds ++ es) us → ∃ v1 v2, us = v1 ++ v2 ∧ ImAll H ds v1 ∧ ImAll H es v2
  | [], es, us, h => ⟨[], us, rfl, .nil, h⟩
  | d :: ds, es, us, h => by
    rw [List.cons_append] at h
    unfold ImAll at h
    obtain ⟨v, r, rfl, h1, h2⟩ := h
    obtain ⟨v1, v2, rfl, h3, h4⟩ := ImAll.split h2
    exact ⟨v :: v1, v2, rfl, .cons h1 h3, h4⟩
theorem init_cut {xs : List V} {v : V} : cutV (xs ++ [v]) none (some (-1)) = xs := by
  unfold cutV
  have h1 : HT.sIx (xs ++ [v]).length 0 none = 0 := rfl
  have h2 : HT.sIx (xs ++ [v]).length (xs ++ [v]).length (some (-1)) = xs.length := by
    rw [List.length_append]
    rw [List.length_singleton]
    unfold HT.sIx
    simp
    omega
  rw [h1, h2, Nat.sub_zero, List.drop_zero, List.take_left]
theorem fmod_in (i : Int) {n : Nat} (h : 0 < n) : ∃ k : Nat, k < n ∧ i.fmod (n : Int) = (k : Int) := by
  have a : 0 ≤ i.fmod (n : Int) := Int.fmod_nonneg_of_pos _ (by omega)
  have b : i.fmod (n : Int) < n := Int.fmod_lt_of_pos _ (by omega)
  exact ⟨(i.fmod (n : Int)).toNat, by omega, by omega⟩
/-- all that lies at D aside, tuples alone matter -/
def ImD (D : Addr) (G : Hp) (ds : List PyData) (vs : List V) : Prop := ∀ G' : Hp, (∀ a xs, a ≠ D → G a = some (.tup xs) → G' a = some (.tup xs)) → ImAll G' ds vs
theorem keep_lst {G : Hp} {l : Addr} {xs : List V} {o : HO} (h : G l = some (.lst xs)) : ∀ a ys, G a = some (HO.tup ys) → (upd G l o) a = some (.tup ys) := fun a ys e => by
  rw [upd_ne (ne_of e h (fun z => by cases z))]
  exact e
end K

set_option maxRecDepth 100000
set_option maxHeartbeats 3900000
namespace K
open PySem PySem.Spec PyProof.Rows L2
/-- a definition drawn for the head d -/
structure DefIn (d : Hd) (e : Dn) : Prop where
  nm : e.name = d.name
  ps : e.params = d.params
  fs : e.fingers = d.fingers
  rs : e.rows = d.rows
  pos : 0 < e.steps.length
  few : e.steps.length ≤ 12
  acts : ∀ s ∈ e.steps, AcIn d s.2
  small : ∀ s ∈ e.steps, SmI s.1
  rise : (e.steps.map (·.1)).Pairwise (· < ·)
  last : ∀ k s, e.steps[k]? = some s → s.2.word = ("call" : Str) → k + 1 < e.steps.length
section
variable {P : Program} {w : World} {K : PySem.W.Frag} {mg : Str → Option Value} {base : Heap}
abbrev s_law_drawn_def : Stmt := topS 24
def spDDef : Sp := fun vs H Q _ => ∃ (t : Addr) (n : Nat) (hv lv : V) (d : Hd) (ds : List Hd) (wide : Int), vs = [.ref t, hv, lv, .int wide] ∧ Tp H t n ∧ n < 700000 ∧ HdAt H hv d ∧ HdOk d ∧ HsAt H lv ds ∧ 0 < ds.length ∧ ds.length ≤ 10 ∧ (∀ e ∈ ds, HdOk e ∧ Cn e.name ∧ e.name.cps.size ≤ 100) ∧ 0 < wide ∧ wide < 1000000 ∧
  ∀ (e : Dn) (v : V) (H' : Hp), DefIn d e → Im H' e.d v → Tp H' t (n + 2000) → But t H H' → Q v H'
theorem scDd : FnScope ["tape", "head", "heads", "wide", "acts", "labels", "act", "found", "label", "turn"] ["tape", "head", "heads", "wide"] (defScope s_law_drawn_def) := ⟨rfl, rfl, rfl, by decide +kernel, rfl, by decide +kernel, by decide +kernel⟩
theorem ok_drawn_def (B : Bs mg) (c_draw : C8.Cal P w K mg base 1 "_law_draw" spDraw []) (c_pick : C8.Cal P w K mg base 2 "_law_pick" (spPick K) []) (c_drawn_act : C8.Cal P w K mg base 5 "_law_drawn_act" spDAct []) {f : Addr} {fd : FuncData} (F : Fun K "_law_drawn_def" "_law_drawn_def" s_law_drawn_def f fd) :
    FnOk P w K mg base CX0 6 f fd ["tape", "head", "heads", "wide"] spDDef := by
  refine F.ok scDd (fun vs H Q E h => ?_) (fun cdv A outer s H vs Q E hr h => ?_)
  · obtain ⟨t, n, hv, lv, d, ds, wide, rfl, _⟩ := h
    rfl
  · obtain ⟨t, n, hv, lv, d, ds, wide, rfl, hT, hn, hd, ok, hs, dpos, dfew, dok, w0, w1, q⟩ := h
    refine ⟨_, (pss_cons (ps_setLc (i := 4) (own := [("turn", 9)]) (g := gName 9) (tt := tYes) (by rfl) scDd.nd rfl rfl (sw_true rfl rfl rfl (by decide +kernel)) (pi_range1 (by rfl) B.range (pa_cons (C8.pe_c c_draw hr (by decide) (by rfl) (pa_cons (pv 0) (pa_cons pe_int pa_nil))) pa_nil)) (blkOk_by (own := [("turn", 9)]) (N := ["tape", "head", "heads", "wide", "acts", "labels", "act", "found", "label", "turn"]) (sc := defScope s_law_drawn_def) (by decide +kernel)) (fun _ _ _ _ _ => (pg_name (i := 9) scDd.nd rfl (.inl rfl) (hf := .inr rfl))) (fun _ _ _ _ _ => pts_nil) (fun _ _ _ _ _ => (C8.pe_c c_drawn_act hr (by decide) (by rfl) (pa_cons (pv 0) (pa_cons (pv 1) (pa_cons (pv 2) (pa_cons (pv 3) pa_nil)))))))
      (pss_cons (ps_expr (pe_bm PySem.F.plainAttrs_list PySem.F.slot_list_append PySem.F.type_list_append mt_append (pv 4) (pa_cons (C8.pe_c c_pick hr (by decide) (by rfl) (pa_cons (pv 0) (pa_cons (pe_lst (pa_cons (pe_tup (pa_cons pe_str (pa_cons (pe_ix (ixL K rfl) (pe_ix (ixT K rfl) (pv 1) pe_int (fun _ _ => rfl)) pe_int (fun _ _ => rfl)) pa_nil))) (pa_cons (pe_tup (pa_cons pe_str (pa_cons (C8.pe_c c_draw hr (by decide) (by rfl) (pa_cons (pv 0) (pa_cons pe_int pa_nil))) pa_nil))) pa_nil))) pa_nil))) pa_nil)))
      (pss_cons (ps_set (i := 5) scDd.nd rfl (.inl rfl) (pe_lst (pa_cons (C8.pe_c c_draw hr (by decide) (by rfl) (pa_cons (pv 0) (pa_cons pe_int pa_nil))) pa_nil)))
      (pss_cons (ps_for PassesOwn.never rfl (pi_list (pe_slice sl_list (pv 4) (po_some pe_int) po_none)) (pg_name (i := 6) scDd.nd rfl (.inl rfl))
      (pss_one (ps_expr (pe_bm PySem.F.plainAttrs_list PySem.F.slot_list_append PySem.F.type_list_append mt_append (pv 5) (pa_cons (pe_op op_add (pe_op op_add (pe_ix (ixL K rfl) (pv 5) (pe_un un_neg pe_int) (fun _ _ => rfl)) pe_int) (C8.pe_c c_draw hr (by decide) (by rfl) (pa_cons (pv 0) (pa_cons (C8.pe_c c_pick hr (by decide) (by rfl) (pa_cons (pv 0) (pa_cons (pe_lst (pa_cons pe_int (pa_cons pe_int (pa_cons pe_int pa_nil)))) pa_nil))) pa_nil)))) pa_nil)))))
      (pss_cons (ps_set (i := 7) scDd.nd rfl (.inl rfl) (pe_lst pa_nil))
      (pss_cons (ps_for PassesOwn.never rfl (pi_zip (by rfl) B.zip (pa_cons (pv 5) (pa_cons (pv 4) pa_nil))) (pg_tup (n := 2) rfl (pgs_cons (pg_name (i := 8) scDd.nd rfl (.inl rfl)) (pgs_cons (pg_name (i := 6) scDd.nd rfl (.inl rfl)) pgs_nil)))
      (C8.pss_cut (ps_if (pt_cmpR (inS K rfl) (pe_ix (ixT K rfl) (pv 6) pe_int (fun _ _ => rfl)) (pe_tup (pa_cons pe_str (pa_cons pe_str pa_nil))) rfl) (pss_one (ps_set (i := 6) scDd.nd rfl (.inl rfl) (pe_op op_catA (pe_slice sl_tupA (pv 6) po_none (po_some (pe_un un_neg pe_int))) (pe_tup (pa_cons (pe_ix (ixL K rfl) (pv 5) (pe_op op_modN (pe_ix (ixT K rfl) (pv 6) (pe_un un_neg pe_int) (fun _ _ => rfl)) (pe_callB call_len_seq (by rfl) B.len PySem.boot_len (pa_cons (pv 5) pa_nil))) (fun _ _ => rfl)) pa_nil))))) pss_nil)
      (pss_one (ps_expr (pe_bm PySem.F.plainAttrs_list PySem.F.slot_list_append PySem.F.type_list_append mt_append (pv 7) (pa_cons (pe_tup (pa_cons (pv 8) (pa_cons (pv 6) pa_nil))) pa_nil))))))
      (pss_one (ps_ret (pe_op op_catA (pe_slice sl_tupA (pv 1) po_none (po_some pe_int)) (pe_tup (pa_cons (pe_tupleOf (by rfl) B.tuple (pv 7)) pa_nil))))))))))), ?_⟩
    have hd0 := hd
    have hs0 := hs
    obtain ⟨a, p, f', r, l, rfl, ha, hp, hf, hrr, hl⟩ := hd
    obtain ⟨lh, hh, rfl, hlh, hds⟩ := hs
    obtain ⟨pl0, pl3⟩ := ok.pl
    have lt : l ≠ t := by
      obtain ⟨_, _, _, e, _⟩ := hT
      exact ne_of hl e (fun z => strs_ne_ints z.symm)
    have kT : ∀ {G : Hp} {k : Addr} {xs : List V}, But t H G → H k = some (.tup xs) → G k = some (.tup xs) := fun {G k xs} b e => keep_but b hT k xs e
    have kL : ∀ {G : Hp}, But t H G → G l = some (.lst (d.plain.map V.str)) := fun b => b _ _ hl lt
    refine ⟨_, rfl, t, n, 12, rfl, hT, by omega, by decide, by decide, fun m G0 m0 m1 hT0 b0 => ?_⟩
    refine ⟨m, rfl, by omega, by omega, fun D hD => ?_⟩
    obtain ⟨mm, rfl⟩ : ∃ mm : Nat, m = (mm : Int) := ⟨m.toNat, by omega⟩
    have m12 : mm < 12 := by omega
    have tD := hT0.ne' hD
    have nDH : H D = none := b0.back hT0 hD
    refine lc_w (walk_range (lo := 0) (n := ((mm : Nat) : Int).toNat)) (fun x => x = t) (fun j acc G => Tp G t (n + 1 + 100 * j) ∧ But t G0 G ∧ ∃ as : List Ac, as.length = j ∧ (∀ x ∈ as, AcIn d x) ∧ ImD D G (as.map Ac.d) acc) (fun z => tD z.symm) hD (by rw [Int.toNat_natCast]; exact Nat.lt_of_lt_of_le m12 (by decide))
      (fun j acc G G' ⟨g1, g2, as, g3, g4, g5⟩ k => ⟨g1.at k tD, fun y o e ny => k _ _ (g2 y o e ny) (ne_of_none e hD), as, g3, g4, fun G2 k2 => g5 G2 fun b xs nb e => k2 b xs nb (k _ _ e nb)⟩) ⟨hT0, .refl, [], rfl, (fun x h => nomatch h), fun _ _ => .nil⟩ (fun _ _ _ _ _ _ => trivial) ?_ ?_
    · rintro j acc x Ga Gb hj hb ⟨g1, g2, as, g3, g4, g5⟩ hA hal ⟨rfl, rfl⟩ N N0 q1 q0
      rw [Int.toNat_natCast] at hj
      refine ⟨rfl, ?_⟩
      have bH := b0.trans g2
      refine ⟨_, rfl, _, rfl, _, rfl, _, rfl, t, _, _, _, d, ds, wide, rfl, g1, by omega, hd0.but bH hT, ok, hs0.but bH hT, dpos, dfew, dok, w0, w1, fun ac v G2 hac hv hT2 b2 => ?_⟩
      have dD : G2 D = some (.lst acc) := b2 _ _ hA tD.symm
      refine q1 _ _ b2 ⟨hT2.mono (by omega), g2.trans b2, as ++ [ac], by simp [g3], fun x hx => ?_, fun G3 k3 => ?_⟩
      · rcases List.mem_append.mp hx with h | h
        · exact g4 x h
        · rw [List.mem_singleton.mp h]
          exact hac
      · rw [List.map_append]
        refine ImAll.app (g5 G3 fun b xs nb e => k3 b xs nb (keep_but b2 g1 _ _ e)) (.cons (Im.keep (fun b xs e => k3 b xs (ne_of e dD (fun z => by cases z)) e) _ _ hv) .nil)
    · rintro acts G1 hb1 hA hal ⟨g1, g2, as, g3, g4, g5⟩
      rw [Int.toNat_natCast] at g1 g3 hal
      have b1 := b0.trans g2
      have imA := g5 G1 fun _ _ _ e => e
      clear g5
      have nlt : D ≠ t := tD.symm
      dsimp only [gName]
      -- the last act
      have h0 : d.plain[0]? = some d.plain[0] := List.getElem?_eq_getElem pl0
      refine ⟨_, rfl, .inl ⟨rfl, _, SqL.of hA⟩, _, rfl, _, rfl, a, _, 4, _, rfl, rfl, SqT.of (kT b1 ha), atI_nat (j := 4) rfl, l, _, 0, _, rfl, rfl, SqL.of (kL b1), atI_nat (j := 0) (by rw [List.getElem?_map, h0]; rfl), (by show 2 ≤ sizeLine; decide), fun u1 n1 => ?_⟩
      have s1 := same_new (o := .tup [.str "back", .str d.plain[0]]) n1
      refine ⟨_, rfl, t, _, 30, rfl, g1.same s1, by omega, by decide, by decide, fun r1 G2 r10 r11 hT2 b2 => ⟨(by show 2 ≤ sizeLine; decide), fun u2 n2 => ⟨(by show 2 ≤ sizeLine; decide), fun u3 n3 => ?_⟩⟩⟩
      have u1t : u1 ≠ t := g1.ne n1
      have s2 := same_new (o := .tup [.str "go", .int r1]) n2
      have s3 := same_new (o := .lst [.ref u1, .ref u2]) n3
      have e1 := s3 _ _ (s2 _ _ (b2 _ _ upd_same u1t))
      have e2 := s3 _ _ (show (upd G2 u2 (.tup [.str "go", .int r1])) u2 = _ from upd_same)
      have hA3 := s3 _ _ (s2 _ _ (b2 _ _ (s1 _ _ hA) nlt))
      have hT3 := (hT2.same s2).same s3
      have b3 : But t H _ := ((b1.trans (.of s1)).trans b2).trans (.of (s2.trans s3))
      have k13 : But t G1 _ := ((But.of s1).trans b2).trans (.of (s2.trans s3))
      have u3t : u3 ≠ t := (hT2.same s2).ne n3
      obtain ⟨G3, eG3⟩ : ∃ G3, G3 = upd (upd G2 u2 (.tup [.str "go", .int r1])) u3 (.lst [.ref u1, .ref u2]) := ⟨_, rfl⟩
      rw [← eG3] at e1 e2 hA3 hT3 b3 k13
      have hu3 : G3 u3 = some (.lst [.ref u1, .ref u2]) := by rw [eG3]; exact upd_same
      rw [← eG3]
      clear eG3 s3 s2 n3 n2
      refine ⟨t, u3, _, _, rfl, hT3, by omega, .inl (SqL.of hu3), u3t, by show 0 < 2; decide, by show 2 < 100000; decide, fun i v G4 hi hT4 b4 => ?_⟩
      obtain ⟨ac, hac, hv, hnc⟩ : ∃ ac, AcIn d ac ∧ Im G4 ac.d v ∧ ac.word ≠ ("call" : Str) := by
        match i, hi with
        | 0, hi =>
          obtain rfl := Option.some.inj hi
          exact ⟨_, backIn ok (plain_all (List.getElem_mem pl0)), .tup (keep_but b4 hT3 _ _ e1) (.cons .str (.cons .str .nil)), (show ("back" : Str) ≠ "call" by decide +kernel)⟩
        | 1, hi =>
          obtain rfl := Option.some.inj hi
          exact ⟨_, goIn r1 (.of (w := 30) (by decide) (by omega) (by omega)), .tup (keep_but b4 hT3 _ _ e2) (.cons .str (.cons .int .nil)), (show ("go" : Str) ≠ "call" by decide +kernel)⟩
        | (i + 2), hi => simp at hi
      have hA4 := b4 _ _ hA3 nlt
      refine ⟨D, acts, _, rfl, rfl, hA4, Nat.lt_of_le_of_lt (show acts.length ≤ 20 by omega) (by decide), ?_⟩
      have keepD := keep_lst (o := .lst (acts ++ [v])) hA4
      have imB : ImAll (upd G4 D (.lst (acts ++ [v]))) ((as ++ [ac]).map Ac.d) (acts ++ [v]) := by
        rw [List.map_append]
        exact .app (ImAll.keep (fun b xs e => keepD b xs (keep_but b4 hT3 _ _ (keep_but k13 g1 _ _ e))) _ _ imA) (.cons (Im.keep keepD _ _ hv) .nil)
      have b4' := (b3.trans b4).put nDH (o := .lst (acts ++ [v]))
      have hT4' : Tp (upd G4 D (.lst (acts ++ [v]))) t (n + 1110) := (hT4.at .set tD).mono (by omega)
      have hD4 : (upd G4 D (.lst (acts ++ [v]))) D = some (.lst (acts ++ [v])) := upd_same
      have g3' : (as ++ [ac]).length = mm + 1 := by simp [g3]
      have g4' : ∀ x ∈ as ++ [ac], AcIn d x := fun x hx => by
        rcases List.mem_append.mp hx with h | h
        · exact g4 x h
        · rw [List.mem_singleton.mp h]
          exact hac
      have gl : ∀ k a, (as ++ [ac])[k]? = some a → a.word = ("call" : Str) → k + 1 < (as ++ [ac]).length := fun k a h1 h2 => by
        have hk := (List.getElem?_eq_some_iff.mp h1).1
        rw [List.length_append] at hk ⊢
        by_cases e : k = as.length
        · subst e
          rw [List.getElem?_append_right (Nat.le_refl _), Nat.sub_self] at h1
          obtain rfl := Option.some.inj h1
          exact absurd h2 hnc
        · have : [ac].length = 1 := rfl
          omega
      revert imB b4' hT4' hD4 g3' g4' gl
      generalize (upd G4 D (.lst (acts ++ [v]))) = G5
      generalize (acts ++ [v]) = avs
      generalize (as ++ [ac]) = acs
      clear hac hv hnc g4 g3 imA keepD hA4 hT4 b4 hA3 e1 e2 b3 k13 hu3 hT3 u3t hb1 hA hal s1 b2 hT2 g1 g2 b1 n1
      intro imB b5 hT5 hD5 alen ain alast
      have avl := imB.length
      rw [List.length_map] at avl
      -- labels
      refine ⟨_, rfl, t, _, 12, rfl, hT5, by omega, by decide, by decide, fun r2 G6 r20 r21 hT6 b6 => ⟨(by show 1 ≤ sizeLine; decide), fun lb nlb => ?_⟩⟩
      have s7 := same_new (o := .lst [.int r2]) nlb
      have hD6 := b6 _ _ hD5 nlt
      have lbt : lb ≠ t := hT6.ne nlb
      have nlbH : H lb = none := (b5.trans b6).back hT6 nlb
      have Dlb : D ≠ lb := ne_of_none hD6 nlb
      dsimp only [gName]
      refine ⟨_, rfl, _, rfl, ?_⟩
      unfold tNoPart
      refine ⟨D, avs, rfl, SqL.of (s7 _ _ hD6), fun ls nls => ⟨ls, rfl, ⟨_, SqL.of upd_same⟩, ?_⟩⟩
      obtain ⟨x0, arest, eav⟩ : ∃ x0 arest, avs = x0 :: arest := by
        cases avs with
        | nil => simp at avl; omega
        | cons x r => exact ⟨x, r, rfl⟩
      have ecut : cutV avs (some 1) none = arest := by rw [eav]; exact tail_cut
      rw [ecut]
      have arl : arest.length = mm := by
        rw [eav, List.length_cons] at avl
        omega
      have s8 := same_new (o := .lst arest) nls
      have lslb : lb ≠ ls := ne_of_none (show (upd G6 lb (.lst [.int r2])) lb = _ from upd_same) nls
      have lst : ls ≠ t := (hT6.same s7).ne nls
      have imC : ImAll (upd (upd G6 lb (.lst [.int r2])) ls (.lst arest)) (acs.map Ac.d) avs := ((imB.but b6 hT5).same s7).same s8
      have hD8 := s8 _ _ (s7 _ _ hD6)
      have hlb8 := s8 _ _ (show (upd G6 lb (.lst [.int r2])) lb = some (.lst (([r2] : List Int).map V.int)) from upd_same)
      have hls8 : (upd (upd G6 lb (.lst [.int r2])) ls (.lst arest)) ls = some (.lst arest) := upd_same
      have b8 : But t H (upd (upd G6 lb (.lst [.int r2])) ls (.lst arest)) := (b5.trans b6).trans (.of (s7.trans s8))
      have hT8 := (hT6.same s7).same s8
      refine for_it (walk_list (K := K) (a := ls) (xs := arest)) (fun i σ G => ∃ (y6 : Option V) (ini : List Int) (last : Int), σ = [some (.ref t), some (.ref a), some (.ref lh), some (.int wide), some (.ref D), some (.ref lb), y6, none, none, none] ∧ But t H G ∧ Tp G t (n + 1111 + 2 * i) ∧ G D = some (.lst avs) ∧ G ls = some (.lst arest) ∧ G lb = some (.lst ((ini ++ [last]).map V.int)) ∧ ImAll G (acs.map Ac.d) avs ∧ ini.length = i ∧ (ini ++ [last]).Pairwise (· < ·) ∧ ∀ x ∈ ini ++ [last], 0 ≤ x ∧ x ≤ 12 + 701 * (i : Int))
        ⟨_, [], r2, rfl, b8, hT8.mono (by omega), hD8, hls8, hlb8, imC, rfl, List.pairwise_singleton _ _, fun x hx => by
          have hx : x ∈ [r2] := hx
          rw [List.mem_singleton.mp hx]
          omega⟩ (fun i σ G _ ⟨_, _, _, _, _, _, _, g, _⟩ => SqL.of g) ?_ ?_
      · rintro i x σ Gz G hi ⟨y6, ini, last, rfl, c1, c2, c3, c4, c5, c6, c7, c8, c9⟩ ⟨rfl, hx⟩
        have hi' : i < 12 := by omega
        refine ⟨_, rfl, .inl ⟨rfl, _, SqL.of c5⟩, _, rfl, _, rfl, lb, _, _, _, rfl, rfl, SqL.of c5, by rw [List.map_append]; exact atI_last _ _, _, _, rfl, rfl, _, rfl, _, rfl, (by show 3 ≤ sizeLine; decide), fun u nu => ?_⟩
        have su := same_new (o := .lst [.int 1, .int 10, .int 700]) nu
        refine ⟨t, u, _, _, rfl, c2.same su, by omega, .inl (SqL.of upd_same), c2.ne nu, by show 0 < 3; decide, by show 3 < 100000; decide, fun j v G2 hj hTa ba => ?_⟩
        obtain ⟨m, rfl, mp, ml⟩ : ∃ m : Int, v = .int m ∧ 0 < m ∧ m ≤ 700 := by
          match j, hj with
          | 0, hj => exact ⟨1, (Option.some.inj hj).symm, by decide, by decide⟩
          | 1, hj => exact ⟨10, (Option.some.inj hj).symm, by decide, by decide⟩
          | 2, hj => exact ⟨700, (Option.some.inj hj).symm, by decide, by decide⟩
          | (j + 3), hj => simp at hj
        refine ⟨t, _, m, rfl, hTa, by omega, mp, by omega, fun r3 G3 r30 r31 hTb bb => ?_⟩
        have bab : But t G G3 := ((But.of su).trans ba).trans bb
        have c5' := bab _ _ c5 lbt
        refine ⟨_, _, rfl, rfl, lb, _, _, rfl, rfl, c5', by rw [List.length_map, List.length_append]; exact Nat.lt_of_le_of_lt (show _ ≤ 13 by simp; omega) (by decide), ?_⟩
        have kk := keep_lst (o := .lst ((ini ++ [last]).map V.int ++ [.int (last + 1 + r3)])) c5'
        refine ⟨_, ini ++ [last], last + 1 + r3, rfl, (c1.trans bab).put nlbH, (hTb.at .set lbt.symm).mono (by omega), ?_, ?_, ?_, ?_, by simp [c7], ?_, fun x hx => ?_⟩
        · rw [upd_ne Dlb]
          exact bab _ _ c3 nlt
        · rw [upd_ne (Ne.symm lslb)]
          exact bab _ _ c4 lst
        · rw [upd_same, List.map_append (l₂ := [last + 1 + r3])]
          rfl
        · exact ImAll.keep kk _ _ (c6.but bab c2)
        · rw [List.pairwise_append]
          refine ⟨c8, List.pairwise_singleton _ _, fun y hy z hz => ?_⟩
          rw [List.mem_singleton.mp hz]
          rcases List.mem_append.mp hy with h | h
          · have := (List.pairwise_append.mp c8).2.2 y h last (by simp)
            omega
          · rw [List.mem_singleton.mp h]
            omega
        · rcases List.mem_append.mp hx with h | h
          · have := c9 x h
            rw [Int.natCast_add]
            omega
          · have := c9 last (by simp)
            rw [List.mem_singleton.mp h, Int.natCast_add]
            omega
      · rintro σ G ⟨y6, ini, last, rfl, c1, c2, c3, c4, c5, c6, c7, c8, c9⟩
        rw [arl] at c2 c7
        obtain ⟨lbs, elbs⟩ : ∃ lbs, lbs = ini ++ [last] := ⟨_, rfl⟩
        rw [← elbs] at c5 c8 c9
        have lsm : ∀ x ∈ lbs, SmI x := fun x hx => by
          have := c9 x hx
          rw [arl] at this
          unfold SmI
          omega
        have lbl : lbs.length = mm + 1 := by rw [elbs]; simp [c7]
        clear elbs c7 c4 hls8 hlb8 hD8 imC b8 hT8 s8 lslb lst ecut nls s7 nlb
        refine ⟨(by show 0 ≤ sizeLine; decide), fun lf nlf => ?_⟩
        have s9 := same_new (o := .lst []) nlf
        have lft : lf ≠ t := c2.ne nlf
        have nlfH : H lf = none := c1.back c2 nlf
        have Dlf : D ≠ lf := ne_of_none c3 nlf
        have lblf : lb ≠ lf := ne_of_none c5 nlf
        dsimp only [gName]
        have hT9 : Tp _ t (n + 1140) := (c2.same s9).mono (by omega)
        refine ⟨_, rfl, _, rfl, lb, D, _, _, rfl, SqL.of (s9 _ _ c5), SqL.of (s9 _ _ c3), for_it (walk_zip (K := K) (xs := lbs.map V.int) (ys := avs) (n := mm + 1) (by rw [List.length_map, lbl, avl, alen, Nat.min_self]))
          (fun i σ G => ∃ (y6 y8 : Option V) (fs : List V) (sts : List (Int × Ac)), σ = [some (.ref t), some (.ref a), some (.ref lh), some (.int wide), some (.ref D), some (.ref lb), y6, some (.ref lf), y8, none] ∧ But t H G ∧ Tp G t (n + 1140) ∧ G D = some (.lst avs) ∧ G lb = some (.lst (lbs.map V.int)) ∧ G lf = some (.lst fs) ∧ ImAll G (acs.map Ac.d) avs ∧ ImAll G (sts.map stD) fs ∧ sts.length = i ∧ (∀ s ∈ sts, AcIn d s.2) ∧ sts.map (·.1) = lbs.take i ∧ sts.map (fun s => s.2.word) = (acs.map Ac.word).take i)
          ⟨_, _, [], [], rfl, c1.trans (.of s9), hT9, s9 _ _ c3, s9 _ _ c5, upd_same, c6.same s9, .nil, rfl, (fun s h => nomatch h), rfl, rfl⟩ (fun i σ G _ ⟨_, _, _, _, _, _, _, g1, g2, _⟩ => ⟨SqL.of g2, SqL.of g1⟩) ?_ ?_⟩
        · rintro i x σ Gz G hi ⟨y6, y8, fs, sts, rfl, z1, z2, z3, z4, z5, z6, z7, z8, z9, z10, z11⟩ ⟨T, kv, pv, rfl, nT, rfl, hk1, hp1⟩
          obtain ⟨lab, hlab, rfl⟩ := map_at hk1
          obtain ⟨d0, hd1, hpv⟩ := z6.getv hp1
          obtain ⟨ac, hac1, rfl⟩ := map_at hd1
          have hain := ain ac (List.mem_of_getElem? hac1)
          obtain ⟨G2, eG2⟩ : ∃ G2, G2 = upd Gz T (.tup [.int lab, pv]) := ⟨_, rfl⟩
          have sT : Same Gz G2 := eG2 ▸ same_new nT
          have hT2 : G2 T = some (.tup [.int lab, pv]) := by rw [eG2]; exact upd_same
          rw [← eG2]
          clear eG2
          refine ⟨T, [.int lab, pv], rfl, SqT.of hT2, rfl, _, [pv], rfl, _, [], rfl, rfl, ?_⟩
          have hpv2 := hpv.same sT
          have x1 := z1.trans (.of sT)
          have x2 := z2.same sT
          have x3 := sT _ _ z3
          have x4 := sT _ _ z4
          have x5 := sT _ _ z5
          have x6 := z6.same sT
          have x7 := z7.same sT
          have flen : fs.length = i := by
            have := z7.length
            rw [List.length_map] at this
            omega
          refine ⟨fun σ G => ∃ (u : Addr) (ac' : Ac), σ = [some (.ref t), some (.ref a), some (.ref lh), some (.int wide), some (.ref D), some (.ref lb), some (.ref u), some (.ref lf), some (.int lab), none] ∧ AcIn d ac' ∧ Im G ac'.d (.ref u) ∧ Same G2 G ∧ ac'.word = ac.word, ?_, ?_⟩
          · have hpv3 := hpv2
            unfold Ac.d Im at hpv3
            obtain ⟨u, us, rfl, hu, hus⟩ := hpv3
            unfold ImAll at hus
            obtain ⟨wv, ps, rfl, hw, hps⟩ := hus
            unfold Im at hw
            subst hw
            refine ⟨_, rfl, u, _, 0, _, rfl, rfl, SqT.of hu, atI_nat (j := 0) rfl, (by show 2 ≤ sizeLine; decide), fun u2 n2 => ?_⟩
            have s2 := same_new (o := .tup ((["if", "go"] : List Str).map V.str)) n2
            refine ⟨u2, (["if", "go"] : List Str).map V.str, rfl, .inr (SqT.of upd_same), rfl, flat_strs _, _, rfl, ?_⟩
            refine ite2 (fun hin => ?_) (fun hin => ⟨u, ac, rfl, hain, hpv2.same s2, s2, rfl⟩)
            have hin' : ac.word = "if" ∨ ac.word = "go" := by
              have : inV (.str ac.word) ((["if", "go"] : List Str).map V.str) = true := hin
              rw [in_strs] at this
              simpa using of_decide_eq_true this
            obtain ⟨pp, pi, epp, ppl, hall⟩ := last_label hain hin'
            rw [epp, List.map_append] at hps
            obtain ⟨v1, v2, rfl, i1, i2⟩ := hps.split
            have e2 : v2 = [.int pi] := by
              unfold ImAll at i2
              obtain ⟨v, r, rfl, i3, i4⟩ := i2
              unfold ImAll at i4
              subst i4
              have i3 : Im G2 (.int pi) v := i3
              unfold Im at i3
              rw [i3]
            subst e2
            have hu' : G2 u = some (.tup ((.str ac.word :: v1) ++ [.int pi])) := hu
            obtain ⟨G3, e3⟩ : ∃ G3, G3 = upd G2 u2 (.tup ((["if", "go"] : List Str).map V.str)) := ⟨_, rfl⟩
            have eG : upd G2 u2 (.tup [.str "if", .str "go"]) = G3 := e3.symm
            rw [← e3] at s2
            rw [eG]
            clear e3 eG
            have hu3 := s2 _ _ hu'
            refine ⟨_, rfl, _, rfl, _, rfl, slA_of hu3 init_cut fun u3 G4 s4 h4 => ?_⟩
            have hu4 := s4 _ _ hu3
            have x44 := s4 _ _ (s2 _ _ x4)
            obtain ⟨kk, hkk, ekk⟩ := fmod_in pi (n := (lbs.map V.int).length) (by rw [List.length_map]; omega)
            have hkl : kk < lbs.length := by rw [List.length_map] at hkk; exact hkk
            refine ⟨_, rfl, _, rfl, _, rfl, u, _, _, _, rfl, rfl, SqT.of hu4, atI_last _ _, _, rfl, lb, _, rfl, .inl (SqL.of x44), _, _, rfl, rfl, ?_, lb, _, _, .int (lbs[kk]'hkl), rfl, rfl, SqL.of x44, ?_, (by show 1 ≤ sizeLine; decide), fun u5 n5 => ?_⟩
            · rw [List.length_map, lbl]
              omega
            · rw [ekk]
              exact atI_nat (by rw [List.getElem?_map, List.getElem?_eq_getElem hkl]; rfl)
            · have s5 := same_new (o := .tup [.int (lbs[kk]'hkl)]) n5
              have vl := i1.length
              rw [List.length_map] at vl
              refine catA_of (s5 _ _ h4) upd_same (by show v1.length + 1 + 1 ≤ sizeLine; exact Nat.le_trans (show _ ≤ 10 by omega) (by decide)) fun u6 G6 s6 h6 => ?_
              have s26 := ((s2.trans s4).trans s5).trans s6
              refine ⟨u6, _, rfl, hall (lbs[kk]'hkl) (lsm _ (List.getElem_mem hkl)), ?_, s26, rfl⟩
              refine .tup h6 (.cons .str ?_)
              rw [List.map_append]
              exact ImAll.app (i1.same s26) (.cons .int .nil)
          · rintro σ G3 ⟨u, ac', rfl, hin, him, s3, hwd⟩
            have y3 := s3 _ _ x3
            have y4 := s3 _ _ x4
            have y5 := s3 _ _ x5
            refine ⟨_, rfl, .inl ⟨rfl, _, SqL.of y5⟩, _, rfl, _, rfl, (by show 2 ≤ sizeLine; decide), fun u5 n5 => ?_⟩
            have s5 := same_new (o := .tup [.int lab, .ref u]) n5
            have w5 := s5 _ _ y5
            refine ⟨lf, _, _, rfl, rfl, w5, Nat.lt_of_le_of_lt (show fs.length ≤ 20 by omega) (by decide), ?_⟩
            have kp := keep_lst (o := .lst (fs ++ [.ref u5])) w5
            have s35 := s3.trans s5
            refine ⟨_, _, fs ++ [.ref u5], sts ++ [(lab, ac')], rfl, (x1.trans (.of s35)).put nlfH, (x2.same s35).at .set lft.symm, ?_, ?_, upd_same, ?_, ?_, by simp [z8], fun s hs => ?_, ?_, ?_⟩
            · rw [upd_ne Dlf]
              exact s5 _ _ y3
            · rw [upd_ne lblf]
              exact s5 _ _ y4
            · exact ImAll.keep kp _ _ (x6.same s35)
            · rw [List.map_append]
              refine ImAll.app (ImAll.keep kp _ _ (x7.same s35)) (.cons ?_ .nil)
              exact .tup (kp _ _ upd_same) (.cons .int (.cons (Im.keep kp _ _ (him.same s5)) .nil))
            · rcases List.mem_append.mp hs with h | h
              · exact z9 s h
              · rw [List.mem_singleton.mp h]
                exact hin
            · rw [List.map_append, z10, List.take_add_one, hlab]
              rfl
            · rw [List.map_append, z11, List.take_add_one, List.getElem?_map, hac1]
              show _ ++ [ac'.word] = _ ++ [ac.word]
              rw [hwd]
        · rintro σ G ⟨y6, y8, fs, sts, rfl, z1, z2, z3, z4, z5, z6, z7, z8, z9, z10, z11⟩
          refine ⟨_, rfl, _, rfl, slA_of (kT z1 ha) rfl fun u1 G1 s1 h1 => ?_⟩
          refine ⟨_, rfl, .inl ⟨lf, _, rfl, SqL.of (s1 _ _ z5), fun u2 n2 => ⟨(by show 1 ≤ sizeLine; decide), fun u3 n3 => ?_⟩⟩⟩
          have s2 := same_new (o := .tup fs) n2
          have s3 := same_new (o := .tup [.ref u2]) n3
          have s13 := (s1.trans s2).trans s3
          refine catA_of (s3 _ _ (s2 _ _ h1)) upd_same (by show 5 ≤ sizeLine; decide) fun u4 G4 s4 h4 => ?_
          have s14 := s13.trans s4
          have h2 := s4 _ _ (s3 _ _ (show (upd G1 u2 (.tup fs)) u2 = some (.tup fs) from upd_same))
          refine q ⟨d.name, d.params, d.fingers, d.rows, sts⟩ _ _ ⟨rfl, rfl, rfl, rfl, by show 0 < sts.length; omega, by show sts.length ≤ 12; omega, z9, fun s hs => lsm _ (List.mem_of_mem_take (z10 ▸ List.mem_map_of_mem hs)), ?_, fun k s hk hc => ?_⟩ ?_ ((z2.same s14).mono (by omega)) (z1.trans (.of s14))
          · show (sts.map (·.1)).Pairwise (· < ·)
            rw [z10]
            exact c8.sublist (List.take_sublist _ _)
          · have hk2 : sts[k]? = some s := hk
            have e1 : (sts.map (fun s => s.2.word))[k]? = some ("call" : Str) := by
              rw [List.getElem?_map, hk2]
              exact congrArg some hc
            rw [z11, List.take_of_length_le (by rw [List.length_map]; omega)] at e1
            obtain ⟨a', ha', hw'⟩ := map_at e1
            have := alast k a' ha' hw'
            show k + 1 < sts.length
            omega
          · refine .tup h4 (.cons .str (.cons (.tup (s14 _ _ (kT z1 hp)) (.strs _)) (.cons (.tup (s14 _ _ (kT z1 hf)) (.strs _)) (.cons (.tup (s14 _ _ (kT z1 hrr)) (.strs _)) (.cons (.tup h2 (z7.same s14)) .nil)))))
end
end K

set_option maxRecDepth 100000
set_option maxHeartbeats 3900000
namespace K
open PySem PySem.Spec PyProof.Rows L2
/-! ### a program that is drawn -/
structure DefFit (e : Dn) : Prop where
  ok : DnOk e
  tz : e.name.cps.size ≤ 100
  sz : PyData.weight e.d ≤ 10000
  sh : PyData.intsShort 13 e.d = true
  sw : PyData.showable e.d = true
  pos : 0 < e.steps.length
  few : e.steps.length ≤ 12
  tx : TxOk e.name
  rise : (e.steps.map (·.1)).Pairwise (· < ·)
  last : ∀ k s, e.steps[k]? = some s → s.2.word = ("call" : Str) → k + 1 < e.steps.length
  lo : ∀ y ∈ e.every, Na y
  sm : ∀ s ∈ e.steps, SmI s.1
structure PgOk (p : Pg) : Prop where
  wd : SmI p.wide
  w0 : 0 < p.wide ∧ p.wide < 1000000
  few : p.defs.length ≤ 3
  fit : ∀ e ∈ p.defs, DefFit e
  nd : (p.defs.map Dn.name).Nodup
theorem stN_mem {l : List (Int × Ac)} {y : Str} (h : y ∈ stN l) : ∃ s ∈ l, y ∈ s.2.names := by
  unfold stN at h
  obtain ⟨z, hz, hy⟩ := List.mem_flatten.mp h
  obtain ⟨s, hs, rfl⟩ := List.mem_map.mp hz
  exact ⟨s, hs, hy⟩
theorem word_size {w : Str} {ks : List Str} (h : kindsOf w = some ks) : w.cps.size ≤ 100 := by
  have all : ∀ e ∈ kTab, e.1.cps.size ≤ 100 := by decide +kernel
  exact all _ (kinds_mem h)
theorem parts_small : ∀ {ps : List Pt}, (∀ p ∈ ps, PtS p) → PyData.weightAll (ps.map Pt.d) ≤ 101 * ps.length ∧ PyData.intsShortAll 13 (ps.map Pt.d) = true
  | [], _ => ⟨Nat.le_refl _, rfl⟩
  | p :: r, h => by
    obtain ⟨a1, a2⟩ := h p List.mem_cons_self
    obtain ⟨b1, b2⟩ := parts_small (ps := r) fun q hq => h q (List.mem_cons_of_mem _ hq)
    refine ⟨?_, ?_⟩
    · show PyData.weight p.d + 1 + PyData.weightAll (r.map Pt.d) ≤ _
      rw [List.length_cons]
      omega
    · show (PyData.intsShort 13 p.d && PyData.intsShortAll 13 (r.map Pt.d)) = true
      rw [a2, b2]
      rfl
theorem AcIn.small {d : Hd} {a : Ac} (h : AcIn d a) : PyData.weight a.d ≤ 600 ∧ PyData.intsShort 13 a.d = true ∧ PyData.showable a.d = true := by
  have hs := h.1.shaped.1
  obtain ⟨⟨ks, hk, P⟩, _, hp⟩ := h
  obtain ⟨b1, b2⟩ := parts_small hp
  have := P.length
  have := kinds_few hk
  have := word_size hk
  have wz : PyData.weight a.d ≤ 600 := by
    show a.word.cps.size + 1 + PyData.weightAll (a.parts.map Pt.d) ≤ 600
    omega
  exact ⟨wz, b2, sho _ (PyData.hasDict_of_layable (lay0 hs (Nat.le_trans wz (by decide)))) (by omega)⟩
theorem steps_small {d : Hd} : ∀ {l : List (Int × Ac)}, (∀ s ∈ l, AcIn d s.2 ∧ SmI s.1) → PyData.weightAll (l.map stD) ≤ 700 * l.length ∧ PyData.intsShortAll 13 (l.map stD) = true ∧ PyData.showableAll (l.map stD) = true
  | [], _ => ⟨Nat.le_refl _, rfl, rfl⟩
  | s :: r, h => by
    obtain ⟨h1, h2⟩ := h s List.mem_cons_self
    obtain ⟨a1, a2, a5⟩ := h1.small
    have a3 := h2.weight
    have a4 := h2.short
    obtain ⟨b1, b2, b3⟩ := steps_small (l := r) fun q hq => h q (List.mem_cons_of_mem _ hq)
    refine ⟨?_, ?_, ?_⟩
    · show (PyData.weight (.int s.1) + 1 + (PyData.weight s.2.d + 1 + 0)) + 1 + PyData.weightAll (r.map stD) ≤ _
      rw [List.length_cons]
      omega
    · show ((PyData.intsShort 13 (.int s.1) && (PyData.intsShort 13 s.2.d && true)) && PyData.intsShortAll 13 (r.map stD)) = true
      rw [a2, a4, b2]
      rfl
    · show ((PyData.showable (.int s.1) && (PyData.showable s.2.d && true)) && PyData.showableAll (r.map stD)) = true
      rw [a5, h2.sho, b3]
      rfl
theorem strs_sho : ∀ xs : List Str, PyData.showableAll (xs.map PyData.str) = true
  | [] => rfl
  | x :: r => by
    show (true && PyData.showableAll (r.map PyData.str)) = true
    rw [strs_sho r]
    rfl
theorem DefIn.fit {d : Hd} {e : Dn} (ok : HdOk d) (tx : Cn d.name) (tz : d.name.cps.size ≤ 100) (h : DefIn d e) : DefFit e := by
  have all : ∀ y ∈ e.every, y ∈ d.all := fun y hy => by
    unfold Dn.every at hy
    rw [h.ps, h.fs, h.rs] at hy
    obtain hy | hy := List.mem_append.mp hy
    · rcases List.mem_append.mp hy with hy | hy
      · rcases List.mem_append.mp hy with hy | hy
        · exact ok.ps y hy
        · exact List.mem_append_left _ (List.mem_append_right _ hy)
      · exact rows_all hy
    · obtain ⟨s, hs, hy⟩ := stN_mem hy
      exact (h.acts s hs).2.1 y hy
  have := params_few ok
  have := ok.pl
  have := ok.fl
  have := ok.rl
  have hfew := h.few
  obtain ⟨c1, c2, c3⟩ := steps_small (d := d) (l := e.steps) fun s hs => ⟨h.acts s hs, h.small s hs⟩
  have d1 := strs_weight (xs := d.params) fun y hy => (ok.nm y (ok.ps y hy)).size
  have d2 := strs_weight (xs := d.fingers) fun y hy => (ok.nm y (List.mem_append_left _ (List.mem_append_right _ hy))).size
  have d3 := strs_weight (xs := d.rows) fun y hy => (ok.nm y (rows_all hy)).size
  have wz : PyData.weight e.d ≤ 10000 := by
    show e.name.cps.size + 1 + (PyData.weightAll (e.params.map .str) + 1 + (PyData.weightAll (e.fingers.map .str) + 1 + (PyData.weightAll (e.rows.map .str) + 1 + (PyData.weightAll (e.steps.map stD) + 1 + 0)))) ≤ 10000
    rw [h.nm, h.ps, h.fs, h.rs]
    omega
  have sh : PyData.intsShort 13 e.d = true := by
    show (true && (PyData.intsShortAll 13 (e.params.map .str) && (PyData.intsShortAll 13 (e.fingers.map .str) && (PyData.intsShortAll 13 (e.rows.map .str) && (PyData.intsShortAll 13 (e.steps.map stD) && true))))) = true
    rw [PyData.intsShortAll_strs, PyData.intsShortAll_strs, PyData.intsShortAll_strs, c2]
    rfl
  have sw : PyData.showable e.d = true := by
    show (true && (PyData.showableAll (e.params.map .str) && (PyData.showableAll (e.fingers.map .str) && (PyData.showableAll (e.rows.map .str) && (PyData.showableAll (e.steps.map stD) && true))))) = true
    rw [strs_sho, strs_sho, strs_sho, c3]
    rfl
  refine ⟨⟨fun s hs => (h.acts s hs).1, Nat.le_trans h.few (by decide), ?_, fun y hy => (ok.nm y (all y hy)).ok, d.all, ?_, all⟩, h.nm ▸ tz, wz, sh, sw, h.pos, h.few, h.nm ▸ tx.1, h.rise, h.last, fun y hy => ok.nm y (all y hy), h.small⟩
  · rw [h.ps, h.fs, h.rs]
    omega
  · unfold Hd.all
    rw [List.length_append, List.length_append]
    omega
theorem HdAt.far {G G' : Hp} {v : V} {d : Hd} {D t : Addr} {n : Nat} {acc : List V} (h : HdAt G v d) (ok : HdOk d) (hD : G D = some (.lst acc)) (ra : ∀ x ∈ acc, ∃ a : Addr, x = .ref a) (hT : Tp G t n) (k : ∀ a o, a ≠ D → a ≠ t → G a = some o → G' a = some o) : HdAt G' v d := by
  obtain ⟨x, y, w, hT, _, _⟩ := hT
  obtain ⟨a, p, f, r, l, e, h1, h2, h3, h4, h5⟩ := h
  have tt : ∀ {b : Addr} {xs : List V}, G b = some (.tup xs) → G' b = some (.tup xs) := fun {b xs} e => k _ _ (ne_of e hD (fun z => by cases z)) (ne_of e hT (fun z => by cases z)) e
  refine ⟨a, p, f, r, l, e, tt h1, tt h2, tt h3, tt h4, k _ _ (ne_of h5 hD fun z => ?_) (ne_of h5 hT (fun z => strs_ne_ints z.symm)) h5⟩
  injection z with z
  cases ep : d.plain with
  | nil =>
    have := ok.pl.1
    rw [ep] at this
    exact absurd this (by decide)
  | cons s ss =>
    rw [ep, List.map_cons] at z
    obtain ⟨b, e⟩ := ra (.str s) (by rw [← z]; exact List.mem_cons_self)
    cases e
theorem ImAll.rev {H : Hp} : ∀ {ds : List PyData} {vs : List V}, ImAll H ds vs → ImAll H ds.reverse vs.reverse
  | [], vs, h => by
    unfold ImAll at h
    subst h
    exact .nil
  | d :: ds, vs, h => by
    unfold ImAll at h
    obtain ⟨v, r, rfl, h1, h2⟩ := h
    rw [List.reverse_cons]
    rw [List.reverse_cons]
    exact .app h2.rev (.cons h1 .nil)
section
variable {P : Program} {w : World} {K : PySem.W.Frag} {mg : Str → Option Value} {base : Heap}
abbrev s_law_program : Stmt := topS 25
def spProg (K : PySem.W.Frag) : Sp := fun vs H Q _ => ∃ (t lw : Addr) (n : Nat) (ws : List Int), vs = [.ref t, .ref lw] ∧ Tp H t n ∧ n < 600000 ∧ SqL K H lw (ws.map V.int) ∧ lw ≠ t ∧ 0 < ws.length ∧ ws.length < 100 ∧ (∀ x ∈ ws, 0 < x ∧ x < 1000000) ∧
  ∀ (p : Pg) (v : V) (H' : Hp), PgOk p → Im H' p.d v → Tp H' t (n + 10000) → But t H H' → Q v H'
theorem scPg : FnScope ["tape", "wides", "wide", "called", "heads", "defs", "name", "head"] ["tape", "wides"] (defScope s_law_program) := ⟨rfl, rfl, rfl, by decide +kernel, rfl, by decide +kernel, by decide +kernel⟩
theorem main_ok : Cn "main" := by
  refine ⟨?_, by decide +kernel, by decide +kernel⟩
  show PyData.canLay0 (.str "main") = true
  decide +kernel
theorem ok_program (B : Bs mg) (c_draw : C8.Cal P w K mg base 1 "_law_draw" spDraw []) (c_pick : C8.Cal P w K mg base 2 "_law_pick" (spPick K) []) (c_fresh : C8.Cal P w K mg base 2 "_law_fresh" spFresh []) (c_head : C8.Cal P w K mg base 3 "_law_head" spHead [])
    (c_drawn_def : C8.Cal P w K mg base 6 "_law_drawn_def" spDDef []) {f : Addr} {fd : FuncData} (F : Fun K "_law_program" "_law_program" s_law_program f fd) :
    FnOk P w K mg base CX0 7 f fd ["tape", "wides"] (spProg K) := by
  refine F.ok scPg (fun vs H Q E h => ?_) (fun cdv A outer s H vs Q E hr h => ?_)
  · obtain ⟨t, lw, n, ws, rfl, _⟩ := h
    rfl
  · obtain ⟨t, lw, n, ws, rfl, hT, hn, hlw, lwt, wpos, wfew, wok, q⟩ := h
    refine ⟨_, (pss_cons (ps_set (i := 2) scPg.nd rfl (.inr rfl) (C8.pe_c c_pick hr (by decide) (by rfl) (pa_cons (pv 0) (pa_cons (pv 1) pa_nil))))
      (pss_cons (ps_set (i := 3) scPg.nd rfl (.inl rfl) (pe_op op_cat (pe_lst (pa_cons pe_str pa_nil)) (C8.pe_c c_fresh hr (by decide) (by rfl) (pa_cons (pv 0) (pa_cons pe_int pa_nil)))))
      (pss_cons (ps_set (i := 4) scPg.nd rfl (.inr rfl) (pe_lc (own := [("name", 6)]) (g := gName 6) (tt := tYes) (by rfl) scPg.nd (pi_list (pe_slice sl_list (pv 3) po_none (po_some (pe_op op_add pe_int (C8.pe_c c_draw hr (by decide) (by rfl) (pa_cons (pv 0) (pa_cons pe_int pa_nil))))))) (blkOk_by (own := [("name", 6)]) (N := ["tape", "wides", "wide", "called", "heads", "defs", "name", "head"]) (sc := defScope s_law_program) (by decide +kernel)) (fun _ _ _ _ _ => (pg_name (i := 6) scPg.nd rfl (.inl rfl) (hf := .inr rfl))) (fun _ _ _ _ _ => pts_nil) (fun _ _ _ _ _ => (C8.pe_c c_head hr (by decide) (by rfl) (pa_cons (pv 0) (pa_cons (pv 6) pa_nil))))))
      (pss_cons (ps_setLc (i := 5) (own := [("head", 7)]) (g := gName 7) (tt := tYes) (by rfl) scPg.nd rfl rfl (sw_true rfl rfl rfl (by decide +kernel)) (pi_list (pv 4)) (blkOk_by (own := [("head", 7)]) (N := ["tape", "wides", "wide", "called", "heads", "defs", "name", "head"]) (sc := defScope s_law_program) (by decide +kernel)) (fun _ _ _ _ _ => (pg_name (i := 7) scPg.nd rfl (.inl rfl) (hf := .inr rfl))) (fun _ _ _ _ _ => pts_nil) (fun _ _ _ _ _ => (C8.pe_c c_drawn_def hr (by decide) (by rfl) (pa_cons (pv 0) (pa_cons (pv 7) (pa_cons (pv 4) (pa_cons (pv 2) pa_nil)))))))
      (C8.pss_cut (ps_if (pt_cmpR op_eq (C8.pe_c c_draw hr (by decide) (by rfl) (pa_cons (pv 0) (pa_cons pe_int pa_nil))) pe_int (nomark _)) (pss_one (ps_expr (pe_bm0 PySem.F.plainAttrs_list PySem.F.slot_list_reverse PySem.F.type_list_reverse mt_reverse (pv 5)))) pss_nil)
      (pss_one (ps_ret (pe_tup (pa_cons (pv 2) (pa_cons (pe_tupleOf (by rfl) B.tuple (pv 5)) pa_nil)))))))))), ?_⟩
    refine ⟨_, rfl, _, rfl, t, lw, n, _, rfl, hT, by omega, .inl hlw, lwt, by rw [List.length_map]; exact wpos, by rw [List.length_map]; omega, fun i v G0 hi hT0 b0 => ?_⟩
    obtain ⟨wide, hw, rfl⟩ := map_at hi
    obtain ⟨w0, w1⟩ := wok wide (List.mem_of_getElem? hw)
    refine ⟨(by show 1 ≤ sizeLine; decide), fun u1 n1 => ?_⟩
    have s1 := same_new (o := .lst [.str "main"]) n1
    have u1t := hT0.ne n1
    refine ⟨_, rfl, t, n + 1, 2, rfl, by decide, hT0.same s1, by omega, fun l2 xs fr G1 nl2 hl2 hxl hfr hT1 b1 => ?_⟩
    refine ⟨u1, l2, _, _, rfl, rfl, b1 _ _ upd_same u1t, hl2, by rw [List.length_map, hxl]; decide, fun l3 n3 => ?_⟩
    obtain ⟨called, ecl⟩ : ∃ called : List Str, called = ("main" : Str) :: xs := ⟨_, rfl⟩
    obtain ⟨G2, e2⟩ : ∃ G2, G2 = upd G1 l3 (.lst (([.str "main"] : List V) ++ xs.map V.str)) := ⟨_, rfl⟩
    have s2 : Same G1 G2 := e2 ▸ same_new n3
    have hl3 : G2 l3 = some (.lst (called.map V.str)) := by rw [e2, ecl]; exact upd_same
    rw [← e2]
    clear e2
    have b2 : But t H G2 := ((b0.trans (.of s1)).trans b1).trans (.of s2)
    have hT2 : Tp G2 t (n + 101) := (hT1.same s2).mono (by omega)
    have cnd : called.Nodup := by
      rw [ecl, List.nodup_cons]
      exact ⟨fun m => (fresh_na hfr m).2 rfl, fresh_nodup hfr (by omega)⟩
    have cok : ∀ x ∈ called, Cn x ∧ x.cps.size ≤ 100 := fun x hx => by
      rw [ecl] at hx
      obtain h | h := List.mem_cons.mp hx
      · rw [h]
        exact ⟨main_ok, by decide +kernel⟩
      · exact ⟨(fresh_na hfr h).cn, Nat.le_trans (fresh_na hfr h).size (by decide)⟩
    have cl3 : called.length = 3 := by rw [ecl, List.length_cons, hxl]
    clear b1 hT1 s1 n1 nl2 hl2 n3 s2 u1t hfr hxl ecl
    have l3t : l3 ≠ t := by
      obtain ⟨_, _, _, e, _⟩ := hT2
      exact ne_of hl3 e (fun z => strs_ne_ints z.symm)
    -- heads
    refine ⟨_, rfl, _, rfl, t, _, 3, rfl, hT2, by omega, by decide, by decide, fun r1 G3 r10 r11 hT3 b3 => ?_⟩
    refine ⟨_, _, rfl, rfl, _, rfl, l3, _, rfl, SqL.of (b3 _ _ hl3 l3t), fun l4 n4 => ?_⟩
    obtain ⟨k1, k13, k11, e1⟩ : ∃ k1 : Nat, k1 ≤ 3 ∧ 1 ≤ k1 ∧ 1 + r1 = (k1 : Int) := ⟨(1 + r1).toNat, by omega, by omega, by omega⟩
    have ecut : cutV (called.map V.str) none (some (1 + r1)) = (called.take k1).map V.str := by
      unfold cutV
      have h1 : HT.sIx (called.map V.str).length 0 none = 0 := rfl
      have h2 : HT.sIx (called.map V.str).length (called.map V.str).length (some (1 + r1)) = k1 := by
        rw [e1, HT.sIx_nat, List.length_map]
        omega
      rw [h1, h2, Nat.sub_zero, List.drop_zero, List.map_take]
    rw [ecut]
    obtain ⟨nms, enm⟩ : ∃ nms, nms = called.take k1 := ⟨_, rfl⟩
    have nl : nms.length = k1 := by
      rw [enm, List.length_take]
      omega
    have nnd : nms.Nodup := enm ▸ (List.take_sublist _ _).nodup cnd
    have nok : ∀ x ∈ nms, Cn x ∧ x.cps.size ≤ 100 := fun x hx => cok x (List.mem_of_mem_take (enm ▸ hx))
    rw [← enm]
    have s4 := same_new (o := .lst (nms.map V.str)) n4
    obtain ⟨G4, e4⟩ : ∃ G4, G4 = upd G3 l4 (.lst (nms.map V.str)) := ⟨_, rfl⟩
    have hl4 : G4 l4 = some (.lst (nms.map V.str)) := by rw [e4]; exact upd_same
    rw [← e4] at s4 ⊢
    clear e4
    have b4 := (b2.trans b3).trans (.of s4)
    have hT4 := hT3.same s4
    have l4t : l4 ≠ t := by
      obtain ⟨_, _, _, e, _⟩ := hT4
      exact ne_of hl4 e (fun z => strs_ne_ints z.symm)
    refine ⟨l4, rfl, ⟨_, SqL.of hl4⟩, fun D hD => ?_⟩
    have tD := hT4.ne' hD
    have l4D : l4 ≠ D := ne_of_none hl4 hD
    have nDH : H D = none := b4.back hT4 hD
    clear s4 n4
    refine lc_w (walk_list (K := K) (a := l4) (xs := nms.map V.str)) (fun z => z = t) (fun j acc G => Tp G t (n + 102 + 150 * j) ∧ But t G4 G ∧ (∀ x ∈ acc, ∃ a : Addr, x = .ref a) ∧ ∃ hs : List Hd, hs.map Hd.name = nms.take j ∧ (∀ h ∈ hs, HdOk h) ∧ ∀ G' : Hp, (∀ (a : Addr) (o : HO), a ≠ D → a ≠ t → G a = some o → G' a = some o) → Paired (HdAt G') acc hs) (fun z => tD z.symm) hD (by rw [List.length_map, nl]; exact Nat.lt_of_le_of_lt k13 (by decide))
      (fun j acc G G' ⟨g1, g2, g3, hs, g4, g5, g6⟩ k => ⟨g1.at k tD, fun y o e ny => k _ _ (g2 y o e ny) (ne_of_none e hD), g3, hs, g4, g5, fun G2 k2 => g6 G2 fun b o nb nt e => k2 b o nb nt (k _ _ e nb)⟩) ⟨hT4.mono (by omega), .refl, (fun x h => nomatch h), [], rfl, (fun x h => nomatch h), fun _ _ => .nil⟩ (fun _ _ _ _ _ h => SqL.of (h.2.1 _ _ hl4 l4t)) ?_ ?_
    · rintro j acc x Ga Gb hj hb ⟨g1, g2, g3, hs, g4, g5, g6⟩ hA hal ⟨rfl, hx⟩ N N0 q1 q0
      rw [List.length_map, nl] at hj
      obtain ⟨y, hy, rfl⟩ := map_at hx
      refine ⟨rfl, ?_⟩
      refine ⟨_, rfl, _, rfl, t, _, y, rfl, g1, by omega, fun d v G5 dn dok hdv hT5 b5 => ?_⟩
      have dD : G5 D = some (.lst acc) := b5 _ _ hA tD.symm
      refine q1 _ _ b5 ⟨hT5.mono (by omega), g2.trans b5, fun x hx => ?_, hs ++ [d], ?_, fun h hh => ?_, fun G6 k6 => ?_⟩
      · rcases List.mem_append.mp hx with h | h
        · exact g3 x h
        · rw [List.mem_singleton.mp h]
          obtain ⟨a, _, _, _, _, e, _⟩ := hdv
          exact ⟨a, e⟩
      · rw [List.map_append, g4, List.take_add_one, hy, ← dn]
        rfl
      · rcases List.mem_append.mp hh with h | h
        · exact g5 _ h
        · rw [List.mem_singleton.mp h]
          exact dok
      · exact paired_snoc (hdv.far dok dD g3 hT5 k6) (g6 G6 fun b o nb nt e => k6 b o nb nt (b5 _ _ e nt))
    · rintro hvs G5 hb5 hA hal ⟨g1, g2, g3, hs, g4, g5, g6⟩
      rw [List.length_map] at g1 g4 hal
      rw [List.take_length] at g4
      have P5 := g6 G5 fun _ _ _ _ e => e
      clear g6
      have hsl : hs.length = nms.length := by rw [← g4, List.length_map]
      have hvl := P5.length
      have b5 := b4.trans g2
      have hT5 : Tp G5 t (n + 600) := g1.mono (by rw [nl]; omega)
      have Dt : D ≠ t := tD.symm
      have hsat : HsAt G5 (.ref D) hs := ⟨D, hvs, rfl, hA, P5⟩
      dsimp only [gName]
      refine ⟨_, rfl, D, rfl, ⟨_, SqL.of hA⟩, fun D2 hD2 => ?_⟩
      have tD2 := hT5.ne' hD2
      have DD2 : D ≠ D2 := ne_of_none hA hD2
      have nD2H : H D2 = none := b5.back hT5 hD2
      refine lc_w (walk_list (K := K) (a := D) (xs := hvs)) (fun z => z = t) (fun j acc G => Tp G t (n + 600 + 2000 * j) ∧ But t G5 G ∧ ∃ es : List Dn, es.map Dn.name = nms.take j ∧ (∀ e ∈ es, DefFit e) ∧ ImD D2 G (es.map Dn.d) acc) (fun z => tD2 z.symm) hD2 (by rw [hvl, hsl, nl]; exact Nat.lt_of_le_of_lt k13 (by decide))
        (fun j acc G G' ⟨g1, g2, es, g3, g4, g5⟩ k => ⟨g1.at k tD2, fun y o e ny => k _ _ (g2 y o e ny) (ne_of_none e hD2), es, g3, g4, fun G2 k2 => g5 G2 fun b xs nb e => k2 b xs nb (k _ _ e nb)⟩) ⟨hT5, .refl, [], rfl, (fun x h => nomatch h), fun _ _ => .nil⟩ (fun _ _ _ _ _ h => SqL.of (h.2.1 _ _ hA Dt)) ?_ ?_
      · rintro j acc x Ga Gb hj hb ⟨m1, m2, es, m3, m4, m5⟩ hA2 hal2 ⟨rfl, hx⟩ N N0 q1 q0
        have hj3 : j < 3 := by omega
        have hjs : j < hs.length := by omega
        have hdj : hs[j]? = some hs[j] := List.getElem?_eq_getElem hjs
        have hv := Paired.at P5 hx hdj
        have hnm : nms[j]? = some (hs[j]).name := by rw [← g4, List.getElem?_map, hdj]; rfl
        refine ⟨rfl, ?_⟩
        refine ⟨_, rfl, _, rfl, _, rfl, _, rfl, t, _, x, _, hs[j], hs, wide, rfl, m1, by omega, hv.but m2 hT5, g5 _ (List.getElem_mem hjs), hsat.but m2 hT5, by omega, by omega, fun e he => ⟨g5 e he, nok _ (by rw [← g4]; exact List.mem_map_of_mem he)⟩, w0, w1, fun e v G6 hin him hT6 b6 => ?_⟩
        have dD : G6 D2 = some (.lst acc) := b6 _ _ hA2 tD2.symm
        refine q1 _ _ b6 ⟨hT6.mono (by omega), m2.trans b6, es ++ [e], ?_, fun e' he' => ?_, fun G7 k7 => ?_⟩
        · rw [List.map_append, m3, List.take_add_one, hnm, ← hin.nm]
          rfl
        · rcases List.mem_append.mp he' with h | h
          · exact m4 _ h
          · rw [List.mem_singleton.mp h]
            exact hin.fit (g5 _ (List.getElem_mem hjs)) (nok _ (List.mem_of_getElem? hnm)).1 (nok _ (List.mem_of_getElem? hnm)).2
        · rw [List.map_append]
          exact ImAll.app (m5 G7 fun b xs nb e => k7 b xs nb (keep_but b6 m1 _ _ e)) (.cons (Im.keep (fun b xs e => k7 b xs (ne_of e dD (fun z => by cases z)) e) _ _ him) .nil)
      · rintro acc G6 hb6 hA2 hal2 ⟨m1, m2, es, m3, m4, m5⟩
        have e3 : nms.take hvs.length = nms := List.take_of_length_le (by omega)
        rw [e3] at m3
        have im6 := m5 G6 fun _ _ _ e => e
        have hT6 : Tp G6 t (n + 7000) := m1.mono (by omega)
        have b6 := b5.trans m2
        have D2t : D2 ≠ t := tD2.symm
        have esl : es.length ≤ 3 := by
          have : es.length = nms.length := by rw [← m3, List.length_map]
          omega
        dsimp only [gName]
        refine ⟨fun σ G => σ = [some (.ref t), some (.ref lw), some (.int wide), some (.ref l3), some (.ref D), some (.ref D2), none, none] ∧ But t H G ∧ Tp G t (n + 7001) ∧ ∃ (es : List Dn) (acc : List V), G D2 = some (.lst acc) ∧ ImAll G (es.map Dn.d) acc ∧ es.length ≤ 3 ∧ (∀ e ∈ es, DefFit e) ∧ (es.map Dn.name).Nodup, ?_, ?_⟩
        · refine ⟨_, rfl, t, _, 2, rfl, hT6, by omega, by decide, by decide, fun r2 G7 r20 r21 hT7 b7 => ?_⟩
          have hA7 := b7 _ _ hA2 D2t
          refine ⟨rfl, _, rfl, ?_⟩
          refine ite2 (fun h => ?_) (fun h => ?_)
          · refine ⟨_, rfl, .inl ⟨rfl, _, SqL.of hA7⟩, D2, _, rfl, rfl, hA7, ?_⟩
            refine ⟨rfl, (b6.trans b7).put nD2H, hT7.at .set tD2, es.reverse, acc.reverse, upd_same, ?_, by rw [List.length_reverse]; exact esl, fun e he => m4 e (List.mem_reverse.mp he), by rw [List.map_reverse, m3]; exact List.pairwise_reverse.mpr (nnd.imp fun h => Ne.symm h)⟩
            rw [List.map_reverse]
            exact ImAll.rev (ImAll.keep (fun b xs e => keep_lst hA7 b xs (keep_but b7 hT6 _ _ e)) _ _ im6)
          · exact ⟨rfl, b6.trans b7, hT7, es, acc, hA7, im6.but b7 hT6, esl, m4, by rw [m3]; exact nnd⟩
        · rintro σ G ⟨rfl, z1, z2, es, acc, z3, z4, z5, z6, z7⟩
          refine ⟨_, rfl, _, rfl, .inl ⟨D2, _, rfl, SqL.of z3, fun u1 n1 => ⟨(by show 2 ≤ sizeLine; decide), fun u2 n2 => ?_⟩⟩⟩
          have s1 := same_new (o := .tup acc) n1
          have s2 := same_new (o := .tup [.int wide, .ref u1]) n2
          refine q ⟨wide, es⟩ _ _ ⟨.of w1 (by show -wide ≤ wide; omega) (Int.le_refl _), ⟨w0, w1⟩, z5, z6, z7⟩ (.tup upd_same (.cons .int (.cons (.tup (s2 _ _ upd_same) ((z4.same s1).same s2)) .nil))) (((z2.same s1).same s2).mono (by omega)) (z1.trans (.of (s1.trans s2)))
end
end K

set_option maxRecDepth 100000
set_option maxHeartbeats 3900000
namespace K
open PySem PySem.Spec PyProof.Rows L2
/-! ### the law's own look for a def, and for all its names -/
theorem first_at {x : Str} : ∀ {l : List Str}, x ∈ l → ∃ j, l[j]? = some x ∧ ∀ m : Nat, m < j → l[m]? ≠ some x
  | y :: r, h => by
    by_cases e : y = x
    · exact ⟨0, by rw [e]; rfl, fun m hm => nomatch hm⟩
    · obtain ⟨j, h1, h2⟩ := first_at ((List.mem_cons.mp h).resolve_left fun k => e k.symm)
      refine ⟨j + 1, h1, fun m hm => ?_⟩
      cases m with
      | zero => exact fun k => e (Option.some.inj k)
      | succ m => exact h2 m (by omega)
theorem erase_perm : ∀ {l : List Str} {j : Nat} {y : Str}, l[j]? = some y → (y :: l.eraseIdx j).Perm l
  | a :: r, 0, y, h => by
    obtain rfl := Option.some.inj h
    exact .refl _
  | a :: r, j + 1, y, h => (List.Perm.swap a y _).trans ((erase_perm (l := r) (j := j) h).cons a)
/-- the texts of a part, signs aside -/
def pl : Pt → List Str
  | .ns xs => xs
  | .s x => if x = "<" ∨ x = "<=" then [] else [x]
  | .w _ => []
def pls (ps : List Pt) : List Str := (ps.map pl).flatten
theorem pls_take {ps : List Pt} {i : Nat} {p : Pt} (h : ps[i]? = some p) : pls (ps.take (i + 1)) = pls (ps.take i) ++ pl p := by
  unfold pls
  rw [List.take_add_one, h, List.map_append, List.flatten_append]
  simp
theorem Na.no {x : Str} (h : Na x) : ¬ (x = "<" ∨ x = "<=") := fun k => k.elim h.cn.2.1 h.cn.2.2
theorem pl_pn {k : Str} {p : Pt} (h : KP k p) (nd : k ≠ "def") (hn : ∀ x ∈ pn k p, Na x) : pl p = pn k p := by
  have one : ∀ x : Str, pn k (.s x) = [x] → (∀ y ∈ pn k (.s x), Na y) → pl (.s x) = pn k (.s x) := fun x e hx => by
    rw [e] at hx ⊢
    exact if_neg (hx x List.mem_cons_self).no
  cases h with
  | names xs _ _ => exact pn_all.symm
  | number x _ => exact one x (pn_one (.inl rfl)) hn
  | plain x _ => exact one x (pn_one (.inr (.inl rfl))) hn
  | row x _ => exact one x (pn_one (.inr (.inr (.inl rfl)))) hn
  | sideS x _ => exact one x (pn_one (.inr (.inr (.inr rfl)))) hn
  | sideW i => rfl
  | word i => rfl
  | label i => rfl
  | sign x _ hs => exact (if_pos hs).trans (pn_nil (by decide +kernel)).symm
  | df x _ => exact absurd rfl nd
theorem pls_pns : ∀ {ks : List Str} {ps : List Pt}, Paired KP ks ps → ("def" : Str) ∉ ks → (∀ x ∈ pns ks ps, Na x) → pls ps = pns ks ps
  | _, _, .nil, _, _ => rfl
  | k :: ks, p :: ps, .cons h r, nd, hn => by
    have h1 := pl_pn h (fun e => nd (by rw [e]; exact List.mem_cons_self)) fun x hx => hn x (List.mem_append_left _ hx)
    have h2 := pls_pns r (fun m => nd (List.mem_cons_of_mem _ m)) fun x hx => hn x (List.mem_append_right _ hx)
    show pl p ++ pls ps = pn k p ++ pns ks ps
    rw [h1, h2]
theorem no_def {w : Str} {ks : List Str} (h : kindsOf w = some ks) (hw : w ≠ "call") : ("def" : Str) ∉ ks := by
  have : ∀ e ∈ kTab, e.1 ≠ ("call" : Str) → ("def" : Str) ∉ e.2 := by decide +kernel
  exact this _ (kinds_mem h) hw
theorem names_plain {a : Ac} (ok : AcOk a) (hw : a.word ≠ "call") (hn : ∀ x ∈ a.names, Na x) : pls a.parts = a.names := by
  obtain ⟨ks, hk, P⟩ := ok
  have e : a.names = pns ks a.parts := by
    unfold Ac.names
    rw [hk]
    rfl
  rw [e] at hn ⊢
  exact pls_pns P (no_def hk hw) hn
/-- a call's parts -/
theorem call_parts {a : Ac} (ok : AcOk a) (hw : a.word = "call") : ∃ (x y : Str) (gs : List Str), a.parts = [.s x, .s y, .ns gs] ∧ Cn y ∧ a.names = x :: gs ∧ gs.length ≤ 10 := by
  obtain ⟨ks, hk, P⟩ := ok
  rw [hw, k_call] at hk
  rcases Option.some.inj hk with rfl
  obtain ⟨word, parts⟩ := a
  have hw : word = "call" := hw
  subst hw
  have P : Paired KP ["plain", "def", "names"] parts := P
  cases P with
  | cons h1 r1 =>
    cases r1 with
    | cons h2 r2 =>
      cases r2 with
      | cons h3 r3 =>
        cases r3
        generalize e1 : ("plain" : Str) = k1 at h1
        generalize e2 : ("def" : Str) = k2 at h2
        generalize e3 : ("names" : Str) = k3 at h3
        cases h1 <;> first | (exact absurd e1 (by decide +kernel)) | skip
        cases h2 <;> first | (exact absurd e2 (by decide +kernel)) | skip
        cases h3 <;> first | (exact absurd e3 (by decide +kernel)) | skip
        rename_i x hx y hy gs hg hl
        refine ⟨x, y, gs, rfl, hy, ?_, hg⟩
        rw [names_kinds (a := ⟨"call", [.s x, .s y, .ns gs]⟩) k_call]
        simp only [pns, pn_one (k := "plain") (x := x) (.inr (.inl rfl)), pn_df, pn_all, List.append_nil, List.nil_append]
        rfl
section
variable {P : Program} {w : World} {K : PySem.W.Frag} {mg : Str → Option Value} {base : Heap}
abbrev s_law_def : Stmt := topS 26
theorem scLD : FnScope ["program", "name", "one"] ["program", "name"] (defScope s_law_def) := ⟨rfl, rfl, rfl, by decide +kernel, rfl, by decide +kernel, by decide +kernel⟩
theorem ok_law_def {f : Addr} {fd : FuncData} (F : Fun K "_law_def" "_law_def" s_law_def f fd) : FnOk P w K mg base CX0 1 f fd ["program", "name"] spDef := by
  refine F.ok scLD (fun vs H Q E h => ?_) (fun cdv A outer s H vs Q E hr h => ?_)
  · obtain ⟨v, p, x, i, d, rfl, _⟩ := h
    rfl
  · obtain ⟨v, p, x, i, d, rfl, hv, few, ⟨hi, hx, fst⟩, q⟩ := h
    obtain ⟨a, t, ds, rfl, ha, ht, hds⟩ := Pg.at hv
    refine ⟨_, (pss_one (ps_ret (pe_ix (ixL K rfl) (pe_lc (own := [("one", 2)]) (g := gName 2) (by rfl) scLD.nd (pi_tup (pe_ix (ixT K rfl) (pv 0) pe_int (fun _ _ => rfl))) (blkOk_by (own := [("one", 2)]) (N := ["program", "name", "one"]) (sc := defScope s_law_def) (by decide +kernel)) (fun _ _ _ _ _ => (pg_name (i := 2) scLD.nd rfl (.inl rfl) (hf := .inr rfl))) (fun _ _ _ _ _ => pts_one (pt_cmpR op_eq (pe_ix (ixT K rfl) (pv 2) pe_int (fun _ _ => rfl)) (pv 1) (nomark _))) (fun _ _ _ _ _ => (pv 2))) pe_int (fun _ _ => rfl)))), ?_⟩
    have dsl := hds.length
    rw [List.length_map] at dsl
    obtain ⟨u, hu, hu1⟩ := hds.get (i := i) (d := d.d) (by rw [List.getElem?_map, hi]; rfl)
    refine ⟨_, rfl, a, _, 1, _, rfl, rfl, SqT.of ha, atI_nat (j := 1) rfl, t, rfl, ⟨_, SqT.of ht⟩, fun D hD => ?_⟩
    refine lc_w (walk_tup (K := K) (a := t) (xs := ds)) (fun _ => False) (fun j acc G => (j ≤ i → acc = []) ∧ (i < j → ∃ r, acc = u :: r)) id hD (Nat.lt_of_le_of_lt (show ds.length ≤ 1000 by omega) (by decide)) (fun j acc G G' h _ => h) ⟨fun _ => rfl, fun h => nomatch h⟩ (fun j acc G _ b _ => SqT.of (Bt.same b _ _ ht)) ?_ ?_
    · rintro j acc z Ga Gb hj hb ⟨r1, r2⟩ hA hal ⟨rfl, hz⟩ N N0 q1 q0
      obtain ⟨dd, hd1, hz1⟩ := hds.getv hz
      obtain ⟨e, he, rfl⟩ := map_at hd1
      obtain ⟨a', p', f', r', t', ss', rfl, ha', _⟩ := Dn.at (hz1.same (Bt.same hb))
      refine ⟨rfl, ?_⟩
      refine ⟨_, rfl, a', _, 0, _, rfl, rfl, SqT.of ha', atI_nat (j := 0) rfl, _, rfl, rfl, _, rfl, ?_⟩
      refine ite2 (fun h => ?_) (fun h => ?_)
      · refine ⟨_, rfl, q1 _ _ .refl ⟨fun hji => ?_, fun hij => ?_⟩⟩
        · exact absurd (V.str.inj (of_decide_eq_true h)) (fst j e (by omega) he)
        · by_cases k : i = j
          · subst k
            rw [r1 (Nat.le_refl _)]
            refine ⟨[], ?_⟩
            rw [hu] at hz
            rw [Option.some.inj hz]
            rfl
          · obtain ⟨r, er⟩ := r2 (by omega)
            exact ⟨r ++ [_], by rw [er]; rfl⟩
      · refine q0 _ .refl ⟨fun hji => r1 (by omega), fun hij => ?_⟩
        by_cases k : i = j
        · subst k
          rw [hi] at he
          rcases Option.some.inj he with rfl
          exact absurd (decide_eq_true (by rw [hx])) h
        · exact r2 (by omega)
    · rintro acc G hb hA hal ⟨r1, r2⟩
      have hil := (List.getElem?_eq_some_iff.mp hu).1
      obtain ⟨r, rfl⟩ := r2 hil
      have s1 : Same H G := Bt.same hb
      exact ⟨D, _, 0, u, rfl, rfl, SqL.of hA, atI_nat (j := 0) rfl, q u G s1 (hu1.same s1)⟩
abbrev s_law_all_names : Stmt := topS 27
/-- all names of a def that was drawn -/
def spAllN : Sp := fun vs H Q _ => ∃ (v : V) (d : Dn), vs = [v] ∧ Im H d.d v ∧ DefFit d ∧ ∀ (l : Addr) (ys : List Str) (H' : Hp), Same H H' → H l = none → IsN d ys → H' l = some (.lst (ys.map V.str)) → Q (.ref l) H'
theorem scAN : FnScope ["one", "found", "label", "act", "part"] ["one"] (defScope s_law_all_names) := ⟨rfl, rfl, rfl, by decide +kernel, rfl, by decide +kernel, by decide +kernel⟩
theorem ok_all_names (B : Bs mg) {f : Addr} {fd : FuncData} (F : Fun K "_law_all_names" "_law_all_names" s_law_all_names f fd) : FnOk P w K mg base CX0 1 f fd ["one"] spAllN := by
  refine F.ok scAN (fun vs H Q E h => ?_) (fun cdv A outer s H vs Q E hr h => ?_)
  · obtain ⟨v, d, rfl, _⟩ := h
    rfl
  · obtain ⟨v, d, rfl, hv, fit, q⟩ := h
    have ok := fit.ok
    obtain ⟨a, p, f, r, t, ss, rfl, ha, hp, hf, hrr, ht, hss⟩ := Dn.at hv
    obtain ⟨b1, b2, b3⟩ := ok.parts
    refine ⟨_, (pss_cons (ps_set (i := 1) scAN.nd rfl (.inl rfl) (pe_callTy call_list_of (by rfl) B.list (by decide +kernel) (pa_cons (pe_op op_catA (pe_op op_catA (pe_ix (ixT K rfl) (pv 0) pe_int (fun _ _ => rfl)) (pe_ix (ixT K rfl) (pv 0) pe_int (fun _ _ => rfl))) (pe_ix (ixT K rfl) (pv 0) pe_int (fun _ _ => rfl))) pa_nil)))
      (pss_cons (ps_for PassesOwn.never rfl (pi_tup (pe_ix (ixT K rfl) (pv 0) pe_int (fun _ _ => rfl))) (pg_tup (n := 2) rfl (pgs_cons (pg_name (i := 2) scAN.nd rfl (.inl rfl)) (pgs_cons (pg_name (i := 3) scAN.nd rfl (.inl rfl)) pgs_nil)))
      (pss_cons (ps_for PassesOwn.never rfl (pi_tup (pe_slice sl_tupA (pv 3) (po_some pe_int) po_none)) (pg_name (i := 4) scAN.nd rfl (.inl rfl))
      (pss_one (ps_if (pt_val (pe_callB call_isi (by rfl) B.isinstance boot_isinstance (pa_cons (pv 4) (pa_cons (pe_bltn (v := .ty "tuple") (by rfl) B.tuple (by decide +kernel) rfl) pa_nil)))) (pss_one (ps_set (i := 1) scAN.nd rfl (.inl rfl) (pe_op op_cat (pv 1) (pe_callTy call_list_of (by rfl) B.list (by decide +kernel) (pa_cons (pv 4) pa_nil))))) (pss_one (ps_if (PW.pt (pw_and (pt_val (pe_callB call_isi (by rfl) B.isinstance boot_isinstance (pa_cons (pv 4) (pa_cons (pe_bltn (v := .ty "str") (by rfl) B.str (by decide +kernel) rfl) pa_nil)))) (pw_and1 (pt_cmpR (notInS K rfl) (pv 4) (pe_tup (pa_cons pe_str (pa_cons pe_str pa_nil))) rfl)))) (pss_one (ps_expr (pe_bm PySem.F.plainAttrs_list PySem.F.slot_list_append PySem.F.type_list_append mt_append (pv 1) (pa_cons (pv 4) pa_nil)))) pss_nil)))))
      (pss_one (ps_if (pt_cmpR op_eq (pe_ix (ixT K rfl) (pv 3) pe_int (fun _ _ => rfl)) pe_str (nomark _)) (pss_one (ps_expr (pe_bm PySem.F.plainAttrs_list PySem.F.slot_list_remove PySem.F.type_list_remove mt_removeS (pv 1) (pa_cons (pe_ix (ixT K rfl) (pv 3) pe_int (fun _ _ => rfl)) pa_nil)))) pss_nil))))
      (pss_one (ps_ret (pe_callB (Ts.cr_srt rfl) (by rfl) B.sorted PyProof.Rows.boot_sorted (pa_cons (pe_callTy (Ts.cr_set rfl) (by rfl) B.set (by decide +kernel) (pa_cons (pv 1) pa_nil)) pa_nil)))))), ?_⟩
    refine ⟨_, rfl, a, _, 1, _, rfl, rfl, SqT.of ha, atI_nat (j := 1) rfl, _, rfl, a, _, 2, _, rfl, rfl, SqT.of ha, atI_nat (j := 2) rfl, ?_⟩
    refine catA_strs hp hf (Nat.le_trans (show _ ≤ 100 by omega) (by decide)) fun k1 G1 s1 hk1 => ?_
    refine ⟨_, rfl, a, _, 3, _, rfl, rfl, SqT.of (s1 _ _ ha), atI_nat (j := 3) rfl, ?_⟩
    refine catA_strs hk1 (s1 _ _ hrr) (Nat.le_trans (show _ ≤ 100 by rw [List.length_append]; omega) (by decide)) fun k2 G2 s2 hk2 => ?_
    refine ⟨k2, _, rfl, .inr (SqT.of hk2), fun l hl => ?_⟩
    obtain ⟨G3, e3⟩ : ∃ G3, G3 = upd G2 l (.lst ((d.params ++ d.fingers ++ d.rows).map V.str)) := ⟨_, rfl⟩
    have s02 : Same H G3 := e3 ▸ ((s1.trans s2).trans (same_new hl))
    have hl0 : G3 l = some (.lst ((d.params ++ d.fingers ++ d.rows).map V.str)) := by rw [e3]; exact upd_same
    have nl0 : H l = none := none_of (s1.trans s2) hl
    dsimp only [gName]
    rw [← e3]
    clear e3 hl hk1 hk2 s1 s2
    have lss := hss.length
    rw [List.length_map] at lss
    have el : ∀ i, (d.params ++ d.fingers ++ d.rows ++ stN (d.steps.take i)).length < 4000 := fun i => by
      have stl := stN_len (l := d.steps.take i) fun s hs => ok.acts s (List.mem_of_mem_take hs)
      have tl : (d.steps.take i).length ≤ 30 := Nat.le_trans (List.length_take_le' _ _) ok.few
      rw [List.length_append, List.length_append, List.length_append]
      omega
    refine ⟨_, rfl, a, _, 4, _, rfl, rfl, SqT.of (s02 _ _ ha), atI_nat (j := 4) rfl, t, rfl, ⟨_, SqT.of (s02 _ _ ht)⟩, for_it (walk_tup (K := K) (a := t) (xs := ss)) (fun i σ G => ∃ (l : Addr) (y2 y3 y4 : Option V) (ns : List Str), σ = [some (.ref a), some (.ref l), y2, y3, y4] ∧ Same H G ∧ H l = none ∧ G l = some (.lst (ns.map V.str)) ∧ ns.Perm (d.params ++ d.fingers ++ d.rows ++ stN (d.steps.take i)))
      ⟨l, _, _, _, _, rfl, s02, nl0, hl0, by simp [stN]⟩ (fun i σ G _ ⟨_, _, _, _, _, _, s, _⟩ => SqT.of (s _ _ ht)) ?_ ?_⟩
    · rintro i x σ Gz G hi ⟨l, y2, y3, y4, ns, rfl, s0, nl, gl, pm⟩ ⟨rfl, hx⟩
      obtain ⟨dd, hd1, hx1⟩ := hss.getv hx
      obtain ⟨st, hst, rfl⟩ := map_at hd1
      obtain ⟨sa, su, rfl, hsa, hsu⟩ := st_at (hx1.same s0)
      have hmem := List.mem_of_getElem? hst
      have aok := ok.acts st hmem
      have nlen : ns.length < 4000 := by rw [pm.length_eq]; exact el i
      have every : ∀ y ∈ st.2.names, Na y := fun y hy => fit.lo y (List.mem_append_right _ (by
        unfold stN
        exact List.mem_flatten.mpr ⟨_, List.mem_map_of_mem hmem, hy⟩))
      refine ⟨sa, _, rfl, SqT.of hsa, rfl, _, _, rfl, _, _, rfl, rfl, ?_⟩
      have hsu0 := hsu
      unfold Ac.d Im at hsu
      obtain ⟨b, bs, rfl, hb, hbs⟩ := hsu
      unfold ImAll at hbs
      obtain ⟨wv, pvs, rfl, hw, hpv⟩ := hbs
      unfold Im at hw
      subst hw
      have plen := hpv.length
      rw [List.length_map] at plen
      have pfew : st.2.parts.length ≤ 4 := by
        obtain ⟨ks, hk, P⟩ := aok
        have := P.length
        have := kinds_few hk
        omega
      have aok2 := aok
      refine ⟨_, rfl, _, rfl, b, _, rfl, SqT.of hb, fun h => absurd h tail_part, fun _ c hc => ?_⟩
      rw [tail_cut]
      have sc' := same_new (o := .tup pvs) hc
      have hcc : (upd G c (.tup pvs)) c = some (.tup pvs) := upd_same
      obtain ⟨G1, e1⟩ : ∃ G1, G1 = upd G c (.tup pvs) := ⟨_, rfl⟩
      rw [← e1] at hcc sc' ⊢
      clear e1
      have plw : ∀ (j : Nat) (p : Pt), st.2.parts[j]? = some p → (pl p).length ≤ 10 := fun j p hj => by
        obtain ⟨ks, hk, P⟩ := aok
        cases p with
        | w i => exact Nat.zero_le _
        | s x =>
          show (if x = "<" ∨ x = "<=" then [] else [x]).length ≤ 10
          split
          · exact Nat.zero_le _
          · show 1 ≤ 10
            decide
        | ns xs =>
          have hjl := (List.getElem?_eq_some_iff.mp hj).1
          obtain ⟨k, hkk⟩ : ∃ k, ks[j]? = some k := ⟨_, List.getElem?_eq_getElem (by rw [P.length]; exact hjl)⟩
          cases Paired.at P hkk hj with
          | names _ h _ => exact h
      refine ⟨c, rfl, ⟨_, SqT.of hcc⟩, for_it (walk_tup (K := K) (a := c) (xs := pvs)) (fun j σ G => ∃ (l : Addr) (y4 : Option V), σ = [some (.ref a), some (.ref l), some (.int st.1), some (.ref b), y4] ∧ Same H G ∧ (∀ b xs, G1 b = some (.tup xs) → G b = some (.tup xs)) ∧ H l = none ∧ G l = some (.lst ((ns ++ pls (st.2.parts.take j)).map V.str)) ∧ (pls (st.2.parts.take j)).length ≤ 10 * j)
        ⟨l, _, rfl, s0.trans sc', (fun _ _ e => e), nl, by rw [sc' _ _ gl]; simp [pls], Nat.le_refl _⟩ (fun j σ G _ ⟨_, _, _, _, s, _⟩ => SqT.of (s _ _ hcc)) ?_ ?_⟩
      · rintro j x σ Gx G2 hj ⟨l, y4, rfl, z0, z1, nl, gl, zl⟩ ⟨rfl, hx⟩
        obtain ⟨dd, hd1, hx1⟩ := hpv.getv hx
        obtain ⟨p, hp1, rfl⟩ := map_at hd1
        have hx2 := Im.keep (fun b xs e => z1 b xs (sc' _ _ e)) _ _ hx1
        have tk := pls_take hp1
        have pw := plw j p hp1
        have lw : (pls (st.2.parts.take (j + 1))).length ≤ 10 * (j + 1) := by
          rw [tk, List.length_append]
          omega
        have big : (ns ++ pls (st.2.parts.take j)).length < 4040 := by
          rw [List.length_append]
          have : j < 4 := by omega
          omega
        cases p with
        | w n =>
          unfold Pt.d Im at hx2
          subst hx2
          refine ⟨_, rfl, _, _, .type "int", _, false, rfl, .ty "tuple", .base (.int n), kit_ty (by decide +kernel), _, rfl, ?_⟩
          refine ite2 (fun hn => absurd hn (by decide)) (fun _ => ?_)
          refine ⟨_, rfl, _, _, .type "int", _, false, rfl, .ty "str", .base (.int n), kit_ty (by decide +kernel), _, rfl, ?_⟩
          refine iteF ?_
          refine ite2 (fun hn => absurd hn (by decide)) (fun _ => ?_)
          exact ⟨l, _, rfl, z0, z1, nl, by rw [gl, tk]; show _ = some (HO.lst ((ns ++ (pls (st.2.parts.take j) ++ [])).map V.str)); rw [List.append_nil], lw⟩
        | s n =>
          unfold Pt.d Im at hx2
          subst hx2
          refine ⟨_, rfl, _, _, .type "str", _, false, rfl, .ty "tuple", .base (.str n), kit_ty (by decide +kernel), _, rfl, ?_⟩
          refine ite2 (fun hn => absurd hn (by decide)) (fun _ => ?_)
          refine ⟨_, rfl, _, _, .type "str", _, true, rfl, .ty "str", .base (.str n), kit_ty (by decide +kernel), _, rfl, ?_⟩
          refine ite2 (fun _ => ?_) (fun hn => absurd rfl hn)
          refine ⟨_, rfl, (by show 2 ≤ sizeLine; decide), fun c2 n2 => ?_⟩
          have sn := same_new (o := .tup ((["<", "<="] : List Str).map V.str)) n2
          refine ⟨c2, (["<", "<="] : List Str).map V.str, rfl, .inr (SqT.of upd_same), rfl, flat_strs _, _, rfl, ?_⟩
          have key : (!inV (.str n) ((["<", "<="] : List Str).map V.str)) = !decide (n = "<" ∨ n = "<=") := by
            rw [in_strs]
            congr 1
            simp
          refine ite2 (fun hn => ?_) (fun hn => ?_)
          · have hn : (!inV (.str n) ((["<", "<="] : List Str).map V.str)) = true := hn
            rw [key, Bool.not_eq_true', decide_eq_false_iff_not] at hn
            have gl2 := sn _ _ gl
            refine ⟨_, rfl, .inl ⟨rfl, _, SqL.of gl2⟩, _, rfl, l, _, _, rfl, rfl, gl2, (by rw [List.length_map]; exact Nat.lt_trans big (by decide)), ?_⟩
            refine ⟨l, _, rfl, same_put (z0.trans sn) nl, ?_, nl, ?_, lw⟩
            · exact fun b' o e => keep_lst gl2 _ _ (sn _ _ (z1 _ _ e))
            · rw [upd_same, tk]
              show _ = some (HO.lst ((ns ++ (pls (st.2.parts.take j) ++ if n = "<" ∨ n = "<=" then [] else [n])).map V.str))
              rw [if_neg hn, ← List.append_assoc, List.map_append (l₂ := [n])]
              rfl
          · have hn : ¬ (!inV (.str n) ((["<", "<="] : List Str).map V.str)) = true := hn
            rw [key, Bool.not_eq_true', decide_eq_false_iff_not, Classical.not_not] at hn
            refine ⟨l, _, rfl, z0.trans sn, (fun b o e => sn _ _ (z1 b o e)), nl, ?_, lw⟩
            refine Eq.trans (sn _ _ gl) ?_
            rw [tk]
            show _ = some (HO.lst ((ns ++ (pls (st.2.parts.take j) ++ if n = "<" ∨ n = "<=" then [] else [n])).map V.str))
            rw [if_pos hn, List.append_nil]
        | ns xs =>
          unfold Pt.d Im at hx2
          obtain ⟨b', zs, rfl, hb1, hb2⟩ := hx2
          rw [hb2.strs_eq] at hb1
          refine ⟨_, rfl, _, _, .type "tuple", _, true, rfl, .ty "tuple", .base (.tup hb1), kit_ty (by decide +kernel), _, rfl, ?_⟩
          refine ite2 (fun _ => ?_) (fun hn => absurd rfl hn)
          refine ⟨_, rfl, _, rfl, b', _, rfl, .inr (SqT.of hb1), fun l1 n1 => ?_⟩
          have sn1 := same_new (o := .lst (xs.map V.str)) n1
          refine ⟨l, l1, _, _, rfl, rfl, sn1 _ _ gl, upd_same, ?_, fun l2 n2 => ?_⟩
          · have pw : xs.length ≤ 10 := pw
            rw [List.length_map, List.length_map]
            exact Nat.le_trans (show _ ≤ 5000 by omega) (by decide)
          · have sn := sn1.trans (same_new (o := .lst ((ns ++ pls (st.2.parts.take j)).map V.str ++ xs.map V.str)) n2)
            refine ⟨l2, _, rfl, z0.trans sn, (fun b o e => sn _ _ (z1 b o e)), none_of (z0.trans sn1) n2, ?_, lw⟩
            rw [upd_same, tk]
            show _ = some (HO.lst ((ns ++ (pls (st.2.parts.take j) ++ xs)).map V.str))
            rw [← List.append_assoc, List.map_append (l₂ := xs)]
      · rintro σ G2 ⟨l, y4, rfl, z0, z1, nl, gl, zl⟩
        rw [plen, List.take_length] at gl zl
        have hb2 := z1 _ _ (sc' _ _ hb)
        have step : ∀ ms : List Str, ms.Perm (ns ++ st.2.names) → ms.Perm (d.params ++ d.fingers ++ d.rows ++ stN (d.steps.take (i + 1))) := fun ms h => by
          rw [stN_take hst, ← List.append_assoc]
          exact h.trans (pm.append_right _)
        refine ⟨_, rfl, b, _, 0, _, rfl, rfl, SqT.of hb2, atI_nat (j := 0) rfl, rfl, _, rfl, ?_⟩
        refine ite2 (fun hn => ?_) (fun hn => ?_)
        · have hw : st.2.word = "call" := V.str.inj (of_decide_eq_true hn)
          obtain ⟨x, y, gs, ep, hcn, enm, gl10⟩ := call_parts aok2 hw
          have eps : pls st.2.parts = x :: y :: gs := by
            rw [ep]
            show (if x = "<" ∨ x = "<=" then [] else [x]) ++ ((if y = "<" ∨ y = "<=" then [] else [y]) ++ (gs ++ [])) = _
            rw [if_neg (every x (by rw [enm]; exact List.mem_cons_self)).no, if_neg fun k => k.elim hcn.2.1 hcn.2.2, List.append_nil]
            rfl
          rw [eps] at gl
          obtain ⟨j, hj, hfst⟩ := first_at (x := y) (l := ns ++ x :: y :: gs) (by simp)
          obtain ⟨v, hv1, hv2⟩ := hpv.get (i := 1) (d := .str y) (by rw [ep]; rfl)
          unfold Im at hv2
          subst hv2
          refine ⟨_, rfl, .inl ⟨rfl, _, SqL.of gl⟩, _, rfl, b, _, 2, _, rfl, rfl, SqT.of hb2, atI_nat (j := 2) hv1, l, _, y, j, rfl, rfl, gl, hj, hfst, ?_⟩
          refine ⟨l, _, _, _, _, rfl, same_put z0 nl, nl, upd_same, step _ ?_⟩
          have p1 : (y :: (ns ++ x :: y :: gs).eraseIdx j).Perm (ns ++ x :: y :: gs) := erase_perm hj
          have p2 : (ns ++ x :: y :: gs).Perm (y :: (ns ++ x :: gs)) := by
            have h1 : (x :: y :: gs).Perm (y :: x :: gs) := List.Perm.swap _ _ _
            exact (h1.append_left ns).trans List.perm_middle
          rw [enm]
          exact (p1.trans p2).cons_inv
        · have hw : st.2.word ≠ "call" := fun e => hn (decide_eq_true (by rw [e]))
          rw [names_plain aok2 hw every] at gl
          exact ⟨l, _, _, _, _, rfl, z0, nl, gl, step _ (.refl _)⟩
    · rintro σ G ⟨l, y2, y3, y4, ns, rfl, s0, nl, gl, pm⟩
      rw [lss, List.take_length] at pm
      have e4 := el d.steps.length
      rw [List.take_length, ← pm.length_eq] at e4
      refine ⟨_, rfl, l, ns, rfl, SqL.of gl, e4, fun z L hz nd mem => ?_⟩
      obtain ⟨all, al, hall⟩ := ok.small
      have few : L.length < 64 := Nat.lt_of_le_of_lt (Nat.le_trans (len_sub nd fun y hy => hall y (pm.mem_iff.mp ((mem y).mp hy))) al) (by decide)
      have s4 := same_new (o := Ts.SetT P w z L) hz
      refine ⟨z, L, rfl, upd_same, few, fun ys l' py ny sy hl' => ?_⟩
      have s5 := same_new (o := .lst (ys.map V.str)) hl'
      exact q l' ys _ ((s0.trans s4).trans s5) (none_of (s0.trans s4) hl') ⟨ny, sy, fun y => (py.mem_iff).trans ((mem y).trans pm.mem_iff)⟩ upd_same
end
end K

set_option maxRecDepth 100000
set_option maxHeartbeats 3900000
namespace K
open PySem PySem.Spec PyProof.Rows L2
/-! ### states that begin -/
section
variable {J : It} {n : Nat} {G : Hp → Prop} {Y : Nat → Hp → V → Hp →
    Prop}
theorem dc_it (w : Walk J n G Y) {g : TG} {tt : TT} {tk tv : TE} {vs : List Nat} {σ : L2.St} {H1 : Hp} {D : Addr} {Qd : Hp → Prop} (Pv : Nat → Hp → Prop) (h0 : Pv 0 (upd H1 D (.dK []))) (hG : ∀ i H, i ≤ n → Pv i H → G H)
    (hs : ∀ i x H H', i < n → Pv i H → Y i H x H' → g x (wipe σ vs) H' fun σ2 H2 => wipe σ2 vs = wipe σ vs ∧ tt σ2 H2 fun b H3
        =>
      if b = true then tk σ2 H3 fun y H4 => tv σ2 H4 fun z H5 => ∃ kvs k, y = kV k ∧ H5 D = some (.dK kvs) ∧ kvs.length < sizeLine ∧ Pv (i + 1) (upd H5 D (.dK (putK kvs k z))) else Pv (i + 1) H3) (hd : ∀ H, Pv n H → Qd H) :
    ∃ W : Nat → Nat → Hp → Prop, (∃ m, W 0 m (upd H1 D (.dK []))) ∧ ∀ i m H, W i m H
        →
      (J.stop i H ∧ Qd H) ∨ (J.go i H ∧ ∃ Nx : Hp → Prop, (∀ H', Nx H' → ∃ m', m' < m ∧ W (i + 1) m' H') ∧ ∀ x H', J.yld i H x H' → g x (wipe σ vs) H' fun σ2 H2 => wipe σ2 vs = wipe σ vs ∧ tt σ2 H2 fun b H3
          =>
        if b = true then tk σ2 H3 fun y H4 => tv σ2 H4 fun z H5 => ∃ kvs k, y = kV k ∧ H5 D = some (.dK kvs) ∧ kvs.length < sizeLine ∧ Nx (upd H5 D (.dK (putK kvs k z))) else Nx H3) :=
            by
  refine ⟨fun i m H => m = n - i ∧ i ≤ n ∧ Pv i H, ⟨n, by simp, Nat.zero_le _, h0⟩,
      ?_⟩
  rintro i m H ⟨rfl, hi, p⟩
  have q := hG i H hi p
  by_cases hlt : i < n
  · exact .inr ⟨w.goes i H hlt q, Pv (i + 1), fun H' p' => ⟨n - (i + 1), by omega, rfl, hlt, p'⟩, fun x H' y => hs i x H H' hlt p (w.yields i H x H' hlt q y)⟩
  · have e : i = n := by omega
    subst e
    exact .inl ⟨w.stops H q, hd H
        p⟩
end
section
variable {K : PySem.W.Frag} {H : Hp} {a : Addr} {ys : List Str} {f : Str → V} {g g' : Str → PyData} {y : Str} {v : V}
theorem seqT_dict {o : HO} {kvs : List (Key × V)} (h : H a = some (.dK kvs)) : ∀ (b : Addr) (xs : List V), SqT K H b xs → SqT K (upd H a o) b xs := fun b xs h1 => by
  rcases h1 with (⟨h1⟩ | ⟨o', h1⟩) | ⟨h1⟩
  · exact .inl (.inl (by rw [upd_ne (ne_of h1 h (fun z => by cases z))]; exact h1))
  · exact .inl (.inr ⟨o', by rw [upd_ne (ne_of h1 h (fun z => by cases z))]; exact h1⟩)
  · exact .inr h1
theorem seqT_same {H' : Hp} (s : Same H H') : ∀ (b : Addr) (xs : List V), SqT K H b xs → SqT K H' b xs := fun b xs h1 => by
  rcases h1 with (⟨h1⟩ | ⟨o', h1⟩) | ⟨h1⟩
  · exact .inl (.inl (s _ _ h1))
  · exact .inl (.inr ⟨o', s _ _ h1⟩)
  · exact .inr h1
theorem StW.same {H' : Hp} (h : StW K H a ys f g) (s : Same H H') : StW K H' a ys f g := ⟨s _ _ h.1, fun y hy => (h.2 y hy).sq (seqT_same s)⟩
theorem StW.len (h : StW K H a ys f g) : (sK f ys).length = ys.length := by unfold sK; rw [List.length_map]
theorem StW.get (h : StW K H a ys f g) (hy : y ∈ ys) : DGet H a (.str y) (some (f y)) := by
  have := DGet.k (k := .inr y) h.1
  rw [sK_val hy] at this
  exact this
theorem StW.new (h : StW K H a ys f g) (hy : y ∉ ys) (hc : Cel K H v (g' y)) (hg : ∀ z ∈ ys, g' z = g z) : StW K (upd H a (.dK (putK (sK f ys) (.inr y) v))) a (ys ++ [y]) (fput f y v) g' := by
  refine ⟨by rw [upd_same, sK_new hy], fun z hz => ?_⟩
  unfold fput
  by_cases e : z = y
  · subst e
    rw [if_pos rfl]
    exact hc.sq (seqT_dict h.1)
  · rw [if_neg e]
    have hz' : z ∈ ys := (List.mem_append.mp hz).resolve_right fun k => e (List.mem_singleton.mp k)
    rw [hg z hz']
    exact (h.2 z hz').sq (seqT_dict h.1)
theorem StW.put (h : StW K H a ys f g) (hy : y ∈ ys) (hc : Cel K H v (g' y)) (hg : ∀ z, z ≠ y → g' z = g z) : StW K (upd H a (.dK (putK (sK f ys) (.inr y) v))) a ys (fput f y v) g' := by
  refine ⟨by rw [upd_same, sK_put hy], fun z hz => ?_⟩
  unfold fput
  by_cases e : z = y
  · subst e
    rw [if_pos rfl]
    exact hc.sq (seqT_dict h.1)
  · rw [if_neg e, hg z e]
    exact (h.2 z hz).sq (seqT_dict h.1)
theorem Cel.rowOf {w : PyData} (h : Cel K H v w) (e : ∃ l, w = .tuple l) : ∃ (b : Addr) (ns : List Int), v = .ref b ∧ SqT K H b (ns.map V.int) := by
  obtain ⟨l, e⟩ := e
  cases h with
  | num i _ => cases e
  | row h _ _ => exact ⟨_, _, rfl, h⟩
end
def gput (g : Str → PyData) (y : Str) (w : PyData) : Str → PyData := fun z => if z = y then w else g z
def gputs (g : Str → PyData) : List Str → List PyData → Str → PyData
  | p :: ps, w :: ws => gputs (gput g p w) ps ws
  | _, _ => g
theorem gputs_snoc : ∀ {ps : List Str} {ws : List PyData} {g : Str → PyData} {p : Str} {w : PyData}, ps.length = ws.length → gputs g (ps ++ [p]) (ws ++ [w]) = gput (gputs g ps ws) p w
  | [], [], g, p, w, _ => rfl
  | a :: ps, b :: ws, g, p, w, h => gputs_snoc (ps := ps) (ws := ws) (g := gput g a b) (by simpa using h)
theorem gputs_take {ps : List Str} {ws : List PyData} {g : Str → PyData} {p : Str} {w : PyData} {i : Nat} (hp : ps[i]? = some p) (hw : ws[i]? = some w) : gputs g (ps.take (i + 1)) (ws.take (i + 1)) = gput (gputs g (ps.take i) (ws.take i)) p w := by
  have h1 := (List.getElem?_eq_some_iff.mp hp).1
  have h2 := (List.getElem?_eq_some_iff.mp hw).1
  rw [List.take_add_one, List.take_add_one, hp, hw]
  exact gputs_snoc (by rw [List.length_take, List.length_take]; omega)
theorem gputs_over : ∀ {ps : List Str} {ws : List PyData} {g : Str → PyData}, ws.length ≤ ps.length → gputs g (ps.take ws.length) ws = gputs g ps ws
  | ps, [], g, _ => by cases ps <;> rfl
  | a :: ps, b :: ws, g, h => gputs_over (ps := ps) (ws := ws) (g := gput g a b) (by simpa using h)
def g0 (d : Dn) (y : Str) : PyData := if y ∈ d.rows then .tuple [] else .int 0
/-- what is given to the first params, of their kinds -/
structure Giv (K : PySem.W.Frag) (H : Hp) (d : Dn) (zs : List V) (ws : List PyData) : Prop where
  len : zs.length = ws.length
  few : ws.length ≤ d.params.length
  cel : ∀ (j : Nat) (z : V) (w : PyData), zs[j]? = some z → ws[j]? = some w → Cel K H z w
  row : ∀ (j : Nat) (p : Str) (w : PyData), d.params[j]? = some p → p ∈ d.rows → ws[j]? = some w → ∃ l, w = .tuple l
theorem Giv.same {K : PySem.W.Frag} {H H' : Hp} {d : Dn} {zs : List V} {ws : List PyData} (h : Giv K H d zs ws) (s : Same H H') : Giv K H' d zs ws := ⟨h.len, h.few, fun j z w h1 h2 => (h.cel j z w h1 h2).sq (seqT_same s), h.row⟩
theorem smi0 : SmI 0 := by unfold SmI; decide
theorem cel_row0 {K : PySem.W.Frag} {H : Hp} {b : Addr} (h : SqT K H b []) : Cel K H (.ref b) (.tuple []) := .row (ns := []) h (Nat.zero_le _) (fun i h => nomatch h)
theorem g0_row {d : Dn} {y : Str} (h : y ∈ d.rows) : g0 d y = .tuple [] := if_pos h
theorem g0_num {d : Dn} {y : Str} (h : y ∉ d.rows) : g0 d y = .int 0 := if_neg h
theorem IsN.few {d : Dn} {ys : List Str} (h : IsN d ys) (ok : DnOk d) : ys.length ≤ 60 := by
  obtain ⟨all, al, hall⟩ := ok.small
  exact Nat.le_trans (len_sub h.1 fun y hy => hall y ((h.2.2 y).mp hy)) al
theorem par_mem {d : Dn} {ys : List Str} (h : IsN d ys) {i : Nat} {p : Str} (hp : d.params[i]? = some p) : p ∈ ys := (h.2.2 p).mpr (List.mem_append_left _ (List.mem_append_left _ (List.mem_append_left _ (List.mem_of_getElem? hp))))
section
variable {P : Program} {w : World} {K : PySem.W.Frag} {mg : Str → Option Value} {base : Heap}
/-- the state that a def begins with, where this is given: told by the law and by the program alike -/
def spFirstS (K : PySem.W.Frag) : Sp := fun vs H Q _ => ∃ (v : V) (p : Pg) (x : Str) (i : Nat) (d : Dn) (o : Addr) (zs : List V) (ws : List PyData), vs = [v, .str x, .ref o] ∧ Im H p.d v ∧ p.defs.length ≤ 1000 ∧ FirstD p x i d ∧ DefFit d ∧ SqT K H o zs ∧ Giv K H d zs ws ∧
  ∀ (a : Addr) (H' : Hp) (ys : List Str) (f : Str → V), Same H H' → H a = none → IsN d ys → StW K H' a ys f (gputs (g0 d) d.params ws) → Q (.ref a) H'
abbrev s_law_first_state : Stmt := topS 28
theorem scFS : FnScope ["program", "name", "own", "one", "state", "other", "param", "thing"] ["program", "name", "own"] (defScope s_law_first_state) := ⟨rfl, rfl, rfl, by decide +kernel, rfl, by decide +kernel, by decide +kernel⟩
theorem ok_first_state (B : Bs mg) (c_def : C8.Cal P w K mg base 1 "_law_def" spDef []) (c_lall : C8.Cal P w K mg base 1 "_law_all_names" spAllN []) {f : Addr} {fd : FuncData} (F : Fun K "_law_first_state" "_law_first_state" s_law_first_state f fd) : FnOk P w K mg base CX0 2 f fd ["program", "name", "own"] (spFirstS K) := by
  refine F.ok scFS (fun vs H Q E h => ?_) (fun cdv A outer s H vs Q E hr h => ?_)
  · obtain ⟨v, p, x, i, d, o, zs, ws, rfl, _⟩ := h
    rfl
  · obtain ⟨v, p, x, i, d, o, zs, ws, rfl, hv, few, fst, fit, ho, gv, q⟩ := h
    refine ⟨_, (pss_cons (ps_set (i := 3) scFS.nd rfl (.inl rfl) (C8.pe_c c_def hr (by decide) (by rfl) (pa_cons (pv 0) (pa_cons (pv 1) pa_nil))))
      (pss_cons (ps_set (i := 4) scFS.nd rfl (.inl rfl) pe_dnewK)
      (pss_cons (ps_for PassesOwn.never rfl (pi_list (C8.pe_c c_lall hr (by decide) (by rfl) (pa_cons (pv 3) pa_nil))) (pg_name (i := 5) scFS.nd rfl (.inl rfl))
      (pss_cons (ps_asg pe_int (pg_sub (pv 4) (pv 5) (set_dict (hu_of hr))))
      (pss_one (ps_if (pt_cmpR (inS K rfl) (pv 5) (pe_ix (ixT K rfl) (pv 3) pe_int (fun _ _ => rfl)) rfl) (pss_one (ps_asg (pe_tup pa_nil) (pg_sub (pv 4) (pv 5) (set_dict (hu_of hr))))) pss_nil))))
      (pss_cons (ps_for PassesOwn.never rfl (Zm.pi_zipM true true (by rfl) B.zip (pa_cons (pe_ix (ixT K rfl) (pv 3) pe_int (fun _ _ => rfl)) (pa_cons (pv 2) pa_nil))) (pg_tup (n := 2) rfl (pgs_cons (pg_name (i := 6) scFS.nd rfl (.inl rfl)) (pgs_cons (pg_name (i := 7) scFS.nd rfl (.inl rfl)) pgs_nil)))
      (pss_one (ps_asg (pv 7) (pg_sub (pv 4) (pv 6) (set_dict (hu_of hr))))))
      (pss_one (ps_ret (pv 4))))))), ?_⟩
    refine ⟨_, rfl, _, rfl, v, p, x, i, d, rfl, hv, few, fst, fun u G1 s1 hu => ?_⟩
    obtain ⟨a, pp, fp, rp, t, ss, rfl, ha, hp, hf, hrr, ht, hss⟩ := Dn.at hu
    refine fun D hD => ?_
    have nD : H D = none := none_of s1 hD
    have s2 : Same G1 (upd G1 D (.dK [])) := same_new hD
    obtain ⟨G2, e2⟩ : ∃ G2, G2 = upd G1 D (.dK []) := ⟨_, rfl⟩
    have hD2 : G2 D = some (.dK []) := by rw [e2]; exact upd_same
    rw [← e2] at s2
    dsimp only [gName]
    rw [← e2]
    clear e2
    refine ⟨_, rfl, _, d, rfl, hu.same s2, fit, fun l ys G3 s3 nl hn hl => ?_⟩
    have s13 : Same H G3 := (s1.trans s2).trans s3
    have s23 := s2.trans s3
    have yfew := hn.few fit.ok
    refine ⟨l, rfl, ⟨_, SqL.of hl⟩, for_it (walk_list (K := K) (a := l) (xs := ys.map V.str)) (fun j σ G => ∃ (y5 : Option V) (f : Str → V), σ = [some v, some (.str x), some (.ref o), some (.ref a), some (.ref D), y5, none, none] ∧ Same H G ∧ G a = some (.tup [.str d.name, .ref pp, .ref fp, .ref rp, .ref t]) ∧ G rp = some (.tup (d.rows.map V.str)) ∧ G pp = some (.tup (d.params.map V.str)) ∧ G l = some (.lst (ys.map V.str)) ∧ StW K G D (ys.take j) f (g0 d))
      ⟨_, fun _ => .non, rfl, s13, s23 _ _ ha, s23 _ _ hrr, s23 _ _ hp, hl, s3 _ _ hD2, fun z hz => by simp at hz⟩ (fun j σ G _ ⟨_, _, _, _, _, _, _, g, _⟩ => SqL.of g) ?_ ?_⟩
    · rintro j z σ Gz G hj ⟨y5, f, rfl, t1, t2, t3, t4, t5, t6⟩ ⟨rfl, hz⟩
      obtain ⟨y, hy, rfl⟩ := map_at hz
      have tk : ys.take (j + 1) = ys.take j ++ [y] := by rw [List.take_add_one, hy]; rfl
      have ny : y ∉ ys.take j := fun m => by
        obtain ⟨m1, hm1, em⟩ := List.mem_take_iff_getElem.mp m
        obtain ⟨h1, h2⟩ := List.getElem?_eq_some_iff.mp hy
        have := (List.getElem_inj hn.1).mp (em.trans h2.symm)
        omega
      have lD : l ≠ D := ne_of t5 t6.1 (fun z => by cases z)
      have tl : (ys.take j).length ≤ 60 := by rw [List.length_take]; omega
      refine ⟨_, rfl, _, rfl, D, _, rfl, DPut.k (k := .inr y) t6.1 (by rw [t6.len]; exact Nat.lt_of_le_of_lt tl (by decide)), ?_⟩
      have tkeep : ∀ {b : Addr} {xs : List V} (o : HO), G b = some (.tup xs) → upd G D o b = some (.tup xs) := fun o e => by rw [upd_ne (ne_of e t6.1 (fun z => by cases z))]; exact e
      have u1 := t1
      have n6 := t6.new (v := .int 0) (g' := fun z => if z = y then .int 0 else g0 d z) ny (by rw [if_pos rfl]; exact .num 0 smi0) (fun z hz => if_neg fun e : z = y => ny (by rw [← e]; exact hz))
      have k1 := same_put (o := .dK (putK (sK f (ys.take j)) (.inr y) (.int 0))) t1 nD
      have k2 := tkeep (.dK (putK (sK f (ys.take j)) (.inr y) (.int 0))) t2
      have k3 := tkeep (.dK (putK (sK f (ys.take j)) (.inr y) (.int 0))) t3
      have k4 := tkeep (.dK (putK (sK f (ys.take j)) (.inr y) (.int 0))) t4
      have k5 : upd G D (.dK (putK (sK f (ys.take j)) (.inr y) (.int 0))) l = some (.lst (ys.map V.str)) := by rw [upd_ne lD]; exact t5
      revert n6 k1 k2 k3 k4 k5
      generalize upd G D (.dK (putK (sK f (ys.take j)) (.inr y) (.int 0))) = G5
      intro n6 k1 k2 k3 k4 k5
      refine ⟨_, rfl, _, rfl, a, _, 3, _, rfl, rfl, SqT.of k2, atI_nat (j := 3) rfl, rp, _, rfl, .inr (SqT.of k3), rfl, flat_strs _, _, rfl, ?_⟩
      refine ite2 (fun hin => ?_) (fun hin => ?_)
      · have hin : inV (.str y) (d.rows.map V.str) = true := hin
        rw [in_strs] at hin
        have hin := of_decide_eq_true hin
        refine ⟨(by show 0 ≤ sizeLine; decide), fun b nb => ?_⟩
        have sb := same_new (o := .tup []) nb
        have m6 := n6.same sb
        refine ⟨_, rfl, _, rfl, D, _, rfl, DPut.k (k := .inr y) m6.1 (by rw [m6.len, List.length_append]; exact Nat.lt_of_le_of_lt (show _ ≤ 61 by simp; omega) (by decide)), ?_⟩
        have z6 := m6.put (y := y) (v := .ref b) (g' := g0 d) (by simp) (by rw [g0_row hin]; exact cel_row0 (SqT.of upd_same)) (fun z hz => (if_neg hz).symm)
        have tkeep2 : ∀ {b' : Addr} {xs : List V} (o : HO), G5 b' = some (.tup xs) → upd (upd G5 b (.tup [])) D o b' = some (.tup xs) := fun o e => by rw [upd_ne (ne_of (sb _ _ e) m6.1 (fun z => by cases z))]; exact sb _ _ e
        refine ⟨_, fput (fput f y (.int 0)) y (.ref b), rfl, same_put (k1.trans sb) nD, tkeep2 _ k2, tkeep2 _ k3, tkeep2 _ k4, ?_, ?_⟩
        · rw [upd_ne lD]
          exact sb _ _ k5
        · rw [tk]
          exact z6
      · have hin : ¬ inV (.str y) (d.rows.map V.str) = true := hin
        rw [in_strs] at hin
        have hin : y ∉ d.rows := fun k => hin (decide_eq_true k)
        refine ⟨_, fput f y (.int 0), rfl, k1, k2, k3, k4, k5, ?_⟩
        rw [tk]
        refine ⟨n6.1, fun z hz => ?_⟩
        have := n6.2 z hz
        dsimp only at this
        by_cases e : z = y
        · subst e
          rw [if_pos rfl] at this
          rw [g0_num hin]
          exact this
        · rwa [if_neg e] at this
    · rintro σ G ⟨y5, f, rfl, t1, t2, t3, t4, t5, t6⟩
      rw [List.length_map, List.take_length] at t6
      have gv4 := gv.same t1
      have oN := seqT_same t1 _ _ ho
      have zl := gv.len
      have zf := gv.few
      refine ⟨_, rfl, a, _, 1, _, rfl, rfl, SqT.of t2, atI_nat (j := 1) rfl, _, rfl, pp, o, _, zs, rfl, SqT.of t4, oN, for_it (Zm.walk (K := K) (m := true) (k := true) (xs := d.params.map V.str) (ys := zs) (n := ws.length) (by rw [List.length_map, zl]; omega))
        (fun j σ G' => ∃ (y6 y7 : Option V) (f : Str → V), σ = [some v, some (.str x), some (.ref o), some (.ref a), some (.ref D), y5, y6, y7] ∧ Same H G' ∧ G' pp = some (.tup (d.params.map V.str)) ∧ SqT K G' o zs ∧ Giv K G' d zs ws ∧ StW K G' D ys f (gputs (g0 d) (d.params.take j) (ws.take j)))
        ⟨_, _, f, rfl, t1, t4, oN, gv4, t6⟩ (fun j σ G' _ ⟨_, _, _, _, _, g1, g2, _⟩ => ⟨SqT.of g1, g2⟩) ?_ ?_⟩
      · rintro j z σ Gz G' hj ⟨y6, y7, f, rfl, r1, r2, r3, r4, r5⟩ ⟨T, kv, pv, rfl, nT, rfl, hk1, hp1⟩
        obtain ⟨pn, hpn, rfl⟩ := map_at hk1
        have sT := same_new (o := .tup [.str pn, pv]) nT
        have w5 := r5.same sT
        refine ⟨T, [.str pn, pv], rfl, SqT.of upd_same, rfl, _, [pv], rfl, _, [], rfl, rfl, ?_⟩
        obtain ⟨w, hw⟩ : ∃ w, ws[j]? = some w := ⟨_, List.getElem?_eq_getElem hj⟩
        have hcel := (r4.cel j pv w hp1 hw).sq (seqT_same sT)
        have pm := par_mem hn hpn
        refine ⟨_, rfl, _, rfl, _, rfl, D, _, rfl, DPut.k (k := .inr pn) w5.1 (by rw [w5.len]; exact Nat.lt_of_le_of_lt yfew (by decide)), ?_⟩
        have z5 := w5.put (y := pn) (v := pv) (g' := gputs (g0 d) (d.params.take (j + 1)) (ws.take (j + 1))) pm (by rw [gputs_take hpn hw]; unfold gput; rw [if_pos rfl]; exact hcel) (fun z hz => by rw [gputs_take hpn hw]; unfold gput; rw [if_neg hz])
        refine ⟨_, _, _, rfl, same_put (r1.trans sT) nD, ?_, seqT_dict w5.1 _ _ (seqT_same sT _ _ r3), ⟨r4.len, r4.few, fun j z w h1 h2 => ((r4.cel j z w h1 h2).sq (seqT_same sT)).sq (seqT_dict w5.1), r4.row⟩, z5⟩
        rw [upd_ne (ne_of (sT _ _ r2) w5.1 (fun z => by cases z))]
        exact sT _ _ r2
      · rintro σ G' ⟨y6, y7, f, rfl, r1, r2, r3, r4, r5⟩
        rw [List.take_length, gputs_over zf] at r5
        exact ⟨_, rfl, q D G' ys f r1 nD hn r5⟩
/-- a def with defaults, by its body -/
theorem defaults_ok {x qual : Str} {params : Arguments} {body : List Stmt} {scope : Scope} {dvs : List V} {kws : List (Str × V)} {f : Addr} {fd : FuncData} {N ps : List Str} {k : Nat} {sp : Sp} (F : FunD K x qual params body scope dvs kws f fd) (S : FnScope N ps scope) (len : ∀ vs H Q E, sp vs H Q E → vs.length = ps.length)
    (hbody : ∀ (cdv : Value) (A : Around) (outer : List Env) (s : Shared) (H : Hp) (vs : List V) (Q : VK) (E : XK), Room k (A.deeper (envOfC qual scope s.heap.objs.size f cdv)) → sp vs H Q E
        →
      ∃ t, PSs (cxOf CX0 P w K mg base N qual scope f cdv A outer s H E).nox body t ∧ t { nx := fun _ H' => Q .non H', rt := Q } (start N vs) H) : FnOk P w K mg base CX0 (k + 1) f fd ps sp :=
  F.ok S len fun cdv A outer s H vs Q E hr hsp => let ⟨t, h, q⟩ := hbody cdv A outer s H vs Q E hr hsp; ⟨t, h.nox, q⟩
abbrev s_beginning : Stmt := topS 10
theorem scBg : FnScope ["program", "name", "given", "definition", "rows", "state", "param", "worth", "each"] ["program", "name", "given"] (defScope s_beginning) := ⟨rfl, rfl, rfl, by decide +kernel, rfl, by decide +kernel, by decide +kernel⟩
theorem ok_beginning (B : Bs mg) (c_def_at : C8.Cal P w K mg base 1 "def_at" spDef []) (c_names_of : C8.Cal P w K mg base 2 "names_of" spAll []) {dvs : List V} {kws : List (Str × V)} {f : Addr} {fd : FuncData} (F : FunD K "beginning" "beginning" (defArgs s_beginning) (defBody s_beginning) (defScope s_beginning) dvs kws f fd) :
    FnOk P w K mg base CX0 3 f fd ["program", "name", "given"] (spFirstS K) := by
  refine defaults_ok F scBg (fun vs H Q E h => ?_) (fun cdv A outer s H vs Q E hr h => ?_)
  · obtain ⟨v, p, x, i, d, o, zs, ws, rfl, _⟩ := h
    rfl
  · obtain ⟨v, p, x, i, d, o, zs, ws, rfl, hv, few, fst, fit, ho, gv, q⟩ := h
    refine ⟨_, (pss_cons (ps_set (i := 3) scBg.nd rfl (.inl rfl) (C8.pe_c c_def_at hr (by decide) (by rfl) (pa_cons (pv 0) (pa_cons (pv 1) pa_nil))))
      (pss_cons (ps_set (i := 4) scBg.nd rfl (.inr rfl) (pe_ix (ixT K rfl) (pv 3) pe_int (fun _ _ => rfl)))
      (pss_cons (ps_setDc (i := 5) (own := [("each", 8)]) (g := gName 8) (tt := tYes) (by rfl) scBg.nd rfl rfl (sw_dict rfl rfl rfl (by decide +kernel)) (pi_list (C8.pe_c c_names_of hr (by decide) (by rfl) (pa_cons (pv 3) pa_nil))) (blkOk_by (own := [("each", 8)]) (N := ["program", "name", "given", "definition", "rows", "state", "param", "worth", "each"]) (sc := defScope s_beginning) (by decide +kernel)) (fun _ _ _ _ _ => (pg_name (i := 8) scBg.nd rfl (.inl rfl) (hf := .inr rfl))) (fun _ _ _ _ _ => pts_nil) (fun _ _ _ _ _ => (pv 8)) (fun _ _ _ _ _ => (pe_ifExp (pt_cmpR (inS K rfl) (pv 8) (pv 4) rfl) (pe_tup pa_nil) pe_int)))
      (pss_cons (ps_for PassesOwn.never rfl (Zm.pi_zipM true true (by rfl) B.zip (pa_cons (pe_ix (ixT K rfl) (pv 3) pe_int (fun _ _ => rfl)) (pa_cons (pv 2) pa_nil))) (pg_tup (n := 2) rfl (pgs_cons (pg_name (i := 6) scBg.nd rfl (.inl rfl)) (pgs_cons (pg_name (i := 7) scBg.nd rfl (.inl rfl)) pgs_nil)))
      (pss_one (ps_asg (pe_ifExp (pt_cmpR (inS K rfl) (pv 6) (pv 4) rfl) (pe_tupleOf (by rfl) B.tuple (pv 7)) (pv 7)) (pg_sub (pv 5) (pv 6) (set_dict (hu_of hr))))))
      (pss_one (ps_ret (pv 5))))))), ?_⟩
    refine ⟨_, rfl, _, rfl, v, p, x, i, d, rfl, hv, few, fst, fun u G1 s1 hu => ?_⟩
    obtain ⟨a, pp, fp, rp, t, ss, rfl, ha, hp, hf, hrr, ht, hss⟩ := Dn.at hu
    refine ⟨_, rfl, a, _, 3, _, rfl, rfl, SqT.of ha, atI_nat (j := 3) rfl, ?_⟩
    dsimp only [gName]
    refine ⟨_, rfl, _, d, rfl, hu, fit.ok, fun l ys G3 s3 nl hn hl => ?_⟩
    have yfew := hn.few fit.ok
    refine ⟨l, rfl, ⟨_, SqL.of hl⟩, fun D hD => ?_⟩
    have s13 : Same H G3 := s1.trans s3
    have nD : H D = none := none_of s13 hD
    have lD : l ≠ D := ne_of_none hl hD
    have rD : ∀ {b : Addr} {xs : List V}, G1 b = some (.tup xs) → b ≠ D := fun e => ne_of_none (s3 _ _ e) hD
    refine dc_it (walk_list (K := K) (a := l) (xs := ys.map V.str)) (fun j G => ∃ f : Str → V, Same H G ∧ G a = some (.tup [.str d.name, .ref pp, .ref fp, .ref rp, .ref t]) ∧ G rp = some (.tup (d.rows.map V.str)) ∧ G pp = some (.tup (d.params.map V.str)) ∧ G l = some (.lst (ys.map V.str)) ∧ StW K G D (ys.take j) f (g0 d))
      ⟨fun _ => .non, s13.trans (same_new hD), by rw [upd_ne (rD ha)]; exact s3 _ _ ha, by rw [upd_ne (rD hrr)]; exact s3 _ _ hrr, by rw [upd_ne (rD hp)]; exact s3 _ _ hp, by rw [upd_ne lD]; exact hl, upd_same, fun z hz => by simp at hz⟩ (fun j G _ ⟨_, _, _, _, _, g, _⟩ => SqL.of g) ?_ ?_
    · rintro j z Gz G hj ⟨f, t1, t2, t3, t4, t5, t6⟩ ⟨rfl, hz⟩
      obtain ⟨y, hy, rfl⟩ := map_at hz
      have tk : ys.take (j + 1) = ys.take j ++ [y] := by rw [List.take_add_one, hy]; rfl
      have ny : y ∉ ys.take j := fun m => by
        obtain ⟨m1, hm1, em⟩ := List.mem_take_iff_getElem.mp m
        obtain ⟨h1, h2⟩ := List.getElem?_eq_some_iff.mp hy
        have := (List.getElem_inj hn.1).mp (em.trans h2.symm)
        omega
      have tl : (ys.take j).length ≤ 60 := by rw [List.length_take]; omega
      have fin : ∀ (G' : Hp) (v : V), Same G G' → Cel K G' v (g0 d y) → ∃ kvs k, V.str y = kV k ∧ G' D = some (.dK kvs) ∧ kvs.length < sizeLine ∧ ∃ f : Str → V, Same H (upd G' D (.dK (putK kvs k v))) ∧ (upd G' D (.dK (putK kvs k v))) a = some (.tup [.str d.name, .ref pp, .ref fp, .ref rp, .ref t]) ∧ (upd G' D (.dK (putK kvs k v))) rp = some (.tup (d.rows.map V.str)) ∧ (upd G' D (.dK (putK kvs k v))) pp = some (.tup (d.params.map V.str)) ∧ (upd G' D (.dK (putK kvs k v))) l = some (.lst (ys.map V.str)) ∧ StW K (upd G' D (.dK (putK kvs k v))) D (ys.take (j + 1)) f (g0 d) := fun G' v sg hc => by
        have m6 := t6.same sg
        refine ⟨_, .inr y, rfl, m6.1, by rw [m6.len]; exact Nat.lt_of_le_of_lt tl (by decide), fput f y v, same_put (t1.trans sg) nD, ?_, ?_, ?_, ?_, ?_⟩
        · rw [upd_ne (rD ha)]
          exact sg _ _ t2
        · rw [upd_ne (rD hrr)]
          exact sg _ _ t3
        · rw [upd_ne (rD hp)]
          exact sg _ _ t4
        · rw [upd_ne lD]
          exact sg _ _ t5
        · rw [tk]
          exact m6.new (g' := g0 d) ny hc fun _ _ => rfl
      refine ⟨rfl, ?_⟩
      refine ⟨_, rfl, _, rfl, _, rfl, rp, _, rfl, .inr (SqT.of t3), rfl, flat_strs _, _, rfl, ?_⟩
      refine ite2 (fun hin => ?_) (fun hin => ?_)
      · have hin : inV (.str y) (d.rows.map V.str) = true := hin
        rw [in_strs] at hin
        have hin := of_decide_eq_true hin
        refine ⟨(by show 0 ≤ sizeLine; decide), fun b nb => ?_⟩
        exact fin _ _ (same_new nb) (by rw [g0_row hin]; exact cel_row0 (SqT.of upd_same))
      · have hin : ¬ inV (.str y) (d.rows.map V.str) = true := hin
        rw [in_strs] at hin
        have hin : y ∉ d.rows := fun k => hin (decide_eq_true k)
        exact fin _ _ (.refl _) (by rw [g0_num hin]; exact .num 0 smi0)
    · rintro G ⟨f, t1, t2, t3, t4, t5, t6⟩
      rw [List.length_map, List.take_length] at t6
      have gv4 := gv.same t1
      have oN := seqT_same t1 _ _ ho
      have zl := gv.len
      have zf := gv.few
      dsimp only [gName]
      refine ⟨_, rfl, a, _, 1, _, rfl, rfl, SqT.of t2, atI_nat (j := 1) rfl, _, rfl, pp, o, _, zs, rfl, SqT.of t4, oN, for_it (Zm.walk (K := K) (m := true) (k := true) (xs := d.params.map V.str) (ys := zs) (n := ws.length) (by rw [List.length_map, zl]; omega))
        (fun j σ G' => ∃ (y6 y7 : Option V) (f : Str → V), σ = [some v, some (.str x), some (.ref o), some (.ref a), some (.ref rp), some (.ref D), y6, y7, none] ∧ Same H G' ∧ G' pp = some (.tup (d.params.map V.str)) ∧ G' rp = some (.tup (d.rows.map V.str)) ∧ SqT K G' o zs ∧ Giv K G' d zs ws ∧ StW K G' D ys f (gputs (g0 d) (d.params.take j) (ws.take j)))
        ⟨_, _, f, rfl, t1, t4, t3, oN, gv4, t6⟩ (fun j σ G' _ ⟨_, _, _, _, _, g1, _, g2, _⟩ => ⟨SqT.of g1, g2⟩) ?_ ?_⟩
      · rintro j z σ Gz G' hj ⟨y6, y7, f, rfl, r1, r2, r6, r3, r4, r5⟩ ⟨T, kv, pv, rfl, nT, rfl, hk1, hp1⟩
        obtain ⟨pn, hpn, rfl⟩ := map_at hk1
        have sT := same_new (o := .tup [.str pn, pv]) nT
        have w5 := r5.same sT
        refine ⟨T, [.str pn, pv], rfl, SqT.of upd_same, rfl, _, [pv], rfl, _, [], rfl, rfl, ?_⟩
        obtain ⟨w, hw⟩ : ∃ w, ws[j]? = some w := ⟨_, List.getElem?_eq_getElem hj⟩
        have hcel := (r4.cel j pv w hp1 hw).sq (seqT_same sT)
        have pm := par_mem hn hpn
        have z5 := w5.put (y := pn) (v := pv) (g' := gputs (g0 d) (d.params.take (j + 1)) (ws.take (j + 1))) pm (by rw [gputs_take hpn hw]; unfold gput; rw [if_pos rfl]; exact hcel) (fun z hz => by rw [gputs_take hpn hw]; unfold gput; rw [if_neg hz])
        have fin : ∃ a' H', V.ref D = .ref a' ∧ DPut (upd Gz T (.tup [.str pn, pv])) a' (.str pn) pv H' ∧ ∃ (y6 y7 : Option V) (f : Str → V), [some v, some (.str x), some (.ref o), some (.ref a), some (.ref rp), some (.ref D), some (.str pn), some pv, none] = [some v, some (.str x), some (.ref o), some (.ref a), some (.ref rp), some (.ref D), y6, y7, none] ∧ Same H H' ∧ H' pp = some (.tup (d.params.map V.str)) ∧ H' rp = some (.tup (d.rows.map V.str)) ∧ SqT K H' o zs ∧ Giv K H' d zs ws ∧ StW K H' D ys f (gputs (g0 d) (d.params.take (j + 1)) (ws.take (j + 1))) := by
          refine ⟨D, _, rfl, DPut.k (k := .inr pn) w5.1 (by rw [w5.len]; exact Nat.lt_of_le_of_lt yfew (by decide)), ?_⟩
          refine ⟨_, _, _, rfl, same_put (r1.trans sT) nD, ?_, ?_, seqT_dict w5.1 _ _ (seqT_same sT _ _ r3), ⟨r4.len, r4.few, fun j z w h1 h2 => ((r4.cel j z w h1 h2).sq (seqT_same sT)).sq (seqT_dict w5.1), r4.row⟩, z5⟩
          · rw [upd_ne (ne_of (sT _ _ r2) w5.1 (fun z => by cases z))]
            exact sT _ _ r2
          · rw [upd_ne (ne_of (sT _ _ r6) w5.1 (fun z => by cases z))]
            exact sT _ _ r6
        refine ⟨_, rfl, _, rfl, rp, _, rfl, .inr (SqT.of (sT _ _ r6)), rfl, flat_strs _, _, rfl, ?_⟩
        refine ite2 (fun hin => ?_) (fun hin => ?_)
        · have hin : inV (.str pn) (d.rows.map V.str) = true := hin
          rw [in_strs] at hin
          have hin := of_decide_eq_true hin
          obtain ⟨b, ns, rfl, hb⟩ := hcel.rowOf (r4.row j pn w hpn hin hw)
          exact ⟨_, rfl, .inr ⟨b, _, rfl, hb, _, rfl, _, rfl, fin⟩⟩
        · exact ⟨_, rfl, _, rfl, _, rfl, fin⟩
      · rintro σ G' ⟨y6, y7, f, rfl, r1, r2, r6, r3, r4, r5⟩
        rw [List.take_length, gputs_over zf] at r5
        exact ⟨_, rfl, q D G' ys f r1 nD hn r5⟩
end
end K

set_option maxRecDepth 100000
set_option maxHeartbeats 3900000
namespace K
open PySem PySem.Spec PyProof.Rows L2
/-! ### alike; a drawn state; behind a call -/
theorem Na.low {x : Str} (h : Na x) : Low x := by
  obtain ⟨⟨k, hk, l, rfl, hl, hc⟩, _⟩ := h
  refine ⟨?_, ?_⟩
  · show ((97 + k) :: l).length ≤ 10
    rw [List.length_cons]
    omega
  · intro c hcm
    have hcm : c ∈ (97 + k) :: l := hcm
    rcases List.mem_cons.mp hcm with e | e
    · omega
    · exact hc c e
structure SameW (K : PySem.W.Frag) (H : Hp) (x y : V) : Prop where
  ex : ∃ (t b : Addr) (d : PyData), x = .ref t ∧ y = .ref b ∧ RdW K H (.ref t) d ∧ d.showable = true ∧ d.depth ≤ 30 ∧ d.shown.length ≤ sizeLine ∧ Cf d.shown ∧
    ∃ n, n ≤ 30 ∧ ((∃ a b' xs ys, V.ref t = .ref a ∧ V.ref b = .ref b' ∧ SqT K H a xs ∧ SqT K H b' ys ∧ Paired (EqW K H n) xs ys) ∨ EqR K H (EqW K H n) (.ref t) (.ref b))
section
variable {K : PySem.W.Frag} {H : Hp} {t b a a2 : Addr} {ys : List Str} {f1 f2 : Str → V} {g : Str → PyData}
theorem SameW.states (h1 : StW K H a ys f1 g) (h2 : StW K H b ys f2 g) (lo : ∀ y ∈ ys, Low y) (few : ys.length ≤ 1000) : SameW K H (.ref a) (.ref b) := by
  obtain ⟨c1, c2, c3, c4⟩ := h1.fine lo few
  exact ⟨a, b, stW ys g, rfl, rfl, .inl ⟨a, ys, f1, g, rfl, h1, rfl⟩, c1, Nat.le_trans c2 (by decide), Nat.le_trans c3 (by decide), c4, 1, by decide, .inr (h1.eq h2 0)⟩
theorem low_on : Low "on" := ⟨by decide +kernel, by decide +kernel⟩
theorem SameW.on {i : Int} (hi : SmI i) (ht : SqT K H t [.str "on", .int i, .ref a]) (hb : SqT K H b [.str "on", .int i, .ref a2]) (h1 : StW K H a ys f1 g) (h2 : StW K H a2 ys f2 g) (lo : ∀ y ∈ ys, Low y) (few : ys.length ≤ 1000) : SameW K H (.ref t) (.ref b) := by
  obtain ⟨c1, c2, c3, c4⟩ := h1.fine lo few
  refine ⟨t, b, .tuple [.str "on", .int i, stW ys g], rfl, rfl, .inr ⟨t, a, "on", i, ys, f1, g, rfl, ht, h1, rfl⟩, ?_, ?_, ?_, ?_, 2, by decide, .inl ⟨t, b, _, _, rfl, rfl, ht, hb, .cons (.inl ⟨.str "on", .str _, .str _, by decide +kernel⟩) (.cons (.inl ⟨.int i, .int _, .int _, rfl⟩) (.cons (.inr (.inr (.inr (h1.eq h2 0)))) .nil))⟩⟩
  · show (PyData.showable (.str "on") && (PyData.showable (.int i) && (PyData.showable (stW ys g) && true))) = true
    rw [hi.sho, c1]
    rfl
  · show max 0 (max 0 (max (PyData.depth (stW ys g)) 0)) + 1 ≤ 30
    omega
  · have := len_tup (m := 1600000) (xs := [.str "on", .int i, stW ys g]) fun x hx => by
      obtain e | hx := List.mem_cons.mp hx
      · subst e
        exact Nat.le_trans (len_str low_on) (by decide)
      obtain e | hx := List.mem_cons.mp hx
      · subst e
        exact Nat.le_trans (len_int hi) (by decide)
      · rw [List.mem_singleton.mp hx]
        exact c3
    exact Nat.le_trans (show _ ≤ 1600002 * 3 + 3 from this) (by decide)
  · refine cf_tup fun x hx => ?_
    obtain e | hx := List.mem_cons.mp hx
    · subst e
      exact cf_str low_on
    obtain e | hx := List.mem_cons.mp hx
    · subst e
      exact cf_int i
    · rw [List.mem_singleton.mp hx]
      exact c4
end
section
variable {P : Program} {w : World} {K : PySem.W.Frag} {mg : Str → Option Value} {base : Heap}
abbrev s_law_same : Stmt := topS 34
def spSame (K : PySem.W.Frag) : Sp := fun vs H Q _ => ∃ x y : V, vs = [x, y] ∧ SameW K H x y ∧ Q (.bl true) H
theorem scSa : FnScope ["told", "due"] ["told", "due"] (defScope s_law_same) := ⟨rfl, rfl, rfl, by decide +kernel, rfl, by decide +kernel, by decide +kernel⟩
theorem ok_same (mr : mg "repr" = none) {f : Addr} {fd : FuncData} (F : Fun K "_law_same" "_law_same" s_law_same f fd) : FnG P w K mg base CX0 1 f fd ["told", "due"] (spSame K) := by
  refine F.okG scSa (fun vs H Q E h => ?_) (fun cdv A outer s H vs Q E hg hr h => ?_)
  · obtain ⟨x, y, rfl, _⟩ := h
    rfl
  · obtain ⟨x, y, rfl, ⟨t, b, d, rfl, rfl, rd, hs, hd, hz, cf, n, hn, eq⟩, q⟩ := h
    have hu : (A.deeper (envOfC "_law_same" (defScope s_law_same) s.heap.objs.size f cdv)).units + 128 < cLine := by have := hr.un; omega
    have hrp := fun (X : Cx) (e : X.A = A.deeper (envOfC "_law_same" (defScope s_law_same) s.heap.objs.size f cdv)) => call_repW (X := X) (by rw [e]; exact hg) (by rw [e]; exact hr.units)
    refine ⟨_, (pss_one (ps_ret (pe_and (pe_cmpR (op_eqW hu) (pv 0) (pv 1) (nomark _)) (pe_and (pe_cmpR op_notIn_str pe_str (pe_callB (hrp _ rfl) (by rfl) mr PyProof.Rows.boot_repr (pa_cons (pv 0) pa_nil)) rfl) (pe_one (pe_cmpR op_notIn_str pe_str (pe_callB (hrp _ rfl) (by rfl) mr PyProof.Rows.boot_repr (pa_cons (pv 0) pa_nil)) rfl)))))), ?_⟩
    refine ⟨_, rfl, _, rfl, n, hn, eq, _, rfl, ?_⟩
    refine ite2 (fun _ => ?_) (fun h => absurd rfl h)
    refine ⟨_, rfl, t, d, rfl, rd, hs, hd, hz, _, _, rfl, rfl, _, rfl, ?_⟩
    refine ite2 (fun _ => ?_) (fun h => absurd (by rw [cf.true_out]; rfl) h)
    refine ⟨_, rfl, t, d, rfl, rd, hs, hd, hz, _, _, rfl, rfl, ?_⟩
    rw [cf.false_out]
    exact q
/-! ### a drawn state -/
theorem seqT_but {H H' : Hp} {t : Addr} {n : Nat} (k : But t H H') (hT : Tp H t n) : ∀ (b : Addr) (xs : List V), SqT K H b xs → SqT K H' b xs := fun b xs h1 => by
  obtain ⟨x, y, w, hT, _, _⟩ := hT
  rcases h1 with (⟨h1⟩ | ⟨o', h1⟩) | ⟨h1⟩
  · exact .inl (.inl (k _ _ h1 (ne_of h1 hT (fun z => by cases z))))
  · exact .inl (.inr ⟨o', k _ _ h1 (ne_of h1 hT (fun z => by cases z))⟩)
  · exact .inr h1
theorem StW.but {H H' : Hp} {t a : Addr} {n : Nat} {ys : List Str} {f : Str → V} {g : Str → PyData} (h : StW K H a ys f g) (k : But t H H') (hT : Tp H t n) : StW K H' a ys f g := by
  refine ⟨?_, fun y hy => (h.2 y hy).sq (seqT_but k hT)⟩
  obtain ⟨x, y, w, hT, _, _⟩ := hT
  exact k _ _ h.1 (ne_of h.1 hT (fun z => by cases z))
/-- each name's worth is of its kind -/
def Kinds (d : Dn) (ys : List Str) (g : Str → PyData) : Prop := ∀ y ∈ ys, y ∈ d.rows → ∃ l, g y = .tuple l
abbrev s_law_a_state : Stmt := topS 35
def spAState (K : PySem.W.Frag) : Sp := fun vs H Q _ => ∃ (t : Addr) (n : Nat) (v u : V) (p : Pg) (d : Dn), vs = [.ref t, v, u] ∧ Tp H t n ∧ n < 700000 ∧ Im H p.d v ∧ 0 < p.wide ∧ p.wide < 1000000 ∧ Im H d.d u ∧ DefFit d ∧
  ∀ (a : Addr) (H' : Hp) (ys : List Str) (f : Str → V) (g : Str → PyData), But t H H' → Tp H' t (n + 1800) → H a = none → IsN d ys → StW K H' a ys f g → Kinds d ys g → Q (.ref a) H'
theorem scAS : FnScope ["tape", "program", "one", "state", "name", "many", "turn"] ["tape", "program", "one"] (defScope s_law_a_state) := ⟨rfl, rfl, rfl, by decide +kernel, rfl, by decide +kernel, by decide +kernel⟩
theorem ok_a_state (B : Bs mg) (c_draw : C8.Cal P w K mg base 1 "_law_draw" spDraw []) (c_word : C8.Cal P w K mg base 3 "_law_a_word" spWord []) (c_lall : C8.Cal P w K mg base 1 "_law_all_names" spAllN []) {f : Addr} {fd : FuncData} (F : Fun K "_law_a_state" "_law_a_state" s_law_a_state f fd) : FnOk P w K mg base CX0 4 f fd ["tape", "program", "one"] (spAState K) := by
  refine F.ok scAS (fun vs H Q E h => ?_) (fun cdv A outer s H vs Q E hr h => ?_)
  · obtain ⟨t, n, v, u, p, d, rfl, _⟩ := h
    rfl
  · obtain ⟨t, n, v, u, p, d, rfl, hT, hn, hv, w0, w1, hu, fit, q⟩ := h
    refine ⟨_, (pss_cons (ps_set (i := 3) scAS.nd rfl (.inl rfl) pe_dnewK)
      (pss_cons (ps_for PassesOwn.never rfl (pi_list (C8.pe_c c_lall hr (by decide) (by rfl) (pa_cons (pv 2) pa_nil))) (pg_name (i := 4) scAS.nd rfl (.inl rfl))
      (pss_cons (ps_asg (C8.pe_c c_word hr (by decide) (by rfl) (pa_cons (pv 0) (pa_cons (pe_ix (ixT K rfl) (pv 1) pe_int (fun _ _ => rfl)) pa_nil))) (pg_sub (pv 3) (pv 4) (set_dict (hu_of hr))))
      (pss_one (ps_if (pt_cmpR (inS K rfl) (pv 4) (pe_ix (ixT K rfl) (pv 2) pe_int (fun _ _ => rfl)) rfl) (pss_cons (ps_set (i := 5) scAS.nd rfl (.inl rfl) (C8.pe_c c_draw hr (by decide) (by rfl) (pa_cons (pv 0) (pa_cons (pe_callB (call_min2 rfl) (by rfl) B.min PyProof.Rows.boot_min (pa_cons pe_int (pa_cons (pe_op op_add (pe_ix (ixT K rfl) (pv 1) pe_int (fun _ _ => rfl)) pe_int) pa_nil))) pa_nil))))
      (pss_one (ps_asg (pe_tupleOf (by rfl) B.tuple (pe_lc (own := [("turn", 6)]) (g := gName 6) (tt := tYes) (by rfl) scAS.nd (pi_range1 (by rfl) B.range (pa_cons (pv 5) pa_nil)) (blkOk_by (own := [("turn", 6)]) (N := ["tape", "program", "one", "state", "name", "many", "turn"]) (sc := defScope s_law_a_state) (by decide +kernel)) (fun _ _ _ _ _ => (pg_name (i := 6) scAS.nd rfl (.inl rfl) (hf := .inr rfl))) (fun _ _ _ _ _ => pts_nil) (fun _ _ _ _ _ => (C8.pe_c c_word hr (by decide) (by rfl) (pa_cons (pv 0) (pa_cons (pe_ix (ixT K rfl) (pv 1) pe_int (fun _ _ => rfl)) pa_nil)))))) (pg_sub (pv 3) (pv 4) (set_dict (hu_of hr)))))) pss_nil))))
      (pss_one (ps_ret (pv 3))))), ?_⟩
    have hu0 := hu
    have hv0 := hv
    obtain ⟨a, pp, fp, rp, tt, ss, rfl, ha, hp, hf, hrr, ht, hss⟩ := Dn.at hu
    obtain ⟨pa, pt, pds, rfl, hpa, hpt, _⟩ := Pg.at hv
    refine fun D hD => ?_
    have tD := hT.ne hD
    have s2 : Same H (upd H D (.dK [])) := same_new hD
    obtain ⟨G2, e2⟩ : ∃ G2, G2 = upd H D (.dK []) := ⟨_, rfl⟩
    have hD2 : G2 D = some (.dK []) := by rw [e2]; exact upd_same
    rw [← e2] at s2
    dsimp only [gName]
    rw [← e2]
    clear e2
    refine ⟨_, rfl, _, d, rfl, hu0.same s2, fit, fun l ys G3 s3 nl hn' hl => ?_⟩
    have s13 : Same H G3 := s2.trans s3
    have yfew := hn'.few fit.ok
    have hT3 := hT.same s13
    have lt : l ≠ t := fun e => by
      obtain ⟨_, _, _, e1, _⟩ := hT.same s2
      rw [e, e1] at nl
      cases nl
    have keepT : ∀ {G : Hp} {b : Addr} {xs : List V}, But t H G → H b = some (.tup xs) → G b = some (.tup xs) := fun {G b xs} k e => keep_but k hT _ _ e
    refine ⟨l, rfl, ⟨_, SqL.of hl⟩, for_it (walk_list (K := K) (a := l) (xs := ys.map V.str)) (fun j σ G => ∃ (y4 y5 : Option V) (f : Str → V) (g : Str → PyData), σ = [some (.ref t), some (.ref pa), some (.ref a), some (.ref D), y4, y5, none] ∧ But t H G ∧ Tp G t (n + 30 * j) ∧ G l = some (.lst (ys.map V.str)) ∧ StW K G D (ys.take j) f g ∧ Kinds d (ys.take j) g)
      ⟨_, _, fun _ => .non, fun _ => .none, rfl, .of s13, hT3.mono (by omega), hl, ⟨s3 _ _ hD2, fun z hz => by simp at hz⟩, fun z hz => by simp at hz⟩ (fun j σ G _ ⟨_, _, _, _, _, _, _, g, _⟩ => SqL.of g) ?_ ?_⟩
    · rintro j z σ Gz G hj ⟨y4, y5, f, g, rfl, b1, t1, hl1, st1, kd⟩ ⟨rfl, hz⟩
      rw [List.length_map] at hj
      obtain ⟨y, hy, rfl⟩ := map_at hz
      have tk : ys.take (j + 1) = ys.take j ++ [y] := by rw [List.take_add_one, hy]; rfl
      have ny : y ∉ ys.take j := fun m => by
        obtain ⟨m1, hm1, em⟩ := List.mem_take_iff_getElem.mp m
        obtain ⟨h1, h2⟩ := List.getElem?_eq_some_iff.mp hy
        have := (List.getElem_inj hn'.1).mp (em.trans h2.symm)
        omega
      have lD : l ≠ D := ne_of hl1 st1.1 (fun z => by cases z)
      have tl : (ys.take j).length ≤ 60 := by rw [List.length_take]; omega
      refine ⟨_, rfl, _, rfl, pa, _, 0, _, rfl, rfl, SqT.of (keepT b1 hpa), atI_nat (j := 0) rfl, t, n + 30 * j, p.wide, rfl, t1, by omega, w0, w1, fun r G4 r0 r1 t4 b4 => ?_⟩
      have st4 := st1.but b4 t1
      have hl4 := b4 _ _ hl1 lt
      refine ⟨_, rfl, _, rfl, D, _, rfl, DPut.k (k := .inr y) st4.1 (by rw [st4.len]; exact Nat.lt_of_le_of_lt tl (by decide)), ?_⟩
      have st5 := st4.new (v := .int r) (g' := gput g y (.int r)) ny (by unfold gput; rw [if_pos rfl]; exact .num r (.of w1 r0 r1)) (fun z hz => by unfold gput; exact if_neg fun e : z = y => ny (by rw [← e]; exact hz))
      have b5 := (b1.trans b4).put (o := .dK (putK (sK f (ys.take j)) (.inr y) (.int r))) hD
      have t5 : Tp (upd G4 D (.dK (putK (sK f (ys.take j)) (.inr y) (.int r)))) t (n + 30 * j + 3) := t4.at .set tD.symm
      have l5 : upd G4 D (.dK (putK (sK f (ys.take j)) (.inr y) (.int r))) l = some (.lst (ys.map V.str)) := by rw [upd_ne lD]; exact hl4
      revert st5 b5 t5 l5
      generalize upd G4 D (.dK (putK (sK f (ys.take j)) (.inr y) (.int r))) = G5
      intro st5 b5 t5 l5
      refine ⟨_, rfl, _, rfl, a, _, 3, _, rfl, rfl, SqT.of (keepT b5 ha), atI_nat (j := 3) rfl, rp, _, rfl, .inr (SqT.of (keepT b5 hrr)), rfl, flat_strs _, _, rfl, ?_⟩
      refine ite2 (fun hin => ?_) (fun hin => ?_)
      · have hin : inV (.str y) (d.rows.map V.str) = true := hin
        rw [in_strs] at hin
        have hin := of_decide_eq_true hin
        obtain ⟨most, em⟩ : ∃ most : Int, most = (if p.wide + 1 < 5 then p.wide + 1 else 5) := ⟨_, rfl⟩
        have m0 : 0 < most ∧ most ≤ 5 := by rw [em]; split <;> omega
        refine ⟨_, rfl, _, rfl, pa, _, 0, _, rfl, rfl, SqT.of (keepT b5 hpa), atI_nat (j := 0) rfl, _, _, rfl, rfl, _, _, rfl, t, n + 30 * j + 3, most, by rw [em]; rfl, t5, by omega, m0.1, by omega, fun m G6 m1 m2 t6 b6 => ?_⟩
        dsimp only [gName]
        refine ⟨_, rfl, m, rfl, by omega, by omega, fun D2 hD2 => ?_⟩
        have tD2 := t6.ne' hD2
        have b56 := b5.trans b6
        obtain ⟨mm, rfl⟩ : ∃ mm : Nat, m = (mm : Int) := ⟨m.toNat, by omega⟩
        refine lc_w (walk_range (lo := 0) (n := ((mm : Nat) : Int).toNat)) (fun x => x = t) (fun i acc G => Tp G t (n + 30 * j + 4 + 3 * i) ∧ But t G6 G ∧ ∃ ns : List Int, acc = ns.map V.int ∧ ns.length = i ∧ ∀ x ∈ ns, SmI x) (fun z => tD2 z.symm) hD2 (by rw [Int.toNat_natCast]; exact Nat.lt_of_le_of_lt (show mm ≤ 5 by omega) (by decide))
          (fun i acc G G' ⟨g1, g2, g3⟩ k => ⟨g1.at k tD2, fun y o e ny => k _ _ (g2 y o e ny) (ne_of_none e hD2), g3⟩) ⟨t6.mono (by omega), .refl, [], rfl, rfl, fun x h => nomatch h⟩ (fun _ _ _ _ _ _ => trivial) ?_ ?_
        · rintro i acc x Ga Gb hi hb ⟨g1, g2, ns, rfl, g4, g5⟩ hA hal ⟨rfl, rfl⟩ N N0 q1 q0
          rw [Int.toNat_natCast] at hi
          refine ⟨rfl, ?_⟩
          refine ⟨_, rfl, _, rfl, pa, _, 0, _, rfl, rfl, SqT.of (keepT (b56.trans g2) hpa), atI_nat (j := 0) rfl, t, _, p.wide, rfl, g1, by omega, w0, w1, fun r' G8 r0' r1' t8 b8 => ?_⟩
          refine q1 _ _ b8 ⟨t8.mono (by omega), g2.trans b8, ns ++ [r'], by rw [List.map_append]; rfl, by simp [g4], fun x hx => ?_⟩
          rcases List.mem_append.mp hx with h | h
          · exact g5 x h
          · rw [List.mem_singleton.mp h]
            exact .of w1 r0' r1'
        · rintro acc G7 hb7 hA7 hal7 ⟨g1, g2, ns, rfl, g4, g5⟩
          rw [Int.toNat_natCast] at g1 g4
          refine .inl ⟨D2, _, rfl, SqL.of hA7, fun c hc => ?_⟩
          have sc' := same_new (o := .tup (ns.map V.int)) hc
          have st7 := (st5.but (b6.trans g2) t5).same sc'
          have b7 := (b56.trans g2).trans (.of sc')
          have t7 := g1.same sc'
          refine ⟨_, rfl, _, rfl, D, _, rfl, DPut.k (k := .inr y) st7.1 (by rw [st7.len, List.length_append]; exact Nat.lt_of_le_of_lt (show _ ≤ 61 by simp; omega) (by decide)), ?_⟩
          have st8 := st7.put (y := y) (v := .ref c) (g' := gput g y (.tuple (ns.map .int))) (by simp) (by unfold gput; rw [if_pos rfl]; exact .row (SqT.of upd_same) (by omega) g5) (fun z hz => by unfold gput; rw [if_neg hz, if_neg hz])
          refine ⟨_, _, _, _, rfl, b7.put hD, (t7.at .set tD.symm).mono (by omega), ?_, by rw [tk]; exact st8, ?_⟩
          · rw [upd_ne lD]
            exact sc' _ _ (g2 _ _ (b6 _ _ l5 lt) lt)
          · rw [tk]
            intro z hz hzr
            unfold gput
            by_cases e : z = y
            · rw [if_pos e]
              exact ⟨_, rfl⟩
            · rw [if_neg e]
              exact kd z ((List.mem_append.mp hz).resolve_right fun k => e (List.mem_singleton.mp k)) hzr
      · have hin : ¬ inV (.str y) (d.rows.map V.str) = true := hin
        rw [in_strs] at hin
        have hin : y ∉ d.rows := fun k => hin (decide_eq_true k)
        refine ⟨_, _, _, _, rfl, b5, t5.mono (by omega), l5, by rw [tk]; exact st5, ?_⟩
        rw [tk]
        intro z hz hzr
        unfold gput
        by_cases e : z = y
        · exact absurd (e ▸ hzr) hin
        · rw [if_neg e]
          exact kd z ((List.mem_append.mp hz).resolve_right fun k => e (List.mem_singleton.mp k)) hzr
    · rintro σ G ⟨y4, y5, f, g, rfl, b1, t1, hl1, st1, kd⟩
      rw [List.length_map, List.take_length] at st1 kd
      rw [List.length_map] at t1
      exact ⟨_, rfl, q D G ys f g b1 (t1.mono (by omega)) hD hn' st1 kd⟩
end
end K

set_option maxRecDepth 100000
set_option maxHeartbeats 3900000
namespace K
open PySem PySem.Spec PyProof.Rows L2
/-! ### behind a call -/
theorem act_first {H : Hp} {a : Ac} {u : V} {z : Str} (h : Im H a.d u) (hz : a.parts[0]? = some (.s z)) : ∃ (b : Addr) (vs : List V), u = .ref b ∧ H b = some (.tup (.str a.word :: vs)) ∧ vs[0]? = some (.str z) := by
  unfold Ac.d Im at h
  obtain ⟨b, xs, rfl, hb, h⟩ := h
  unfold ImAll at h
  obtain ⟨wv, vs, rfl, hw, h⟩ := h
  unfold Im at hw
  subst hw
  obtain ⟨v, hv1, hv2⟩ := h.get (i := 0) (d := .str z) (by rw [List.getElem?_map, hz]; rfl)
  unfold Im at hv2
  subst hv2
  exact ⟨b, vs, rfl, hb, hv1⟩
section
variable {P : Program} {w : World} {K : PySem.W.Frag} {mg : Str → Option Value} {base : Heap}
abbrev s_behind : Stmt := topS 11
def spBehind (K : PySem.W.Frag) : Sp := fun vs H Q _ => ∃ (v pl : V) (p : Pg) (x : Str) (l : Int) (i : Nat) (d : Dn) (k : Nat) (a : Ac) (st : Int × Ac) (z : Str) (sa : Addr) (wn : Int) (ys : List Str) (f : Str → V) (g : Str → PyData), vs = [v, pl, .ref sa, .int wn] ∧ Im H p.d v ∧ Im H (.tuple [.str x, .int l]) pl ∧ p.defs.length ≤ 1000 ∧ d.steps.length ≤ 1000 ∧ FirstD p x i d ∧ FirstS d l k a ∧
  a.parts[0]? = some (.s z) ∧ d.steps[k + 1]? = some st ∧ StW K H sa ys f g ∧ ys.length ≤ 60 ∧ z ∈ ys ∧ SmI wn ∧
  ∀ (T D : Addr) (H' : Hp) (f' : Str → V), Same H H' → H T = none → H D = none → H' T = some (.tup [.str "on", .int st.1, .ref D]) → StW K H' D ys f' (gput g z (.int wn)) → Q (.ref T) H'
theorem scBh : FnScope ["program", "place", "state", "word", "after"] ["program", "place", "state", "word"] (defScope s_behind) := ⟨rfl, rfl, rfl, by decide +kernel, rfl, by decide +kernel, by decide +kernel⟩
theorem ok_behind (md : mg "dict" = none) (c_act_at : C8.Cal P w K mg base 2 "act_at" spAct []) (c_next_place : C8.Cal P w K mg base 2 "next_place" spNext []) {f : Addr} {fd : FuncData} (F : Fun K "behind" "behind" s_behind f fd) : FnOk P w K mg base CX0 3 f fd ["program", "place", "state", "word"] (spBehind K) := by
  refine F.ok scBh (fun vs H Q E h => ?_) (fun cdv A outer s H vs Q E hr h => ?_)
  · obtain ⟨v, pl, p, x, l, i, d, k, a, st, z, sa, wn, ys, f, g, rfl, _⟩ := h
    rfl
  · obtain ⟨v, pl, p, x, l, i, d, k, a, st, z, sa, wn, ys, f, g, rfl, hv, hpl, few, few2, fd1, fs1, hz, hst, hs, yfew, hzy, hwn, q⟩ := h
    refine ⟨_, (pss_cons (ps_set (i := 4) scBh.nd rfl (.inl rfl) (pe_callTy call_dictD (by rfl) md (by decide +kernel) (pa_cons (pv 2) pa_nil)))
      (pss_cons (ps_asg (pv 3) (pg_sub (pv 4) (pe_ix (ixT K rfl) (C8.pe_c c_act_at hr (by decide) (by rfl) (pa_cons (pv 0) (pa_cons (pv 1) pa_nil))) pe_int (fun _ _ => rfl)) (set_dict (hu_of hr))))
      (pss_one (ps_ret (pe_tup (pa_cons pe_str (pa_cons (pe_ix (ixT K rfl) (C8.pe_c c_next_place hr (by decide) (by rfl) (pa_cons (pv 0) (pa_cons (pv 1) pa_nil))) pe_int (fun _ _ => rfl)) (pa_cons (pv 4) pa_nil)))))))), ?_⟩
    refine ⟨_, rfl, sa, _, rfl, .inl hs.1, fun D hD => ?_⟩
    have s1 := same_new (o := .dK (sK f ys)) hD
    have st1 : StW K (upd H D (.dK (sK f ys))) D ys f g := ⟨upd_same, fun y hy => (hs.2 y hy).sq (seqT_same s1)⟩
    dsimp only [gName]
    refine ⟨_, rfl, _, rfl, _, rfl, _, rfl, v, pl, p, x, l, i, d, k, a, rfl, hv.same s1, hpl.same s1, few, few2, fd1, fs1, fun u G s2 hu => ?_⟩
    obtain ⟨b, vs, rfl, hb, hv0⟩ := act_first hu hz
    have st2 := st1.same s2
    refine ⟨b, _, 1, _, rfl, rfl, SqT.of hb, atI_nat (j := 1) hv0, D, _, rfl, DPut.k (k := .inr z) st2.1 (by rw [st2.len]; exact Nat.lt_of_le_of_lt yfew (by decide)), ?_⟩
    have s3 := same_put (o := .dK (putK (sK f ys) (.inr z) (.int wn))) (s1.trans s2) hD
    have st3 := st2.put (y := z) (v := .int wn) (g' := gput g z (.int wn)) hzy (by unfold gput; rw [if_pos rfl]; exact .num wn hwn) (fun y hy => by unfold gput; rw [if_neg hy])
    revert s3 st3
    generalize upd G D (.dK (putK (sK f ys) (.inr z) (.int wn))) = G3
    intro s3 st3
    refine ⟨_, rfl, _, rfl, v, pl, p, x, l, i, d, k, a, rfl, hv.same s3, hpl.same s3, few, few2, fd1, fs1, fun u2 G4 s4 hu2 => ?_⟩
    unfold nextD at hu2
    rw [hst] at hu2
    obtain ⟨b2, rfl, hb2⟩ := pl_at hu2
    refine ⟨b2, _, 1, _, rfl, rfl, SqT.of hb2, atI_nat (j := 1) rfl, _, rfl, (by show 3 ≤ sizeLine; decide), fun T hT => ?_⟩
    have s5 := same_new (o := .tup [.str "on", .int st.1, .ref D]) hT
    exact q T D _ _ ((s3.trans s4).trans s5) (none_of (s3.trans s4) hT) hD upd_same ((st3.same s4).same s5)
end
/-! ### what is given, shown -/
theorem no_dict : ∀ ns : List Int, PyData.hasDictAll (ns.map PyData.int) = false
  | [] => rfl
  | n :: r => by
    show (false || PyData.hasDictAll (r.map .int)) = false
    rw [no_dict r]
    rfl
theorem Cel.flat {K : PySem.W.Frag} {H : Hp} {v : V} {d : PyData} (h : Cel K H v d) : d.hasDict = false := by
  cases h with
  | num i _ => rfl
  | row _ _ _ => exact no_dict _
theorem cels_dp {K : PySem.W.Frag} {H : Hp} : ∀ {zs : List V} {ws : List PyData}, zs.length = ws.length → (∀ (j : Nat) (z : V) (w : PyData), zs[j]? = some z → ws[j]? = some w → Cel K H z w) → DpAll K H zs ws ∧ PyData.hasDictAll ws = false ∧ PyData.showableAll ws = true ∧ PyData.depthAll ws ≤ 1 ∧ ∀ x ∈ ws, x.shown.length ≤ 1503
  | [], [], _, _ => ⟨.nil, rfl, rfl, Nat.zero_le _, fun x h => nomatch h⟩
  | z :: zs, w :: ws, l, h => by
    have h0 := h 0 z w rfl rfl
    obtain ⟨a1, a2, a3, _⟩ := h0.fine
    obtain ⟨b1, b2, b3, b4, b5⟩ := cels_dp (zs := zs) (ws := ws) (by simpa using l) fun j z w h1 h2 => h (j + 1) z w h1 h2
    refine ⟨.cons h0.dp.1 b1, ?_, ?_, ?_, fun x hx => ?_⟩
    · show (PyData.hasDict w || PyData.hasDictAll ws) = false
      rw [h0.flat, b2]
      rfl
    · show (PyData.showable w && PyData.showableAll ws) = true
      rw [a1, b3]
      rfl
    · show max (PyData.depth w) (PyData.depthAll ws) ≤ 1
      omega
    · rcases List.mem_cons.mp hx with e | e
      · rw [e]
        exact a3
      · exact b5 x e
end K

set_option maxRecDepth 100000
set_option maxHeartbeats 3900000
namespace K
open PySem PySem.Spec PyProof.Rows L2
/-! ### the law's look at beginnings -/
theorem StW.away {K : PySem.W.Frag} {H : Hp} {a b : Addr} {ys : List Str} {f : Str → V} {g : Str → PyData} {o : HO} {kvs : List (Key × V)} (h : StW K H a ys f g) (n : a ≠ b) (hb : H b = some (.dK kvs)) : StW K (upd H b o) a ys f g := ⟨by rw [upd_ne n]; exact h.1, fun y hy => (h.2 y hy).sq (seqT_dict hb)⟩
theorem Giv.take {K : PySem.W.Frag} {H : Hp} {d : Dn} {zs : List V} {ws : List PyData} (h : Giv K H d zs ws) (n : Nat) : Giv K H d (zs.take n) (ws.take n) := by
  have at' : ∀ {α : Type} {l : List α} {j : Nat} {x : α}, (l.take n)[j]? = some x → l[j]? = some x := fun {α l j x} e => by
    rw [List.getElem?_take] at e
    split at e
    · exact e
    · cases e
  refine ⟨by rw [List.length_take, List.length_take, h.len], by rw [List.length_take]; have := h.few; omega, fun j z w h1 h2 => h.cel j z w (at' h1) (at' h2), fun j p w h1 h2 h3 => h.row j p w h1 h2 (at' h3)⟩
theorem giv_nil {K : PySem.W.Frag} {H : Hp} {d : Dn} : Giv K H d [] [] := ⟨rfl, Nat.zero_le _, (fun j z w h _ => nomatch h), (fun j p w _ _ h => nomatch h)⟩
theorem tp_dk {H : Hp} {t a : Addr} {n : Nat} {kvs : List (Key × V)} (h : Tp H t n) (k : H a = some (.dK kvs)) : t ≠ a := by
  obtain ⟨_, _, _, e, _⟩ := h
  exact ne_of e k (fun z => by cases z)
theorem cut_take {xs : List V} {r : Nat} : cutV xs none (some (r : Int)) = xs.take r := by
  unfold cutV
  have h1 : HT.sIx xs.length 0 none = 0 := rfl
  have h2 : HT.sIx xs.length xs.length (some (r : Int)) = min r xs.length := by rw [HT.sIx_nat]
  rw [h1, h2, Nat.sub_zero, List.drop_zero]
  by_cases e : r ≤ xs.length
  · rw [Nat.min_eq_left e]
  · rw [Nat.min_eq_right (by omega)]
    rw [List.take_of_length_le (Nat.le_refl _), List.take_of_length_le (by omega)]
section
variable {P : Program} {w : World} {K : PySem.W.Frag} {mg : Str → Option Value} {base : Heap}
abbrev s_law_begins : Stmt := topS 36
def spBegins : Sp := fun vs H Q _ => ∃ (t : Addr) (n : Nat) (v u : V) (p : Pg) (i : Nat) (d : Dn), vs = [.ref t, v, u] ∧ Tp H t n ∧ n < 600000 ∧ Im H p.d v ∧ PgOk p ∧ Im H d.d u ∧ FirstD p d.name i d ∧ DefFit d ∧
  ∀ (H' : Hp), But t H H' → Tp H' t (n + 1900) → Q (.bl true) H'
theorem scBe : FnScope ["tape", "program", "one", "state", "given_now", "due", "kept", "told", "less", "param"] ["tape", "program", "one"] (defScope s_law_begins) := ⟨rfl, rfl, rfl, by decide +kernel, rfl, by decide +kernel, by decide +kernel⟩
theorem ok_begins (B : Bs mg) (c_draw : C8.Cal P w K mg base 1 "_law_draw" spDraw []) (c_a_state : C8.Cal P w K mg base 4 "_law_a_state" (spAState K) []) (c_first_state : C8.Cal P w K mg base 2 "_law_first_state" (spFirstS K) []) (c_beginning : C8.Cal P w K mg base 3 "beginning" (spFirstS K) [])
    {e0 : Addr} (he0 : ∀ H : Hp, SqT K H e0 []) (c_beginning0 : C8.Cal P w K mg base 3 "beginning" (spFirstS K) [.ref e0]) (c_same : CalG P w K mg base 1 "_law_same" (spSame K)) {f : Addr} {fd : FuncData} (F : Fun K "_law_begins" "_law_begins" s_law_begins f fd) : FnG P w K mg base CX0 5 f fd ["tape", "program", "one"] spBegins := by
  refine F.okG scBe (fun vs H Q E h => ?_) (fun cdv A outer s H vs Q E hg hr h => ?_)
  · obtain ⟨t, n, v, u, p, i, d, rfl, _⟩ := h
    rfl
  · obtain ⟨t, n, v, u, p, i, d, rfl, hT, hn, hv, pok, hu, fst, fit, q⟩ := h
    have hrp := fun (X : Cx) (e : X.A = A.deeper (envOfC "_law_begins" (defScope s_law_begins) s.heap.objs.size f cdv)) => call_repD (X := X) (by rw [e]; exact hg) (by rw [e]; exact hr.units)
    refine ⟨_, (pss_cons (ps_set (i := 3) scBe.nd rfl (.inr rfl) (C8.pe_c c_a_state hr (by decide) (by rfl) (pa_cons (pv 0) (pa_cons (pv 1) (pa_cons (pv 2) pa_nil)))))
      (pss_cons (ps_set (i := 4) scBe.nd rfl (.inl rfl) (pe_tupleOf (by rfl) B.tuple (pe_lc (own := [("param", 9)]) (g := gName 9) (tt := tYes) (by rfl) scBe.nd (pi_tup (pe_ix (ixT K rfl) (pv 2) pe_int (fun _ _ => rfl))) (blkOk_by (own := [("param", 9)]) (N := ["tape", "program", "one", "state", "given_now", "due", "kept", "told", "less", "param"]) (sc := defScope s_law_begins) (by decide +kernel)) (fun _ _ _ _ _ => (pg_name (i := 9) scBe.nd rfl (.inl rfl) (hf := .inr rfl))) (fun _ _ _ _ _ => pts_nil) (fun _ _ _ _ _ => (pe_dget (hu_of hr) (pv 3) (pv 9) (fun _ _ => rfl))))))
      (pss_cons (ps_set (i := 5) scBe.nd rfl (.inl rfl) (C8.pe_c c_first_state hr (by decide) (by rfl) (pa_cons (pv 1) (pa_cons (pe_ix (ixT K rfl) (pv 2) pe_int (fun _ _ => rfl)) (pa_cons (pv 4) pa_nil)))))
      (pss_cons (ps_set (i := 6) scBe.nd rfl (.inl rfl) (pe_callB (hrp _ rfl) (by rfl) B.repr PyProof.Rows.boot_repr (pa_cons (pv 4) pa_nil)))
      (pss_cons (ps_set (i := 7) scBe.nd rfl (.inl rfl) (C8.pe_c c_beginning hr (by decide) (by rfl) (pa_cons (pv 1) (pa_cons (pe_ix (ixT K rfl) (pv 2) pe_int (fun _ _ => rfl)) (pa_cons (pv 4) pa_nil)))))
      (pss_cons (ps_if (pt_not (pt_val (pe_cG c_same hg hr (by decide) (by rfl) (pa_cons (pv 7) (pa_cons (pv 5) pa_nil))))) (pss_one (ps_ret pe_bl)) pss_nil)
      (pss_cons (ps_expr (pe_dclear (pv 7)))
      (pss_cons (ps_if (PW.pt (pw_or (pt_not (pt_val (pe_cG c_same hg hr (by decide) (by rfl) (pa_cons (C8.pe_c c_beginning hr (by decide) (by rfl) (pa_cons (pv 1) (pa_cons (pe_ix (ixT K rfl) (pv 2) pe_int (fun _ _ => rfl)) (pa_cons (pv 4) pa_nil)))) (pa_cons (pv 5) pa_nil))))) (pw_or1 (pt_cmpR op_ne (pe_callB (hrp _ rfl) (by rfl) B.repr PyProof.Rows.boot_repr (pa_cons (pv 4) pa_nil)) (pv 6) (nomark _))))) (pss_one (ps_ret pe_bl)) pss_nil)
      (pss_cons (ps_set (i := 8) scBe.nd rfl (.inl rfl) (pe_slice sl_tupA (pv 4) po_none (po_some (C8.pe_c c_draw hr (by decide) (by rfl) (pa_cons (pv 0) (pa_cons (pe_op op_add (pe_callB call_len_seq (by rfl) B.len PySem.boot_len (pa_cons (pe_ix (ixT K rfl) (pv 2) pe_int (fun _ _ => rfl)) pa_nil)) pe_int) pa_nil))))))
      (pss_cons (ps_if (pt_not (pt_val (pe_cG c_same hg hr (by decide) (by rfl) (pa_cons (C8.pe_c c_beginning hr (by decide) (by rfl) (pa_cons (pv 1) (pa_cons (pe_ix (ixT K rfl) (pv 2) pe_int (fun _ _ => rfl)) (pa_cons (pv 8) pa_nil)))) (pa_cons (C8.pe_c c_first_state hr (by decide) (by rfl) (pa_cons (pv 1) (pa_cons (pe_ix (ixT K rfl) (pv 2) pe_int (fun _ _ => rfl)) (pa_cons (pv 8) pa_nil)))) pa_nil))))) (pss_one (ps_ret pe_bl)) pss_nil)
      (pss_one (ps_ret (pe_cG c_same hg hr (by decide) (by rfl) (pa_cons (C8.pe_c c_beginning0 hr (by decide) (by rfl) (pa_cons (pv 1) (pa_cons (pe_ix (ixT K rfl) (pv 2) pe_int (fun _ _ => rfl)) pa_nil))) (pa_cons (C8.pe_c c_first_state hr (by decide) (by rfl) (pa_cons (pv 1) (pa_cons (pe_ix (ixT K rfl) (pv 2) pe_int (fun _ _ => rfl)) (pa_cons (pe_tup pa_nil) pa_nil)))) pa_nil))))))))))))))), ?_⟩
    have few : p.defs.length ≤ 1000 := Nat.le_trans pok.few (by decide)
    refine ⟨_, rfl, _, rfl, _, rfl, t, n, v, u, p, d, rfl, hT, by omega, hv, pok.w0.1, pok.w0.2, hu, fit, fun sa G1 ys f g b1 t1 na hys st kd => ?_⟩
    have lo : ∀ y ∈ ys, Low y := fun y hy => (fit.lo y ((hys.2.2 y).mp hy)).low
    have yfew : ys.length ≤ 1000 := Nat.le_trans (hys.few fit.ok) (by decide)
    have hu0 := hu
    obtain ⟨a, pp, fp, rp, tt, ss, rfl, ha, hp, hf, hrr, ht, hss⟩ := Dn.at hu
    have kT : ∀ {G : Hp} {b : Addr} {xs : List V}, But t H G → H b = some (.tup xs) → G b = some (.tup xs) := fun {G b xs} k e => keep_but k hT _ _ e
    dsimp only [gName]
    refine ⟨_, rfl, a, _, 1, _, rfl, rfl, SqT.of (kT b1 ha), atI_nat (j := 1) rfl, pp, rfl, ⟨_, SqT.of (kT b1 hp)⟩, fun D hD => ?_⟩
    have pf := fit.ok.parts.1
    refine lc_w (walk_tup (K := K) (a := pp) (xs := d.params.map V.str)) (fun _ => False) (fun j acc G => acc = (d.params.take j).map f) id hD (by rw [List.length_map]; exact Nat.lt_of_le_of_lt pf (by decide)) (fun j acc G G' h _ => h) rfl (fun j acc G _ b _ => SqT.of (Bt.same b _ _ (kT b1 hp))) ?_ ?_
    · rintro j acc z Ga Gb hj hb rfl hA hal ⟨rfl, hz⟩ N N0 q1 q0
      obtain ⟨y, hy, rfl⟩ := map_at hz
      refine ⟨rfl, ?_⟩
      refine ⟨_, rfl, _, rfl, sa, f y, rfl, (st.same (Bt.same hb)).get (par_mem hys hy), q1 _ _ .refl ?_⟩
      rw [List.take_add_one, hy, List.map_append]
      rfl
    rintro acc G2 hb2 hA hal rfl
    rw [List.length_map, List.take_length] at hA
    have s2 : Same G1 G2 := Bt.same hb2
    refine .inl ⟨D, _, rfl, SqL.of hA, fun c hc => ?_⟩
    have s3 := same_new (o := .tup (d.params.map f)) hc
    obtain ⟨G3, e3⟩ : ∃ G3, G3 = upd G2 c (.tup (d.params.map f)) := ⟨_, rfl⟩
    have hc3 : G3 c = some (.tup (d.params.map f)) := by rw [e3]; exact upd_same
    rw [← e3] at s3
    dsimp only [gName]
    rw [← e3]
    have s13 := s2.trans s3
    have b3 : But t H G3 := b1.trans (.of s13)
    have t3 : Tp G3 t (n + 1800) := t1.same s13
    have st3 := st.same s13
    have gv3 : Giv K G3 d (d.params.map f) (d.params.map g) := by
      refine ⟨by rw [List.length_map, List.length_map], by rw [List.length_map]; exact Nat.le_refl _, fun j z w h1 h2 => ?_, fun j p' w h1 h2 h3 => ?_⟩
      · obtain ⟨y, hy, rfl⟩ := map_at h1
        obtain ⟨y', hy', rfl⟩ := map_at h2
        rw [hy] at hy'
        obtain rfl := Option.some.inj hy'
        exact st3.2 y (par_mem hys hy)
      · obtain ⟨y', hy', rfl⟩ := map_at h3
        rw [h1] at hy'
        obtain rfl := Option.some.inj hy'
        exact kd p' (par_mem hys h1) h2
    clear e3 hA hb2 hal hc hD
    -- due
    refine ⟨_, rfl, _, rfl, a, _, 0, _, rfl, rfl, SqT.of (kT b3 ha), atI_nat (j := 0) rfl, _, rfl, v, p, d.name, i, d, c, _, _, rfl, hv.but b3 hT, few, fst, fit, SqT.of hc3, gv3, fun a2 G4 ys2 f2 s4 n2 hys2 st4 => ?_⟩
    obtain rfl := hys2.uniq hys
    dsimp only [gName]
    -- kept
    obtain ⟨r1, r2, r3, r4, r5⟩ := cels_dp (K := K) gv3.len gv3.cel
    have shows : (PyData.tuple (d.params.map g)).hasDict = false ∧ (PyData.tuple (d.params.map g)).showable = true ∧ (PyData.tuple (d.params.map g)).depth ≤ 30 ∧ (PyData.tuple (d.params.map g)).shown.length ≤ sizeLine := by
      refine ⟨r2, r3, ?_, ?_⟩
      · show PyData.depthAll (d.params.map g) + 1 ≤ 30
        omega
      · have := len_tup r5
        rw [List.length_map] at this
        exact Nat.le_trans (show _ ≤ 20000 by omega) (by decide)
    have dpc : ∀ {G : Hp}, Same G3 G → Dp K G (.ref c) (.tuple (d.params.map g)) := fun {G} sg => by
      have gg := gv3.same sg
      exact .tup (SqT.of (sg _ _ hc3)) (cels_dp (K := K) gg.len gg.cel).1
    refine ⟨_, rfl, c, _, rfl, dpc s4, shows.1, shows.2.1, shows.2.2.1, shows.2.2.2, ?_⟩
    dsimp only [gName]
    -- told
    have b4 : But t H G4 := b3.trans (.of s4)
    have t4 := t3.same s4
    refine ⟨_, rfl, _, rfl, a, _, 0, _, rfl, rfl, SqT.of (kT b4 ha), atI_nat (j := 0) rfl, _, rfl, v, p, d.name, i, d, c, _, _, rfl, hv.but b4 hT, few, fst, fit, SqT.of (s4 _ _ hc3), gv3.same s4, fun a3 G5 ys2 f3 s5 n3 hys3 st5 => ?_⟩
    obtain rfl := hys3.uniq hys
    dsimp only [gName]
    have st45 := st4.same s5
    refine ⟨_, rfl, _, rfl, _, _, rfl, SameW.states st5 st45 lo yfew, _, rfl, ?_⟩
    refine ite2 (fun h => nomatch h) (fun _ => ?_)
    -- told.clear()
    refine ⟨_, rfl, .inr (.inr (.inl ⟨rfl, .inl ⟨_, st5.1⟩⟩)), a3, _, rfl, rfl, st5.1, ?_⟩
    have a23 : a2 ≠ a3 := ne_of_none st4.1 n3
    have nc3 : c ≠ a3 := ne_of (s5 _ _ (s4 _ _ hc3)) st5.1 (fun z => by cases z)
    have n3H : H a3 = none := b4.back t4 n3
    have b6 := (b4.trans (.of s5)).put (o := .dK []) n3H
    have t6 : Tp (upd G5 a3 (.dK [])) t (n + 1800) := (t4.same s5).at .set (tp_dk (t4.same s5) st5.1)
    have c6 : (upd G5 a3 (.dK [])) c = some (.tup (d.params.map f)) := by rw [upd_ne nc3]; exact s5 _ _ (s4 _ _ hc3)
    have st6 := st45.away (o := .dK []) a23 st5.1
    have gv6 : Giv K (upd G5 a3 (.dK [])) d (d.params.map f) (d.params.map g) := by
      have gg := gv3.same (s4.trans s5)
      exact ⟨gg.len, gg.few, fun j z w h1 h2 => (gg.cel j z w h1 h2).sq (seqT_dict st5.1), gg.row⟩
    revert b6 t6 c6 st6 gv6
    generalize upd G5 a3 (.dK []) = G6
    intro b6 t6 c6 st6 gv6
    have dpc6 : ∀ {G : Hp}, Same G6 G → Dp K G (.ref c) (.tuple (d.params.map g)) := fun {G} sg => by
      have gg := gv6.same sg
      exact .tup (SqT.of (sg _ _ c6)) (cels_dp (K := K) gg.len gg.cel).1
    refine ⟨_, rfl, _, rfl, a, _, 0, _, rfl, rfl, SqT.of (kT b6 ha), atI_nat (j := 0) rfl, _, rfl, v, p, d.name, i, d, c, _, _, rfl, hv.but b6 hT, few, fst, fit, SqT.of c6, gv6, fun a4 G7 ys2 f4 s7 n4 hys4 st7 => ?_⟩
    obtain rfl := hys4.uniq hys
    refine ⟨_, rfl, _, _, rfl, SameW.states st7 (st6.same s7) lo yfew, _, rfl, ?_⟩
    refine ite2 (fun h => nomatch h) (fun _ => ?_)
    refine ⟨_, rfl, c, _, rfl, dpc6 s7, shows.1, shows.2.1, shows.2.2.1, shows.2.2.2, _, rfl, rfl, _, rfl, ?_⟩
    refine ite2 (fun h => ?_) (fun _ => ?_)
    · simp at h
    -- less
    have b7 := b6.trans (.of s7)
    have t7 := t6.same s7
    refine ⟨_, rfl, _, rfl, _, rfl, a, _, 1, _, rfl, rfl, SqT.of (kT b7 ha), atI_nat (j := 1) rfl, pp, _, rfl, .inr (SqT.of (kT b7 hp)), _, _, rfl, rfl, t, n + 1800, _, rfl, t7, by omega, by omega, by rw [List.length_map]; omega, fun r G8 r0 r1' t8 b8 => ?_⟩
    obtain ⟨rr, rfl⟩ : ∃ rr : Nat, r = (rr : Int) := ⟨r.toNat, by omega⟩
    have c8 := keep_but b8 t7 _ _ (s7 _ _ c6)
    refine ⟨_, rfl, slA_of c8 cut_take fun k G9 s9 hk => ?_⟩
    dsimp only [gName]
    have b9 := (b7.trans b8).trans (.of s9)
    have t9 := t8.same s9
    have gv9 : Giv K G9 d ((d.params.map f).take rr) ((d.params.map g).take rr) := by
      have gg := (gv6.same s7).take rr
      exact ⟨gg.len, gg.few, fun j z w h1 h2 => ((gg.cel j z w h1 h2).sq (seqT_but b8 t7)).sq (seqT_same s9), gg.row⟩
    refine ⟨_, rfl, _, rfl, a, _, 0, _, rfl, rfl, SqT.of (kT b9 ha), atI_nat (j := 0) rfl, _, rfl, v, p, d.name, i, d, k, _, _, rfl, hv.but b9 hT, few, fst, fit, SqT.of hk, gv9, fun a5 G10 ys2 f5 s10 n5 hys5 st10 => ?_⟩
    obtain rfl := hys5.uniq hys
    have b10 := b9.trans (.of s10)
    refine ⟨_, rfl, _, rfl, a, _, 0, _, rfl, rfl, SqT.of (kT b10 ha), atI_nat (j := 0) rfl, _, rfl, v, p, d.name, i, d, k, _, _, rfl, hv.but b10 hT, few, fst, fit, SqT.of (s10 _ _ hk), gv9.same s10, fun a6 G11 ys2 f6 s11 n6 hys6 st11 => ?_⟩
    obtain rfl := hys6.uniq hys
    refine ⟨_, _, rfl, SameW.states (st10.same s11) st11 lo yfew, _, rfl, ?_⟩
    refine ite2 (fun h => nomatch h) (fun _ => ?_)
    have b11 := b10.trans (.of s11)
    refine ⟨_, rfl, _, rfl, a, _, 0, _, rfl, rfl, SqT.of (kT b11 ha), atI_nat (j := 0) rfl, v, p, d.name, i, d, e0, [], [], rfl, hv.but b11 hT, few, fst, fit, he0 _, giv_nil, fun a7 G12 ys2 f7 s12 n7 hys7 st12 => ?_⟩
    obtain rfl := hys7.uniq hys
    have b12 := b11.trans (.of s12)
    refine ⟨_, rfl, _, rfl, a, _, 0, _, rfl, rfl, SqT.of (kT b12 ha), atI_nat (j := 0) rfl, (by show 0 ≤ sizeLine; decide), fun m nm => ?_⟩
    have sm := same_new (o := .tup []) nm
    have b13 := b12.trans (.of sm)
    refine ⟨v, p, d.name, i, d, m, [], [], rfl, hv.but b13 hT, few, fst, fit, SqT.of upd_same, giv_nil, fun a8 G14 ys2 f8 s14 n8 hys8 st14 => ?_⟩
    obtain rfl := hys8.uniq hys
    refine ⟨_, _, rfl, SameW.states ((st12.same sm).same s14) st14 lo yfew, q _ (b13.trans (.of s14)) ?_⟩
    exact ((((((t9.same s10).same s11).same s12).same sm).same s14)).mono (by omega)
end
end K

set_option maxRecDepth 100000
set_option maxHeartbeats 3900000
namespace K
open PySem PySem.Spec PyProof.Rows L2
/-! ### the law's look behind calls -/
theorem first_step {d : Dn} {k : Nat} {s : Int × Ac} (h : d.steps[k]? = some s) (r : (d.steps.map (·.1)).Pairwise (· < ·)) : FirstS d s.1 k s.2 := by
  refine ⟨h, fun j e hj he k' => ?_⟩
  have h1 : (d.steps.map (·.1))[j]? = some e.1 := by rw [List.getElem?_map, he]; rfl
  have h2 : (d.steps.map (·.1))[k]? = some s.1 := by rw [List.getElem?_map, h]; rfl
  obtain ⟨l1, e1⟩ := List.getElem?_eq_some_iff.mp h1
  obtain ⟨l2, e2⟩ := List.getElem?_eq_some_iff.mp h2
  have := List.pairwise_iff_getElem.mp r j k l1 l2 hj
  rw [e1, e2] at this
  omega
section
variable {P : Program} {w : World} {K : PySem.W.Frag} {mg : Str → Option Value} {base : Heap}
abbrev s_law_goes_behind : Stmt := topS 37
def spGoes : Sp := fun vs H Q _ => ∃ (t : Addr) (n : Nat) (v u : V) (p : Pg) (i : Nat) (d : Dn) (k : Nat) (st : Int × Ac), vs = [.ref t, v, u, .int (k : Nat)] ∧ Tp H t n ∧ n < 600000 ∧ Im H p.d v ∧ PgOk p ∧ Im H d.d u ∧ FirstD p d.name i d ∧ DefFit d ∧ d.steps[k]? = some st ∧ st.2.word = "call" ∧ SmI st.1 ∧
  (∀ s ∈ d.steps, SmI s.1) ∧ ∀ (H' : Hp), But t H H' → Tp H' t (n + 1900) → Q (.bl true) H'
theorem scGo : FnScope ["tape", "program", "one", "at", "state", "worth", "label", "act", "kept", "after", "due", "told"] ["tape", "program", "one", "at"] (defScope s_law_goes_behind) := ⟨rfl, rfl, rfl, by decide +kernel, rfl, by decide +kernel, by decide +kernel⟩
theorem ok_goes (B : Bs mg) (md : mg "dict" = none) (c_word : C8.Cal P w K mg base 3 "_law_a_word" spWord []) (c_a_state : C8.Cal P w K mg base 4 "_law_a_state" (spAState K) []) (c_behind : C8.Cal P w K mg base 3 "behind" (spBehind K) []) (c_same : CalG P w K mg base 1 "_law_same" (spSame K)) {f : Addr} {fd : FuncData} (F : Fun K "_law_goes_behind" "_law_goes_behind" s_law_goes_behind f fd) : FnG P w K mg base CX0 5 f fd ["tape", "program", "one", "at"] spGoes := by
  refine F.okG scGo (fun vs H Q E h => ?_) (fun cdv A outer s H vs Q E hg hr h => ?_)
  · obtain ⟨t, n, v, u, p, i, d, k, st, rfl, _⟩ := h
    rfl
  · obtain ⟨t, n, v, u, p, i, d, k, s0, rfl, hT, hn, hv, pok, hu, fst, fit, hk, hw, hsm, hall, q⟩ := h
    have hrp := fun (X : Cx) (e : X.A = A.deeper (envOfC "_law_goes_behind" (defScope s_law_goes_behind) s.heap.objs.size f cdv)) => call_repW (X := X) (by rw [e]; exact hg) (by rw [e]; exact hr.units)
    refine ⟨_, (pss_cons (ps_set (i := 4) scGo.nd rfl (.inl rfl) (C8.pe_c c_a_state hr (by decide) (by rfl) (pa_cons (pv 0) (pa_cons (pv 1) (pa_cons (pv 2) pa_nil)))))
      (pss_cons (ps_set (i := 5) scGo.nd rfl (.inl rfl) (C8.pe_c c_word hr (by decide) (by rfl) (pa_cons (pv 0) (pa_cons (pe_ix (ixT K rfl) (pv 1) pe_int (fun _ _ => rfl)) pa_nil))))
      (pss_cons (ps_asg (pe_ix (ixT K rfl) (pe_ix (ixT K rfl) (pv 2) pe_int (fun _ _ => rfl)) (pv 3) (fun _ _ => rfl)) (pg_tup (n := 2) rfl (pgs_cons (pg_name (i := 6) scGo.nd rfl (.inl rfl)) (pgs_cons (pg_name (i := 7) scGo.nd rfl (.inl rfl)) pgs_nil))))
      (pss_cons (ps_set (i := 8) scGo.nd rfl (.inl rfl) (pe_callB (hrp _ rfl) (by rfl) B.repr PyProof.Rows.boot_repr (pa_cons (pv 4) pa_nil)))
      (pss_cons (ps_set (i := 9) scGo.nd rfl (.inl rfl) (pe_callTy call_dictD (by rfl) md (by decide +kernel) (pa_cons (pv 4) pa_nil)))
      (pss_cons (ps_asg (pv 5) (pg_sub (pv 9) (pe_ix (ixT K rfl) (pv 7) pe_int (fun _ _ => rfl)) (set_dict (hu_of hr))))
      (pss_cons (ps_set (i := 10) scGo.nd rfl (.inl rfl) (pe_tup (pa_cons pe_str (pa_cons (pe_ix (ixT K rfl) (pe_ix (ixT K rfl) (pe_ix (ixT K rfl) (pv 2) pe_int (fun _ _ => rfl)) (pe_op op_add (pv 3) pe_int) (fun _ _ => rfl)) pe_int (fun _ _ => rfl)) (pa_cons (pv 9) pa_nil)))))
      (pss_cons (ps_set (i := 11) scGo.nd rfl (.inl rfl) (C8.pe_c c_behind hr (by decide) (by rfl) (pa_cons (pv 1) (pa_cons (pe_tup (pa_cons (pe_ix (ixT K rfl) (pv 2) pe_int (fun _ _ => rfl)) (pa_cons (pv 6) pa_nil))) (pa_cons (pv 4) (pa_cons (pv 5) pa_nil))))))
      (pss_cons (ps_if (PW.pt (pw_or (pt_not (pt_val (pe_cG c_same hg hr (by decide) (by rfl) (pa_cons (pv 11) (pa_cons (pv 10) pa_nil))))) (pw_or1 (pt_cmpR op_ne (pe_callB (hrp _ rfl) (by rfl) B.repr PyProof.Rows.boot_repr (pa_cons (pv 4) pa_nil)) (pv 8) (nomark _))))) (pss_one (ps_ret pe_bl)) pss_nil)
      (pss_cons (ps_expr (pe_dclear (pe_ix (ixT K rfl) (pv 11) pe_int (fun _ _ => rfl))))
      (pss_one (ps_ret (pe_and (pe_cG c_same hg hr (by decide) (by rfl) (pa_cons (C8.pe_c c_behind hr (by decide) (by rfl) (pa_cons (pv 1) (pa_cons (pe_tup (pa_cons (pe_ix (ixT K rfl) (pv 2) pe_int (fun _ _ => rfl)) (pa_cons (pv 6) pa_nil))) (pa_cons (pv 4) (pa_cons (pv 5) pa_nil))))) (pa_cons (pv 10) pa_nil))) (pe_one (pe_cmpR op_eq (pe_callB (hrp _ rfl) (by rfl) B.repr PyProof.Rows.boot_repr (pa_cons (pv 4) pa_nil)) (pv 8) (nomark _)))))))))))))))), ?_⟩
    have few : p.defs.length ≤ 1000 := Nat.le_trans pok.few (by decide)
    have few2 : d.steps.length ≤ 1000 := Nat.le_trans fit.few (by decide)
    have fs := first_step hk fit.rise
    obtain ⟨z, y, gs, ep, _, enm, _⟩ := call_parts (fit.ok.acts s0 (List.mem_of_getElem? hk)) hw
    have hz : s0.2.parts[0]? = some (.s z) := by rw [ep]; rfl
    have hnx := fit.last k s0 hk hw
    obtain ⟨s1, hk1⟩ : ∃ s1, d.steps[k + 1]? = some s1 := ⟨_, List.getElem?_eq_getElem hnx⟩
    have hsm1 := hall s1 (List.mem_of_getElem? hk1)
    have hzev : z ∈ d.every := List.mem_append_right _ (by
      unfold stN
      exact List.mem_flatten.mpr ⟨_, List.mem_map_of_mem (List.mem_of_getElem? hk), by rw [enm]; exact List.mem_cons_self⟩)
    have hv0 := hv
    obtain ⟨pa, pt, pds, rfl, hpa, hpt, _⟩ := Pg.at hv
    refine ⟨_, rfl, _, rfl, _, rfl, t, n, .ref pa, u, p, d, rfl, hT, by omega, hv0, pok.w0.1, pok.w0.2, hu, fit, fun sa G1 ys f g b1 t1 na hys st kd => ?_⟩
    have lo : ∀ y ∈ ys, Low y := fun y hy => (fit.lo y ((hys.2.2 y).mp hy)).low
    have yf := hys.few fit.ok
    have yfew : ys.length ≤ 1000 := Nat.le_trans yf (by decide)
    have hzy : z ∈ ys := (hys.2.2 z).mpr hzev
    have hu0 := hu
    obtain ⟨a, pp, fp, rp, tt, ss, rfl, ha, hp, hf, hrr, ht, hss⟩ := Dn.at hu
    obtain ⟨x0, hx0, hx1⟩ := hss.get (i := k) (d := stD s0) (by rw [List.getElem?_map, hk]; rfl)
    obtain ⟨sd, su, rfl, hsd, hsu⟩ := st_at hx1
    obtain ⟨ab, avs, rfl, hab, hav⟩ := act_first hsu hz
    obtain ⟨x2, hx2, hx3⟩ := hss.get (i := k + 1) (d := stD s1) (by rw [List.getElem?_map, hk1]; rfl)
    obtain ⟨sd1, su1, rfl, hsd1, _⟩ := st_at hx3
    have kT : ∀ {G : Hp} {b : Addr} {xs : List V}, But t H G → H b = some (.tup xs) → G b = some (.tup xs) := fun {G b xs} k e => keep_but k hT _ _ e
    dsimp only [gName]
    refine ⟨_, rfl, _, rfl, pa, _, 0, _, rfl, rfl, SqT.of (kT b1 hpa), atI_nat (j := 0) rfl, t, n + 1800, p.wide, rfl, t1, by omega, pok.w0.1, pok.w0.2, fun wn G2 r0 r1 t2 b2 => ?_⟩
    have hwn : SmI wn := .of pok.w0.2 r0 r1
    have b12 := b1.trans b2
    have st2 := st.but b2 t1
    dsimp only [gName]
    refine ⟨_, rfl, a, _, 4, _, rfl, rfl, SqT.of (kT b12 ha), atI_nat (j := 4) rfl, _, rfl, tt, ss, (k : Nat), _, rfl, rfl, SqT.of (kT b12 ht), atI_nat hx0, sd, _, rfl, SqT.of (kT b12 hsd), rfl, _, _, rfl, _, _, rfl, rfl, ?_⟩
    obtain ⟨c1, c2, c3, c4⟩ := st2.fine lo yfew
    have c2' : (stW ys g).depth ≤ 30 := Nat.le_trans c2 (by decide)
    have c3' : (stW ys g).shown.length ≤ sizeLine := Nat.le_trans c3 (by decide)
    refine ⟨_, rfl, sa, stW ys g, rfl, .inl ⟨sa, ys, f, g, rfl, st2, rfl⟩, c1, c2', c3', ?_⟩
    dsimp only [gName]
    refine ⟨_, rfl, sa, _, rfl, .inl st2.1, fun D hD => ?_⟩
    have sD := same_new (o := .dK (sK f ys)) hD
    have std : StW K (upd G2 D (.dK (sK f ys))) D ys f g := ⟨upd_same, fun y hy => (st2.2 y hy).sq (seqT_same sD)⟩
    have st3 := st2.same sD
    have b3 := b12.trans (.of sD)
    have t3 := t2.same sD
    have nDH : H D = none := b12.back t2 hD
    have saD : sa ≠ D := ne_of_none st2.1 hD
    dsimp only [gName]
    revert std st3 b3 t3
    generalize upd G2 D (.dK (sK f ys)) = G3
    intro std st3 b3 t3
    refine ⟨_, rfl, _, rfl, _, rfl, ab, _, 1, _, rfl, rfl, SqT.of (kT b3 hab), atI_nat (j := 1) hav, D, _, rfl, DPut.k (k := .inr z) std.1 (by rw [std.len]; exact Nat.lt_of_le_of_lt yf (by decide)), ?_⟩
    have std4 := std.put (y := z) (v := .int wn) (g' := gput g z (.int wn)) hzy (by unfold gput; rw [if_pos rfl]; exact .num wn hwn) (fun y hy => by unfold gput; rw [if_neg hy])
    have st4 := st3.away (o := .dK (putK (sK f ys) (.inr z) (.int wn))) saD std.1
    have b4 := b3.put (o := .dK (putK (sK f ys) (.inr z) (.int wn))) nDH
    have t4 : Tp (upd G3 D (.dK (putK (sK f ys) (.inr z) (.int wn)))) t (n + 1803) := t3.at .set (tp_dk t3 std.1)
    revert std4 st4 b4 t4
    generalize upd G3 D (.dK (putK (sK f ys) (.inr z) (.int wn))) = G4
    intro std4 st4 b4 t4
    refine ⟨_, rfl, a, _, 4, _, rfl, rfl, SqT.of (kT b4 ha), atI_nat (j := 4) rfl, _, rfl, _, _, rfl, rfl, tt, ss, ((k + 1 : Nat) : Int), _, rfl, rfl, SqT.of (kT b4 ht), atI_nat hx2, sd1, _, 0, _, rfl, rfl, SqT.of (kT b4 hsd1), atI_nat (j := 0) rfl, _, rfl, (by show 3 ≤ sizeLine; decide), fun T0 nT0 => ?_⟩
    have s5 := same_new (o := .tup [.str "on", .int s1.1, .ref D]) nT0
    have h50 : (upd G4 T0 (.tup [.str "on", .int s1.1, .ref D])) T0 = some (.tup [.str "on", .int s1.1, .ref D]) := upd_same
    have std5 := std4.same s5
    have st5 := st4.same s5
    have b5 := b4.trans (.of s5)
    have t5 := t4.same s5
    dsimp only [gName]
    revert h50 std5 st5 b5 t5
    generalize upd G4 T0 (.tup [.str "on", .int s1.1, .ref D]) = G5
    intro h50 std5 st5 b5 t5
    refine ⟨_, rfl, _, rfl, a, _, 0, _, rfl, rfl, SqT.of (kT b5 ha), atI_nat (j := 0) rfl, _, rfl, (by show 2 ≤ sizeLine; decide), fun c nc => ?_⟩
    have s6 := same_new (o := .tup [.str d.name, .int s0.1]) nc
    have b6 := b5.trans (.of s6)
    refine ⟨_, rfl, _, rfl, .ref pa, .ref c, p, d.name, s0.1, i, d, k, s0.2, s1, z, sa, wn, ys, f, g, rfl, hv0.but b6 hT, .tup upd_same (.cons .str (.cons .int .nil)), few, few2, fst, fs, hz, hk1, st5.same s6, yf, hzy, hwn, fun T D2 G7 f' s7 nT nD2 hT7 st7 => ?_⟩
    have s57 := s6.trans s7
    have std7 := std5.same s57
    have st70 := st5.same s57
    have h70 := s57 _ _ h50
    dsimp only [gName]
    refine ⟨_, rfl, _, rfl, _, _, rfl, SameW.on hsm1 (SqT.of hT7) (SqT.of h70) st7 std7 lo yfew, _, rfl, ?_⟩
    refine ite2 (fun h => nomatch h) (fun _ => ?_)
    refine ⟨_, rfl, sa, stW ys g, rfl, .inl ⟨sa, ys, f, g, rfl, st70, rfl⟩, c1, c2', c3', _, rfl, rfl, _, rfl, ?_⟩
    refine ite2 (fun h => ?_) (fun _ => ?_)
    · simp at h
    have nD25 : G5 D2 = none := none_of s6 nD2
    have b7 := b5.trans (.of s57)
    have t7 := t5.same s57
    have D2H : H D2 = none := b5.back t5 nD25
    refine ⟨_, rfl, T, _, 2, _, rfl, rfl, SqT.of hT7, atI_nat (j := 2) rfl, .inr (.inr (.inl ⟨rfl, .inl ⟨_, st7.1⟩⟩)), D2, _, rfl, rfl, st7.1, ?_⟩
    have st8 := st70.away (o := .dK []) (ne_of_none st5.1 nD25) st7.1
    have std8 := std7.away (o := .dK []) (ne_of_none std5.1 nD25) st7.1
    have h80 : (upd G7 D2 (.dK [])) T0 = some (.tup [.str "on", .int s1.1, .ref D]) := by rw [upd_ne (ne_of_none h50 nD25)]; exact h70
    have b8 := b7.put (o := .dK []) D2H
    have t8 : Tp (upd G7 D2 (.dK [])) t (n + 1803) := t7.at .set (tp_dk t7 st7.1)
    revert st8 std8 h80 b8 t8
    generalize upd G7 D2 (.dK []) = G8
    intro st8 std8 h80 b8 t8
    refine ⟨_, rfl, _, rfl, a, _, 0, _, rfl, rfl, SqT.of (kT b8 ha), atI_nat (j := 0) rfl, _, rfl, (by show 2 ≤ sizeLine; decide), fun c2 nc2 => ?_⟩
    have s9 := same_new (o := .tup [.str d.name, .int s0.1]) nc2
    have b9 := b8.trans (.of s9)
    refine ⟨_, rfl, _, rfl, .ref pa, .ref c2, p, d.name, s0.1, i, d, k, s0.2, s1, z, sa, wn, ys, f, g, rfl, hv0.but b9 hT, .tup upd_same (.cons .str (.cons .int .nil)), few, few2, fst, fs, hz, hk1, st8.same s9, yf, hzy, hwn, fun T2 D3 G10 f2 s10 nT2 nD3 hT10 st10 => ?_⟩
    have s810 := s9.trans s10
    refine ⟨_, rfl, _, _, rfl, SameW.on hsm1 (SqT.of hT10) (SqT.of (s810 _ _ h80)) st10 (std8.same s810) lo yfew, _, rfl, ?_⟩
    refine ite2 (fun _ => ?_) (fun h => absurd rfl h)
    refine ⟨_, rfl, sa, stW ys g, rfl, .inl ⟨sa, ys, f, g, rfl, st8.same s810, rfl⟩, c1, c2', c3', _, rfl, rfl, ?_⟩
    have fin := q _ (b8.trans (.of s810)) ((t8.same s810).mono (by omega))
    simpa using fin
end
end K

set_option maxRecDepth 100000
set_option maxHeartbeats 3900000
namespace K
open PySem PySem.Spec PyProof.Rows L2
/-! ### the law -/
theorem steps_lay : ∀ {l : List (Int × Ac)}, (∀ s ∈ l, AcOk s.2) → PyData.canLayAll0 (l.map stD) = true ∧ PyData.depthAll (l.map stD) ≤ 3
  | [], _ => ⟨rfl, Nat.zero_le _⟩
  | s :: l, h => by
    obtain ⟨a1, a2⟩ := steps_lay (l := l) fun x hx => h x (List.mem_cons_of_mem _ hx)
    obtain ⟨b1, b2⟩ := (h s List.mem_cons_self).shaped
    have b3 := PySem.SeqAt.canLay_of_shaped b1
    refine ⟨?_, ?_⟩
    · show ((true && (PyData.canLay0 s.2.d && true)) && PyData.canLayAll0 (l.map stD)) = true
      rw [a1, b3]
      rfl
    · show max (max 0 (max (PyData.depth s.2.d) 0) + 1) (PyData.depthAll (l.map stD)) ≤ 3
      omega
theorem Dn.lay {e : Dn} (ok : DnOk e) (tx : TxOk e.name) : PyData.canLay0 e.d = true ∧ PyData.depth e.d ≤ 5 := by
  have m : ∀ {y}, y ∈ e.params ++ e.fingers ++ e.rows → y ∈ e.every := fun h => List.mem_append_left _ h
  have l1 := lay_strs (xs := e.params) fun y hy => ok.ok y (m (List.mem_append_left _ (List.mem_append_left _ hy)))
  have l2 := lay_strs (xs := e.fingers) fun y hy => ok.ok y (m (List.mem_append_left _ (List.mem_append_right _ hy)))
  have l3 := lay_strs (xs := e.rows) fun y hy => ok.ok y (m (List.mem_append_right _ hy))
  obtain ⟨l4, d4⟩ := steps_lay ok.acts
  have d1 := depth_strs e.params
  have d2 := depth_strs e.fingers
  have d3 := depth_strs e.rows
  refine ⟨?_, ?_⟩
  · show (PyData.canLay0 (.str e.name) && (PyData.canLayAll0 (e.params.map .str) && (PyData.canLayAll0 (e.fingers.map .str) && (PyData.canLayAll0 (e.rows.map .str) && (PyData.canLayAll0 (e.steps.map stD) && true))))) = true
    rw [show PyData.canLay0 (.str e.name) = true from tx, l1, l2, l3, l4]
    rfl
  · show max 0 (max (PyData.depthAll (e.params.map .str) + 1) (max (PyData.depthAll (e.fingers.map .str) + 1) (max (PyData.depthAll (e.rows.map .str) + 1) (max (PyData.depthAll (e.steps.map stD) + 1) 0)))) + 1 ≤ 5
    omega
theorem defs_shown : ∀ {l : List Dn}, (∀ e ∈ l, DefFit e) → PyData.canLayAll0 (l.map Dn.d) = true ∧ PyData.depthAll (l.map Dn.d) ≤ 5 ∧ PyData.weightAll (l.map Dn.d) ≤ 10001 * l.length ∧ PyData.intsShortAll 13 (l.map Dn.d) = true ∧ PyData.showableAll (l.map Dn.d) = true
  | [], _ => ⟨rfl, Nat.zero_le _, Nat.le_refl _, rfl, rfl⟩
  | e :: l, h => by
    obtain ⟨b1, b2, b3, b4, b5⟩ := defs_shown (l := l) fun x hx => h x (List.mem_cons_of_mem _ hx)
    have f := h e List.mem_cons_self
    obtain ⟨a1, a2⟩ := Dn.lay f.ok f.tx
    have a3 := f.sz
    refine ⟨?_, ?_, ?_, ?_, ?_⟩
    · show (PyData.canLay0 e.d && PyData.canLayAll0 (l.map Dn.d)) = true
      rw [a1, b1]
      rfl
    · show max (PyData.depth e.d) (PyData.depthAll (l.map Dn.d)) ≤ 5
      omega
    · show PyData.weight e.d + 1 + PyData.weightAll (l.map Dn.d) ≤ _
      rw [List.length_cons]
      omega
    · show (PyData.intsShort 13 e.d && PyData.intsShortAll 13 (l.map Dn.d)) = true
      rw [f.sh, b4]
      rfl
    · show (PyData.showable e.d && PyData.showableAll (l.map Dn.d)) = true
      rw [f.sw, b5]
      rfl
theorem PgOk.shown {p : Pg} (h : PgOk p) : p.d.hasDict = false ∧ p.d.showable = true ∧ p.d.depth ≤ 30 ∧ p.d.shown.length ≤ sizeLine := by
  obtain ⟨b1, b2, b3, b4, b5⟩ := defs_shown h.fit
  have few := h.few
  have hw := h.wd.weight
  have dp : p.d.depth ≤ 7 := by
    show max 0 (max (PyData.depthAll (p.defs.map Dn.d) + 1) 0) + 1 ≤ 7
    omega
  have wt : PyData.weight p.d ≤ 2 ^ 20 := by
    show PyData.weight (.int p.wide) + 1 + (PyData.weightAll (p.defs.map Dn.d) + 1 + 0) ≤ 2 ^ 20
    omega
  have cl : PyData.canLay0 p.d = true := by
    show (true && (PyData.canLayAll0 (p.defs.map Dn.d) && true)) = true
    rw [b1]
    rfl
  have ly := lay0 (shaped_of cl (Nat.le_trans dp (by decide))) wt
  refine ⟨PyData.hasDict_of_layable ly, ?_, Nat.le_trans dp (by decide), PyData.shown_fits_of_layable0 (B := 13) (by decide) (by decide) ly ?_⟩
  · show (PyData.showable (.int p.wide) && (PyData.showableAll (p.defs.map Dn.d) && true)) = true
    rw [h.wd.sho, b5]
    rfl
  · show (PyData.intsShort 13 (.int p.wide) && (PyData.intsShortAll 13 (p.defs.map Dn.d) && true)) = true
    rw [h.wd.short, b4]
    rfl
theorem first_def {p : Pg} {i : Nat} {d : Dn} (h : p.defs[i]? = some d) (nd : (p.defs.map Dn.name).Nodup) : FirstD p d.name i d := by
  refine ⟨h, rfl, fun j e hj he k => ?_⟩
  have h1 : (p.defs.map Dn.name)[j]? = some e.name := by rw [List.getElem?_map, he]; rfl
  have h2 : (p.defs.map Dn.name)[i]? = some d.name := by rw [List.getElem?_map, h]; rfl
  obtain ⟨l1, e1⟩ := List.getElem?_eq_some_iff.mp h1
  obtain ⟨l2, e2⟩ := List.getElem?_eq_some_iff.mp h2
  have := (List.getElem_inj nd).mp (e1.trans (k.trans e2.symm))
  omega
/-- where the calls stand among the first j steps -/
def isC (d : Dn) (k : Nat) : Bool := match d.steps[k]? with
  | some s => decide (s.2.word = "call")
  | none => false
def cls (d : Dn) (j : Nat) : List Nat := (List.range j).filter (isC d)
theorem cls_yes {d : Dn} {j : Nat} (h : isC d j = true) : cls d (j + 1) = cls d j ++ [j] := by
  unfold cls
  rw [List.range_succ, List.filter_append, List.filter_cons_of_pos h]
  rfl
theorem cls_no {d : Dn} {j : Nat} (h : ¬ isC d j = true) : cls d (j + 1) = cls d j := by
  unfold cls
  rw [List.range_succ, List.filter_append, List.filter_cons_of_neg h]
  simp
theorem cls_mem {d : Dn} {j k : Nat} (h : k ∈ cls d j) : ∃ s, d.steps[k]? = some s ∧ s.2.word = ("call" : Str) := by
  have h2 := (List.mem_filter.mp h).2
  unfold isC at h2
  split at h2
  · rename_i s e
    exact ⟨s, e, of_decide_eq_true h2⟩
  · cases h2
theorem cls_len {d : Dn} {j : Nat} : (cls d j).length ≤ j := by
  have := List.length_filter_le (isC d) (List.range j)
  rwa [List.length_range] at this
section
variable {P : Program} {w : World} {K : PySem.W.Frag} {mg : Str → Option Value} {base : Heap}
abbrev s_law : Stmt := topS 38
def spLaw (K : PySem.W.Frag) : Sp := fun vs H Q _ => ∃ (a : Addr) (ns : List Int), vs = [.ref a] ∧ SqL K H a (ns.map V.int) ∧ ns.length ≤ 63 ∧ ∀ H', Q (.bl true) H'
theorem scLw : FnScope ["script", "k", "tape", "program", "kept", "one", "turn", "calls", "at", "step"] ["script"] (defScope s_law) := ⟨rfl, rfl, rfl, by decide +kernel, rfl, by decide +kernel, by decide +kernel⟩
theorem ok_law (B : Bs mg) (c_tape : C8.Cal P w K mg base 1 "_law_tape" (spTape K) []) (c_program : C8.Cal P w K mg base 7 "_law_program" (spProg K) []) (c_begins : CalG P w K mg base 5 "_law_begins" spBegins) (c_goes_behind : CalG P w K mg base 5 "_law_goes_behind" spGoes)
    {f : Addr} {fd : FuncData} (F : Fun K "law" "law" s_law f fd) : FnG P w K mg base CX0 8 f fd ["script"] (spLaw K) := by
  refine F.okG scLw (fun vs H Q E h => ?_) (fun cdv A outer s H vs Q E hg hr h => ?_)
  · obtain ⟨a, ns, rfl, _⟩ := h
    rfl
  · obtain ⟨a, ns, rfl, hS, hl, q⟩ := h
    have hrp := fun (X : Cx) (e : X.A = A.deeper (envOfC "law" (defScope s_law) s.heap.objs.size f cdv)) => call_repD (X := X) (by rw [e]; exact hg) (by rw [e]; exact hr.units)
    refine ⟨_, (pss_cons (ps_for PassesOwn.never rfl (pi_range1 (by rfl) B.range (pa_cons (pe_callB (call_max2 rfl) (by rfl) B.max PyProof.Rows.boot_max (pa_cons pe_int (pa_cons (pe_callB (call_min2 rfl) (by rfl) B.min PyProof.Rows.boot_min (pa_cons pe_int (pa_cons (pe_callB call_len_seq (by rfl) B.len PySem.boot_len (pa_cons (pv 0) pa_nil)) pa_nil))) pa_nil))) pa_nil)) (pg_name (i := 1) scLw.nd rfl (.inl rfl))
      (pss_cons (ps_set (i := 2) scLw.nd rfl (.inr rfl) (C8.pe_c c_tape hr (by decide) (by rfl) (pa_cons (pv 0) (pa_cons (pv 1) pa_nil))))
      (pss_cons (ps_set (i := 3) scLw.nd rfl (.inr rfl) (C8.pe_c c_program hr (by decide) (by rfl) (pa_cons (pv 2) (pa_cons (pe_lst (pa_cons pe_int (pa_cons pe_int (pa_cons pe_int (pa_cons pe_int (pa_cons pe_int pa_nil)))))) pa_nil))))
      (pss_cons (ps_set (i := 4) scLw.nd rfl (.inl rfl) (pe_callB (hrp _ rfl) (by rfl) B.repr PyProof.Rows.boot_repr (pa_cons (pv 3) pa_nil)))
      (pss_cons (ps_for PassesOwn.never rfl (pi_tup (pe_ix (ixT K rfl) (pv 3) pe_int (fun _ _ => rfl))) (pg_name (i := 5) scLw.nd rfl (.inr rfl))
      (pss_one (ps_for PassesOwn.never rfl (pi_range1 (by rfl) B.range (pa_cons pe_int pa_nil)) (pg_name (i := 6) scLw.nd rfl (.inl rfl))
      (pss_cons (ps_if (pt_not (pt_val (pe_cG c_begins hg hr (by decide) (by rfl) (pa_cons (pv 2) (pa_cons (pv 3) (pa_cons (pv 5) pa_nil)))))) (pss_one (ps_ret pe_bl)) pss_nil)
      (pss_cons (ps_setLc (i := 7) (own := [("at", 8), ("step", 9)]) (g := gTup K 2 (gCons (gName 8) (gCons (gName 9) gNil))) (by rfl) scLw.nd rfl rfl (sw_true rfl rfl rfl (by decide +kernel)) (Zm.pi_enumM true (by rfl) B.enumerate (pa_cons (pe_ix (ixT K rfl) (pv 5) pe_int (fun _ _ => rfl)) pa_nil)) (blkOk_by (own := [("at", 8), ("step", 9)]) (N := ["script", "k", "tape", "program", "kept", "one", "turn", "calls", "at", "step"]) (sc := defScope s_law) (by decide +kernel)) (fun _ _ _ _ _ => (pg_tup (n := 2) rfl (pgs_cons (pg_name (i := 8) scLw.nd rfl (.inl rfl) (hf := .inr rfl)) (pgs_cons (pg_name (i := 9) scLw.nd rfl (.inl rfl) (hf := .inr rfl)) pgs_nil)))) (fun _ _ _ _ _ => pts_one (pt_cmpR op_eq (pe_ix (ixT K rfl) (pe_ix (ixT K rfl) (pv 9) pe_int (fun _ _ => rfl)) pe_int (fun _ _ => rfl)) pe_str (nomark _))) (fun _ _ _ _ _ => (pv 8)))
      (pss_one (ps_if (pt_cmpR (op_neD hr.units) (pe_lc (own := [("at", 8)]) (g := gName 8) (by rfl) scLw.nd (pi_list (pv 7)) (blkOk_by (own := [("at", 8)]) (N := ["script", "k", "tape", "program", "kept", "one", "turn", "calls", "at", "step"]) (sc := defScope s_law) (by decide +kernel)) (fun _ _ _ _ _ => (pg_name (i := 8) scLw.nd rfl (.inl rfl) (hf := .inr rfl))) (fun _ _ _ _ _ => pts_one (pt_not (pt_val (pe_cG c_goes_behind hg hr (by decide) (by rfl) (pa_cons (pv 2) (pa_cons (pv 3) (pa_cons (pv 5) (pa_cons (pv 8) pa_nil)))))))) (fun _ _ _ _ _ => (pv 8))) (pe_lst pa_nil) (nomark _)) (pss_one (ps_ret pe_bl)) pss_nil)))))))
      (pss_one (ps_if (pt_cmpR op_ne (pe_callB (hrp _ rfl) (by rfl) B.repr PyProof.Rows.boot_repr (pa_cons (pv 3) pa_nil)) (pv 4) (nomark _)) (pss_one (ps_ret pe_bl)) pss_nil)))))))
      (pss_one (ps_ret pe_bl))), ?_⟩
    refine ⟨_, rfl, a, _, rfl, .inl hS, _, _, rfl, _, _, rfl, ?_⟩
    obtain ⟨top, et⟩ : ∃ top : Int, top = (if (if ((ns.map V.int).length : Int) < 4 then ((ns.map V.int).length : Int) else 4) > 2 then (if ((ns.map V.int).length : Int) < 4 then ((ns.map V.int).length : Int) else 4) else 2) := ⟨_, rfl⟩
    have b0 : 0 ≤ top ∧ top ≤ 4 := by rw [et]; split <;> (try split) <;> omega
    refine ⟨top, by rw [et], by omega, by omega, for_range (lo := 0) (n := top.toNat) (fun i σ H' => ∃ y1 y2 y3 y4 y5 y6 y7 : Option V, σ = [some (.ref a), y1, y2, y3, y4, y5, y6, y7, none, none] ∧ Same H H')
      ⟨_, _, _, _, _, _, _, rfl, Same.refl H⟩ ?_ (fun σ H' _ => q H')⟩
    rintro i σ H' hi ⟨y1, y2, y3, y4, y5, y6, y7, rfl, sm⟩
    refine ⟨_, rfl, _, rfl, a, ns, i, by rw [Int.zero_add]; rfl, sm.seq hS, hl, by omega, fun t H1 s1 n1 hT1 => ?_⟩
    refine ⟨_, rfl, (by show 5 ≤ sizeLine; decide), fun u nu => ?_⟩
    have su := same_new (o := .lst (([1, 2, 3, 6, 31] : List Int).map V.int)) nu
    refine ⟨t, u, 0, [1, 2, 3, 6, 31], rfl, hT1.same su, by decide, SqL.of upd_same, hT1.ne nu, by decide, by decide, by decide, fun pg v G1 pok him hTb bb => ?_⟩
    have bG : But t H1 G1 := (But.of su).trans bb
    have sG1 : Same H' G1 := same_but s1 n1 bG
    clear su nu bb
    obtain ⟨sh1, sh2, sh3, sh4⟩ := pok.shown
    have him0 := him
    obtain ⟨pa, pt, ds, rfl, hpa, hpt, hds⟩ := Pg.at him
    dsimp only [gName]
    refine ⟨_, rfl, pa, _, rfl, Im.dp _ _ him0, sh1, sh2, sh3, sh4, ?_⟩
    have dsl := hds.length
    rw [List.length_map] at dsl
    have few := pok.few
    have kT : ∀ {G : Hp} {b : Addr} {xs : List V}, But t G1 G → G1 b = some (.tup xs) → G b = some (.tup xs) := fun {G b xs} k e => keep_but k hTb _ _ e
    dsimp only [gName]
    refine ⟨_, rfl, pa, _, 1, _, rfl, rfl, SqT.of hpa, atI_nat (j := 1) rfl, pt, rfl, ⟨_, SqT.of hpt⟩, for_it (walk_tup (K := K) (a := pt) (xs := ds)) (fun j σ G => ∃ z1 z5 z6 z7 : Option V, σ = [some (.ref a), z1, some (.ref t), some (.ref pa), some (.str pg.d.shown), z5, z6, z7, none, none] ∧ Tp G t (10000 + 90000 * j) ∧ But t G1 G)
      ⟨_, _, _, _, rfl, hTb.mono (by omega), .refl⟩ (fun j σ G _ ⟨_, _, _, _, _, _, k⟩ => SqT.of (kT k hpt)) ?_ ?_⟩
    · rintro j x σ Gz G hj ⟨z1, z5, z6, z7, rfl, tG, bj⟩ ⟨rfl, hx⟩
      obtain ⟨dd, hd1, hx1⟩ := hds.getv hx
      obtain ⟨d, hd, rfl⟩ := map_at hd1
      have fit := pok.fit d (List.mem_of_getElem? hd)
      have fst := first_def hd pok.nd
      have hj3 : j < 3 := by omega
      have hx0 := hx1
      obtain ⟨da, pp, fp, rp, tt, ss, rfl, ha, hp, hf, hrr, ht, hss⟩ := Dn.at hx1
      have ssl := hss.length
      rw [List.length_map] at ssl
      have sfew := fit.few
      refine ⟨3, rfl, by decide, by decide, for_range (lo := 0) (n := 3) (fun r σ G => ∃ z6 z7 : Option V, σ = [some (.ref a), z1, some (.ref t), some (.ref pa), some (.str pg.d.shown), some (.ref da), z6, z7, none, none] ∧ Tp G t (10000 + 90000 * j + 30000 * r) ∧ But t G1 G)
        ⟨_, _, rfl, tG.mono (by omega), bj⟩ ?_ (fun σ G ⟨z6, z7, e, k1, k2⟩ => ⟨_, _, _, _, e, k1.mono (by omega), k2⟩)⟩
      rintro r σ G2 hr3 ⟨z6, z7, rfl, tr, br⟩
      refine ⟨_, rfl, _, rfl, _, rfl, t, _, .ref pa, .ref da, pg, j, d, rfl, tr, by omega, him0.but br hTb, pok, hx0.but br hTb, fst, fit, fun G3 b3 t3 => ?_⟩
      refine ⟨_, rfl, ?_⟩
      refine ite2 (fun h => nomatch h) (fun _ => ?_)
      have br3 := br.trans b3
      refine ⟨_, rfl, da, _, 4, _, rfl, rfl, SqT.of (kT br3 ha), atI_nat (j := 4) rfl, tt, ss, rfl, SqT.of (kT br3 ht), fun D hD => ?_⟩
      refine lc_w (Zm.walkE (K := K) (m := true) (a := tt) (xs := ss)) (fun _ => False) (fun j acc G => acc = (cls d j).map fun k => V.int (k : Nat)) id hD (Nat.lt_of_le_of_lt (show ss.length ≤ 12 by omega) (by decide)) (fun j acc G G' h _ => h) rfl (fun j acc G _ b _ => SqT.of (Bt.same b _ _ (kT br3 ht))) ?_ ?_
      · rintro m acc x Ga Gb hm hb rfl hA hal ⟨T, kv, pv, rfl, nT, rfl, hk1, hp1⟩ N N0 q1 q0
        obtain rfl := Option.some.inj hk1
        obtain ⟨de, he1, hy1⟩ := hss.getv hp1
        obtain ⟨st, hst, rfl⟩ := map_at he1
        obtain ⟨sa, su, rfl, hsa, hsu⟩ := st_at hy1
        unfold Ac.d Im at hsu
        obtain ⟨ab, avs, rfl, hab, hav⟩ := hsu
        unfold ImAll at hav
        obtain ⟨wv, avs, rfl, hwv, _⟩ := hav
        unfold Im at hwv
        subst hwv
        have sT := same_new (o := .tup [.int (m : Nat), .ref sa]) nT
        have sAll : ∀ {b : Addr} {xs : List V}, G1 b = some (.tup xs) → (upd Ga T (.tup [.int (m : Nat), .ref sa])) b = some (.tup xs) := fun e => sT _ _ (Bt.same hb _ _ (kT br3 e))
        refine ⟨T, _, rfl, SqT.of upd_same, rfl, _, _, rfl, _, _, rfl, rfl, rfl, ?_⟩
        have ec : isC d m = decide (st.2.word = ("call" : Str)) := by unfold isC; rw [hst]
        refine ⟨_, rfl, sa, _, 1, _, rfl, rfl, SqT.of (sAll hsa), atI_nat (j := 1) rfl, ab, _, 0, _, rfl, rfl, SqT.of (sAll hab), atI_nat (j := 0) rfl, rfl, _, rfl, ?_⟩
        refine ite2 (fun h => ?_) (fun h => ?_)
        · have hw : st.2.word = "call" := V.str.inj (of_decide_eq_true h)
          refine ⟨_, rfl, q1 _ _ (.new nT) ?_⟩
          rw [cls_yes (by rw [ec]; exact decide_eq_true hw), List.map_append]
          rfl
        · have hw : st.2.word ≠ "call" := fun e => h (decide_eq_true (by rw [e]))
          refine q0 _ (.new nT) ?_
          rw [cls_no (by rw [ec]; exact fun e => hw (of_decide_eq_true e))]
      · rintro acc G4 hb4 hA hal rfl
        have s34 : Same G3 G4 := Bt.same hb4
        have b4 := br3.trans (.of s34)
        have t4 := t3.same s34
        have tD := t3.ne' hD
        dsimp only [gName]
        have cl := cls_len (d := d) (j := ss.length)
        obtain ⟨cs, ecs⟩ : ∃ cs, cs = cls d ss.length := ⟨_, rfl⟩
        have cmem : ∀ k ∈ cs, ∃ s, d.steps[k]? = some s ∧ s.2.word = ("call" : Str) := fun k hk => cls_mem (ecs ▸ hk)
        rw [← ecs] at hA cl
        clear ecs hal hb4 hD
        refine ⟨_, rfl, D, rfl, ⟨_, SqL.of hA⟩, fun D2 hD2 => ?_⟩
        have tD2 := t4.ne' hD2
        have DD2 : D ≠ D2 := ne_of_none hA hD2
        refine lc_w (walk_list (K := K) (a := D) (xs := cs.map fun k => V.int (k : Nat))) (fun x => x = t) (fun m acc G => acc = [] ∧ Tp G t (10000 + 90000 * j + 30000 * r + 1900 + 1900 * m) ∧ But t G4 G) (fun z => tD2 z.symm) hD2 (by rw [List.length_map]; exact Nat.lt_of_le_of_lt (show cs.length ≤ 12 by omega) (by decide))
          (fun m acc G G' ⟨g1, g2, g3⟩ k => ⟨g1, g2.at k tD2, fun y o e ny => k _ _ (g3 y o e ny) (ne_of_none e hD2)⟩) ⟨rfl, t4.mono (by omega), .refl⟩ (fun m acc G _ _ g => SqL.of (g.2.2 _ _ hA tD.symm)) ?_ ?_
        · rintro m acc x Ga Gb hm hb ⟨rfl, g1, g2⟩ hA2 hal ⟨rfl, hx⟩ N N0 q1 q0
          rw [List.length_map] at hm
          obtain ⟨k, hk, rfl⟩ := map_at hx
          obtain ⟨st, hst, hw⟩ := cmem k (List.mem_of_getElem? hk)
          have b5 := b4.trans g2
          refine ⟨rfl, ?_⟩
          refine ⟨_, rfl, _, rfl, _, rfl, _, rfl, t, _, .ref pa, .ref da, pg, j, d, k, st, rfl, g1, by omega, him0.but b5 hTb, pok, hx0.but b5 hTb, fst, fit, hst, hw, fit.sm st (List.mem_of_getElem? hst), fit.sm, fun G6 b6 t6 => ?_⟩
          refine ⟨_, rfl, ?_⟩
          exact iteF (q0 _ (fun x o e nx => b6 x o e nx) ⟨rfl, t6.mono (by omega), g2.trans b6⟩)
        · rintro acc G6 hb6 hA6 hal6 ⟨rfl, g1, g2⟩
          rw [List.length_map] at g1
          refine ⟨(by show 0 ≤ sizeLine; decide), fun m nm => ?_⟩
          have s7 := same_new (o := .lst []) nm
          refine ⟨.list [], .list [], .lst (SqL.of (s7 _ _ hA6)) .nil, .lst (SqL.of upd_same) .nil, rfl, rfl, _, rfl, ?_⟩
          refine iteF ?_
          exact ⟨_, _, rfl, (g1.same s7).mono (by omega), (b4.trans g2).trans (.of s7)⟩
    · rintro σ G ⟨z1, z5, z6, z7, rfl, tG, bj⟩
      refine ⟨_, rfl, pa, _, rfl, Im.dp _ _ (him0.but bj hTb), sh1, sh2, sh3, sh4, _, rfl, rfl, _, rfl, ?_⟩
      refine ite2 (fun h => ?_) (fun _ => ?_)
      · simp at h
      · exact ⟨_, _, _, _, _, _, _, rfl, sm.trans (same_but s1 n1 (bG.trans bj))⟩
end
end K

set_option maxRecDepth 100000
set_option maxHeartbeats 3900000
namespace K
open PySem PySem.Spec PyProof.Rows L2
/-! ### out of the written part's answers -/
structure So (K : PySem.W.Frag) (aS : Addr) (wd : Str) (ks : List Str) : Prop where
  ex : ∃ (a : Addr) (o : Obj) (its : Array Value) (n : Nat), PySem.W.nsIn K aS wd = some (some (.ref a)) ∧ K.lookup a = some o ∧ o.cls = .type "tuple" ∧ o.data = .seq its n ∧ its.size ≤ sizeLine ∧ Vals ((ks.map ren).map V.str) its.toList
theorem so_mk {K : PySem.W.Frag} {aS a : Addr} {wd : Str} {ks : List Str} {oc : Value} {od : Option Addr} {its : Array Value} {n : Nat} {osl : Array (Option Value)} (rs : List Str) (hr : ks.map ren = rs) (h1 : PySem.W.nsIn K aS wd = some (some (.ref a))) (h2 : K.lookup a = some ⟨oc, od, .seq its n, osl⟩) (h3 : oc = .type "tuple") (h5 : its.size ≤ 10) (h6 : Vals (rs.map V.str) its.toList) : So K aS wd ks :=
  ⟨a, _, its, n, h1, h2, h3, rfl, Nat.le_trans h5 (by decide), by rw [hr]; exact h6⟩
theorem def_mk {K : PySem.W.Frag} {x qual : Str} {st : Stmt} {f T e : Addr} {oc oc2 : Value} {od od2 an : Option Addr} {osl osl2 : Array (Option Value)} {kV doc pm cdv ct : Value} {n : Nat} (l : K.lookup f = some ⟨oc, od, .func (PySem.W.fnOf x qual (defArgs st) (defBody st) (defScope st) (.ref T) kV doc pm an cdv ct), osl⟩)
    (c : PySem.W.codeIn K cdv qual = true) (k : PySem.W.keepIn K (.ref f) = true) (lT : K.lookup T = some ⟨oc2, od2, .seq #[.ref e] n, osl2⟩) : FunD K x qual (defArgs st) (defBody st) (defScope st) [.ref e] [] f (PySem.W.fnOf x qual (defArgs st) (defBody st) (defScope st) (.ref T) kV doc pm an cdv ct) :=
  ⟨⟨oc, od, .ref T, kV, doc, pm, an, cdv, ct, osl, rfl, l, c, .inr ⟨by simp, T, _, [.ref e], n, rfl, lT, rfl, .cons rfl .nil⟩, .inl rfl⟩, k⟩
theorem e0_mk {K : PySem.W.Frag} {e : Addr} {oc : Value} {od : Option Addr} {n : Nat} {osl : Array (Option Value)} (l : K.lookup e = some ⟨oc, od, .seq #[] n, osl⟩) (c : oc = .type "tuple") : ∀ H : Hp, SqT K H e [] := fun H => .inr ⟨_, #[], n, l, c, rfl, by decide, .nil⟩
theorem sorts_mk {K : PySem.W.Frag} {w : World} {mg : Str → Option Value} {h : Heap} {aS : Addr} {es : Array DictEntry} {n : Nat} (X : K.In h) (G : h.Ns mainGlobals mg) (hS : PySem.W.nsIn K mainGlobals "SORTS" = some (some (.ref aS)))
    (lS : K.lookup aS = some ⟨.type "dict", none, .dict es n, #[]⟩) (kS : PySem.W.KeysLit w.params es.toList) (S : ∀ e ∈ kTab, So K aS e.1 e.2) : Sorts K w mg := by
  refine ⟨aS, PySem.W.mg_of X G hS, fun wd ks hk => ?_⟩
  obtain ⟨a, o, its, m, h1, h2, h3, h4, h5, h6⟩ := (S _ (kinds_mem hk)).ex
  exact ⟨a, ⟨es, n, .ref a, lS, kS, h1, rfl⟩, fun H => .inr ⟨o, its, m, h2, h3, h4, h5, h6⟩⟩
theorem so_all {K : PySem.W.Frag} {aS : Addr} (h0 : So K aS "set" ["number", "word"]) (h1 : So K aS "add" ["number", "number", "word"]) (h2 : So K aS "plus" ["plain", "plain", "plain"]) (h3 : So K aS "minus" ["plain", "plain", "plain"]) (h4 : So K aS "times" ["plain", "plain", "plain"]) (h5 : So K aS "over" ["plain", "plain", "plain"]) (h6 : So K aS "rest" ["plain", "plain", "plain"]) (h7 : So K aS "mid" ["number", "number", "number"]) (h8 : So K aS "row" ["row", "number"]) (h9 : So K aS "get" ["plain", "row", "number"]) (h10 : So K aS "put" ["row", "number", "number"]) (h11 : So K aS "length" ["number", "row"]) (h12 : So K aS "ask" ["plain", "word", "word"]) (h13 : So K aS "tell" ["number"]) (h14 : So K aS "check" ["side", "sign", "side"]) (h15 : So K aS "if" ["side", "sign", "side", "label"]) (h16 : So K aS "go" ["label"]) (h17 : So K aS "call" ["plain", "def", "names"]) (h18 : So K aS "back" ["number"]) : ∀ e ∈ kTab, So K aS e.1 e.2 := by
  intro e he
  unfold kTab at he
  simp only [List.mem_cons, List.not_mem_nil, or_false] at he
  rcases he with rfl | rfl | rfl | rfl | rfl | rfl | rfl | rfl | rfl | rfl | rfl | rfl | rfl | rfl | rfl | rfl | rfl | rfl | rfl
  · exact h0
  · exact h1
  · exact h2
  · exact h3
  · exact h4
  · exact h5
  · exact h6
  · exact h7
  · exact h8
  · exact h9
  · exact h10
  · exact h11
  · exact h12
  · exact h13
  · exact h14
  · exact h15
  · exact h16
  · exact h17
  · exact h18
theorem all_mk {P : Program} {K : PySem.W.Frag} {h : Heap} {mg : Str → Option Value} {w : World} {fa fL : Addr} {fdL : FuncData} {ftp fdr fpk faw ffr fhd fkd fni fnf fda fnb faa fnp ffi fpa fca fac fdd fpg fld fan ffs fas fbh fsa fbe fgo fbg e0 : Addr} {fdtp fddr fdpk fdaw fdfr fdhd fdkd fdni fdnf fdda fdnb fdaa fdnp fdfi fdpa fdca fdac fddd fdpg fdld fdan fdfs fdas fdbh fdsa fdbe fdgo fdbg : FuncData} (X : K.In h) (G : h.Ns mainGlobals mg) (hfa : mg "law" = some (.ref fa)) (SO : Sorts K w mg)
    (blen : PySem.W.nsIn K mainGlobals "len" = some none) (brange : PySem.W.nsIn K mainGlobals "range" = some none) (blist : PySem.W.nsIn K mainGlobals "list" = some none) (btuple : PySem.W.nsIn K mainGlobals "tuple" = some none) (bint : PySem.W.nsIn K mainGlobals "int" = some none) (bstr : PySem.W.nsIn K mainGlobals "str" = some none) (bisinstance : PySem.W.nsIn K mainGlobals "isinstance" = some none) (bsorted : PySem.W.nsIn K mainGlobals "sorted" = some none) (bset : PySem.W.nsIn K mainGlobals "set" = some none) (bzip : PySem.W.nsIn K mainGlobals "zip" = some none) (benumerate : PySem.W.nsIn K mainGlobals "enumerate" = some none) (brepr : PySem.W.nsIn K mainGlobals "repr" = some none) (bmin : PySem.W.nsIn K mainGlobals "min" = some none) (bmax : PySem.W.nsIn K mainGlobals "max" = some none) (bdict : PySem.W.nsIn K mainGlobals "dict" = some none)
    (atp : PySem.W.nsIn K mainGlobals "_law_tape" = some (some (.ref ftp))) (Ftp : Fun K "_law_tape" "_law_tape" sTape ftp fdtp)
    (adr : PySem.W.nsIn K mainGlobals "_law_draw" = some (some (.ref fdr))) (Fdr : Fun K "_law_draw" "_law_draw" sDraw fdr fddr)
    (apk : PySem.W.nsIn K mainGlobals "_law_pick" = some (some (.ref fpk))) (Fpk : Fun K "_law_pick" "_law_pick" sPick fpk fdpk)
    (aaw : PySem.W.nsIn K mainGlobals "_law_a_word" = some (some (.ref faw))) (Faw : Fun K "_law_a_word" "_law_a_word" s_law_a_word faw fdaw)
    (afr : PySem.W.nsIn K mainGlobals "_law_fresh" = some (some (.ref ffr))) (Ffr : Fun K "_law_fresh" "_law_fresh" s_law_fresh ffr fdfr)
    (ahd : PySem.W.nsIn K mainGlobals "_law_head" = some (some (.ref fhd))) (Fhd : Fun K "_law_head" "_law_head" s_law_head fhd fdhd)
    (akd : PySem.W.nsIn K mainGlobals "_law_kinds" = some (some (.ref fkd))) (Fkd : Fun K "_law_kinds" "_law_kinds" s_law_kinds fkd fdkd)
    (ani : PySem.W.nsIn K mainGlobals "names_in" = some (some (.ref fni))) (Fni : Fun K "names_in" "names_in" s_names_in fni fdni)
    (anf : PySem.W.nsIn K mainGlobals "names_of" = some (some (.ref fnf))) (Fnf : Fun K "names_of" "names_of" s_names_of fnf fdnf)
    (ada : PySem.W.nsIn K mainGlobals "def_at" = some (some (.ref fda))) (Fda : Fun K "def_at" "def_at" s_def_at fda fdda)
    (anb : PySem.W.nsIn K mainGlobals "_number_of" = some (some (.ref fnb))) (Fnb : Fun K "_number_of" "_number_of" s_number_of fnb fdnb)
    (aaa : PySem.W.nsIn K mainGlobals "act_at" = some (some (.ref faa))) (Faa : Fun K "act_at" "act_at" s_act_at faa fdaa)
    (anp : PySem.W.nsIn K mainGlobals "next_place" = some (some (.ref fnp))) (Fnp : Fun K "next_place" "next_place" s_next_place fnp fdnp)
    (afi : PySem.W.nsIn K mainGlobals "_law_fits" = some (some (.ref ffi))) (Ffi : Fun K "_law_fits" "_law_fits" s_law_fits ffi fdfi)
    (apa : PySem.W.nsIn K mainGlobals "_law_drawn_part" = some (some (.ref fpa))) (Fpa : Fun K "_law_drawn_part" "_law_drawn_part" s_law_drawn_part fpa fdpa)
    (aca : PySem.W.nsIn K mainGlobals "_law_drawn_call" = some (some (.ref fca))) (Fca : Fun K "_law_drawn_call" "_law_drawn_call" s_law_drawn_call fca fdca)
    (aac : PySem.W.nsIn K mainGlobals "_law_drawn_act" = some (some (.ref fac))) (Fac : Fun K "_law_drawn_act" "_law_drawn_act" s_law_drawn_act fac fdac)
    (add : PySem.W.nsIn K mainGlobals "_law_drawn_def" = some (some (.ref fdd))) (Fdd : Fun K "_law_drawn_def" "_law_drawn_def" s_law_drawn_def fdd fddd)
    (apg : PySem.W.nsIn K mainGlobals "_law_program" = some (some (.ref fpg))) (Fpg : Fun K "_law_program" "_law_program" s_law_program fpg fdpg)
    (ald : PySem.W.nsIn K mainGlobals "_law_def" = some (some (.ref fld))) (Fld : Fun K "_law_def" "_law_def" s_law_def fld fdld)
    (aan : PySem.W.nsIn K mainGlobals "_law_all_names" = some (some (.ref fan))) (Fan : Fun K "_law_all_names" "_law_all_names" s_law_all_names fan fdan)
    (afs : PySem.W.nsIn K mainGlobals "_law_first_state" = some (some (.ref ffs))) (Ffs : Fun K "_law_first_state" "_law_first_state" s_law_first_state ffs fdfs)
    (aas : PySem.W.nsIn K mainGlobals "_law_a_state" = some (some (.ref fas))) (Fas : Fun K "_law_a_state" "_law_a_state" s_law_a_state fas fdas)
    (abh : PySem.W.nsIn K mainGlobals "behind" = some (some (.ref fbh))) (Fbh : Fun K "behind" "behind" s_behind fbh fdbh)
    (asa : PySem.W.nsIn K mainGlobals "_law_same" = some (some (.ref fsa))) (Fsa : Fun K "_law_same" "_law_same" s_law_same fsa fdsa)
    (abe : PySem.W.nsIn K mainGlobals "_law_begins" = some (some (.ref fbe))) (Fbe : Fun K "_law_begins" "_law_begins" s_law_begins fbe fdbe)
    (ago : PySem.W.nsIn K mainGlobals "_law_goes_behind" = some (some (.ref fgo))) (Fgo : Fun K "_law_goes_behind" "_law_goes_behind" s_law_goes_behind fgo fdgo)
    (abg : PySem.W.nsIn K mainGlobals "beginning" = some (some (.ref fbg))) (Fbg : FunD K "beginning" "beginning" (defArgs s_beginning) (defBody s_beginning) (defScope s_beginning) [.ref e0] [] fbg fdbg) (E0 : ∀ H : Hp, SqT K H e0 [])
    (aL : PySem.W.nsIn K mainGlobals "law" = some (some (.ref fL))) (FL : Fun K "law" "law" s_law fL fdL) :
    ∃ fd : FuncData, (∀ (s : Shared) (u : Value), BindsTo s fd ⟨[u], []⟩ [("script", u)]) ∧ ∀ base : Heap, K.In base → base.Ns mainGlobals mg → FnG P w K mg base CX0 8 fa fd ["script"] (spLaw K) := by
  have e := hfa.symm.trans (PySem.W.mg_of X G aL)
  cases e
  have g := fun {y : Str} {v : Value} (e : PySem.W.nsIn K mainGlobals y = some (some v)) => PySem.W.mg_of X G e
  have o := fun {y : Str} (e : PySem.W.nsIn K mainGlobals y = some none) => PySem.W.mg_none_of X G e
  have B : Bs mg := ⟨o blen, o brange, o blist, o btuple, o bint, o bstr, o bisinstance, o bsorted, o bset, o bzip, o benumerate, o brepr, o bmin, o bmax⟩
  refine ⟨fdL, fun s u => ?_, fun base _ _ => ?_⟩
  · obtain ⟨_, _, _, _, _, _, _, _, _, rfl, _, _⟩ := FL.ex
    exact .of_eq rfl
  have c_tp := Df.cal (P := P) (w := w) (base := base) ⟨Ftp, g atp, Ftp.binds fun _ _ _ _ _ _ us hl => match us, hl with | [_, _], _ => rfl⟩ (ok_tape Ftp B.len)
  have c_dr := Df.cal (P := P) (w := w) (base := base) ⟨Fdr, g adr, Fdr.binds fun _ _ _ _ _ _ us hl => match us, hl with | [_, _], _ => rfl⟩ (ok_draw Fdr)
  have c_pk := Df.cal (P := P) (w := w) (base := base) ⟨Fpk, g apk, Fpk.binds fun _ _ _ _ _ _ us hl => match us, hl with | [_, _], _ => rfl⟩ (ok_pick B c_dr Fpk)
  have c_aw := Df.cal (P := P) (w := w) (base := base) ⟨Faw, g aaw, Faw.binds fun _ _ _ _ _ _ us hl => match us, hl with | [_, _], _ => rfl⟩ (ok_word B c_dr c_pk Faw)
  have c_fr := Df.cal (P := P) (w := w) (base := base) ⟨Ffr, g afr, Ffr.binds fun _ _ _ _ _ _ us hl => match us, hl with | [_, _], _ => rfl⟩ (ok_fresh B c_dr Ffr)
  have c_hd := Df.cal (P := P) (w := w) (base := base) ⟨Fhd, g ahd, Fhd.binds fun _ _ _ _ _ _ us hl => match us, hl with | [_, _], _ => rfl⟩ (ok_head B c_dr c_fr Fhd)
  have c_kd := Df.cal (P := P) (w := w) (base := base) ⟨Fkd, g akd, Fkd.binds fun _ _ _ _ _ _ us hl => match us, hl with | [_], _ => rfl⟩ (ok_kinds B Fkd)
  have c_ni := Df.cal (P := P) (w := w) (base := base) ⟨Fni, g ani, Fni.binds fun _ _ _ _ _ _ us hl => match us, hl with | [_], _ => rfl⟩ (ok_names_in B SO Fni)
  have c_nf := Df.cal (P := P) (w := w) (base := base) ⟨Fnf, g anf, Fnf.binds fun _ _ _ _ _ _ us hl => match us, hl with | [_], _ => rfl⟩ (ok_names_of B c_ni Fnf)
  have c_da := Df.cal (P := P) (w := w) (base := base) ⟨Fda, g ada, Fda.binds fun _ _ _ _ _ _ us hl => match us, hl with | [_, _], _ => rfl⟩ (ok_def_at Fda)
  have c_nb := Df.cal (P := P) (w := w) (base := base) ⟨Fnb, g anb, Fnb.binds fun _ _ _ _ _ _ us hl => match us, hl with | [_, _], _ => rfl⟩ (ok_number_of Fnb)
  have c_aa := Df.cal (P := P) (w := w) (base := base) ⟨Faa, g aaa, Faa.binds fun _ _ _ _ _ _ us hl => match us, hl with | [_, _], _ => rfl⟩ (ok_act_at c_da c_nb Faa)
  have c_np := Df.cal (P := P) (w := w) (base := base) ⟨Fnp, g anp, Fnp.binds fun _ _ _ _ _ _ us hl => match us, hl with | [_, _], _ => rfl⟩ (ok_next_place B c_da c_nb Fnp)
  have c_fi := Df.cal (P := P) (w := w) (base := base) ⟨Ffi, g afi, Ffi.binds fun _ _ _ _ _ _ us hl => match us, hl with | [_, _, _, _], _ => rfl⟩ (ok_fits B Ffi)
  have c_pa := Df.cal (P := P) (w := w) (base := base) ⟨Fpa, g apa, Fpa.binds fun _ _ _ _ _ _ us hl => match us, hl with | [_, _, _, _], _ => rfl⟩ (ok_part B c_dr c_pk c_aw Fpa)
  have c_ca := Df.cal (P := P) (w := w) (base := base) ⟨Fca, g aca, Fca.binds fun _ _ _ _ _ _ us hl => match us, hl with | [_, _, _], _ => rfl⟩ (ok_drawn_call B c_pk c_fi Fca)
  have c_ac := Df.cal (P := P) (w := w) (base := base) ⟨Fac, g aac, Fac.binds fun _ _ _ _ _ _ us hl => match us, hl with | [_, _, _, _], _ => rfl⟩ (ok_drawn_act B c_pk c_aw c_kd c_pa c_ca Fac)
  have c_dd := Df.cal (P := P) (w := w) (base := base) ⟨Fdd, g add, Fdd.binds fun _ _ _ _ _ _ us hl => match us, hl with | [_, _, _, _], _ => rfl⟩ (ok_drawn_def B c_dr c_pk c_ac Fdd)
  have c_pg := Df.cal (P := P) (w := w) (base := base) ⟨Fpg, g apg, Fpg.binds fun _ _ _ _ _ _ us hl => match us, hl with | [_, _], _ => rfl⟩ (ok_program B c_dr c_pk c_fr c_hd c_dd Fpg)
  have c_ld := Df.cal (P := P) (w := w) (base := base) ⟨Fld, g ald, Fld.binds fun _ _ _ _ _ _ us hl => match us, hl with | [_, _], _ => rfl⟩ (ok_law_def Fld)
  have c_an := Df.cal (P := P) (w := w) (base := base) ⟨Fan, g aan, Fan.binds fun _ _ _ _ _ _ us hl => match us, hl with | [_], _ => rfl⟩ (ok_all_names B Fan)
  have c_fs := Df.cal (P := P) (w := w) (base := base) ⟨Ffs, g afs, Ffs.binds fun _ _ _ _ _ _ us hl => match us, hl with | [_, _, _], _ => rfl⟩ (ok_first_state B c_ld c_an Ffs)
  have c_as := Df.cal (P := P) (w := w) (base := base) ⟨Fas, g aas, Fas.binds fun _ _ _ _ _ _ us hl => match us, hl with | [_, _, _], _ => rfl⟩ (ok_a_state B c_dr c_aw c_an Fas)
  have c_bh := Df.cal (P := P) (w := w) (base := base) ⟨Fbh, g abh, Fbh.binds fun _ _ _ _ _ _ us hl => match us, hl with | [_, _, _, _], _ => rfl⟩ (ok_behind (o bdict) c_aa c_np Fbh)
  have okbg := ok_beginning (P := P) (w := w) (base := base) B c_da c_nf Fbg
  obtain ⟨ds3, v3, b3⟩ := Fbg.binds1 (ps := ["program", "name", "given"]) 3 1 (by simp) rfl fun T kV doc pm an cdv ct us its h1 h2 => match us, its, h1, h2 with | [_, _, _], [_], _, _ => ⟨_, rfl, rfl⟩
  obtain ⟨ds2, v2, b2⟩ := Fbg.binds1 (ps := ["program", "name", "given"]) 2 0 (by simp) rfl fun T kV doc pm an cdv ct us its h1 h2 => match us, its, h1, h2 with | [_, _], [_], _, _ => ⟨_, rfl, rfl⟩
  have c_bg : C8.Cal P w K mg base 3 "beginning" (spFirstS K) [] := ⟨fbg, fdbg, _, ds3, okbg, g abg, Fbg.kp, b3, v3⟩
  have c_bg0 : C8.Cal P w K mg base 3 "beginning" (spFirstS K) [.ref e0] := ⟨fbg, fdbg, _, ds2, okbg, g abg, Fbg.kp, b2, v2⟩
  have c_sa : CalG P w K mg base 1 "_law_same" (spSame K) := ⟨_, _, _, ok_same B.repr Fsa, g asa, Fsa.kp, Fsa.binds fun _ _ _ _ _ _ us hl => match us, hl with | [_, _], _ => rfl⟩
  have c_be : CalG P w K mg base 5 "_law_begins" spBegins := ⟨_, _, _, ok_begins B c_dr c_as c_fs c_bg E0 c_bg0 c_sa Fbe, g abe, Fbe.kp, Fbe.binds fun _ _ _ _ _ _ us hl => match us, hl with | [_, _, _], _ => rfl⟩
  have c_go : CalG P w K mg base 5 "_law_goes_behind" spGoes := ⟨_, _, _, ok_goes B (o bdict) c_aw c_as c_bh c_sa Fgo, g ago, Fgo.kp, Fgo.binds fun _ _ _ _ _ _ us hl => match us, hl with | [_, _, _, _], _ => rfl⟩
  exact ok_law B c_tp c_pg c_be c_go FL
end K

open PySem PySem.W PyProof.Rows
set_option maxRecDepth 100000 in
set_option maxHeartbeats 0 in
theorem PySem.Challenge.cw_withinall_k10_beginnings_and_behind_call_holds : PySem.Challenge.rw_withinall_k10_beginnings_and_behind_call.Holds := by
  w_on; o_law; k_head; (case hw => w_witness2)
  k_fill
  refine L2.walkG (l := PySem.Challenge.rw_withinall_k10_beginnings_and_behind_call) (n := 63) (k := 8) (x := "script") (sp := K.spLaw) rfl (by decide) rfl ⟨rfl, by decide, by decide⟩ (fun w h Y => PySem.W.kIn_of Y) ?F (fun K H a ns h1 _ h3 => ⟨a, ns, rfl, h3, h1, fun _ => rfl⟩)
  case F =>
    intro w mg fa h KX G hmg
    refine' K.all_mk KX G hmg ?SO ?blen ?brange ?blist ?btuple ?bint ?bstr ?bisinstance ?bsorted ?bset ?bzip ?benumerate ?brepr ?bmin ?bmax ?bdict ?atp ?Ftp ?adr ?Fdr ?apk ?Fpk ?aaw ?Faw ?afr ?Ffr ?ahd ?Fhd ?akd ?Fkd ?ani ?Fni ?anf ?Fnf ?ada ?Fda ?anb ?Fnb ?aaa ?Faa ?anp ?Fnp ?afi ?Ffi ?apa ?Fpa ?aca ?Fca ?aac ?Fac ?add ?Fdd ?apg ?Fpg ?ald ?Fld ?aan ?Fan ?afs ?Ffs ?aas ?Fas ?abh ?Fbh ?asa ?Fsa ?abe ?Fbe ?ago ?Fgo ?abg ?Fbg ?E0 ?aL ?FL
    (case blen => k_is); (case brange => k_is); (case blist => k_is); (case btuple => k_is); (case bint => k_is); (case bstr => k_is); (case bisinstance => k_is); (case bsorted => k_is); (case bset => k_is); (case bzip => k_is); (case benumerate => k_is); (case brepr => k_is); (case bmin => k_is); (case bmax => k_is); (case bdict => k_is)
    (case abg => k_is); (case Fbg => refine' K.def_mk ?l ?c ?k ?lT; (case l => k_is); (case c => k_is); (case k => k_is); (case lT => k_is)); (case E0 => refine' K.e0_mk ?l ?c; (case l => k_is); (case c => rfl))
    (case atp => k_is); (case Ftp => refine' L2.fun_mk ?l ?c ?k; (case l => k_is); (case c => k_is); (case k => k_is))
    (case adr => k_is); (case Fdr => refine' L2.fun_mk ?l ?c ?k; (case l => k_is); (case c => k_is); (case k => k_is))
    (case apk => k_is); (case Fpk => refine' L2.fun_mk ?l ?c ?k; (case l => k_is); (case c => k_is); (case k => k_is))
    (case aaw => k_is); (case Faw => refine' L2.fun_mk ?l ?c ?k; (case l => k_is); (case c => k_is); (case k => k_is))
    (case afr => k_is); (case Ffr => refine' L2.fun_mk ?l ?c ?k; (case l => k_is); (case c => k_is); (case k => k_is))
    (case ahd => k_is); (case Fhd => refine' L2.fun_mk ?l ?c ?k; (case l => k_is); (case c => k_is); (case k => k_is))
    (case akd => k_is); (case Fkd => refine' L2.fun_mk ?l ?c ?k; (case l => k_is); (case c => k_is); (case k => k_is))
    (case ani => k_is); (case Fni => refine' L2.fun_mk ?l ?c ?k; (case l => k_is); (case c => k_is); (case k => k_is))
    (case anf => k_is); (case Fnf => refine' L2.fun_mk ?l ?c ?k; (case l => k_is); (case c => k_is); (case k => k_is))
    (case ada => k_is); (case Fda => refine' L2.fun_mk ?l ?c ?k; (case l => k_is); (case c => k_is); (case k => k_is))
    (case anb => k_is); (case Fnb => refine' L2.fun_mk ?l ?c ?k; (case l => k_is); (case c => k_is); (case k => k_is))
    (case aaa => k_is); (case Faa => refine' L2.fun_mk ?l ?c ?k; (case l => k_is); (case c => k_is); (case k => k_is))
    (case anp => k_is); (case Fnp => refine' L2.fun_mk ?l ?c ?k; (case l => k_is); (case c => k_is); (case k => k_is))
    (case afi => k_is); (case Ffi => refine' L2.fun_mk ?l ?c ?k; (case l => k_is); (case c => k_is); (case k => k_is))
    (case apa => k_is); (case Fpa => refine' L2.fun_mk ?l ?c ?k; (case l => k_is); (case c => k_is); (case k => k_is))
    (case aca => k_is); (case Fca => refine' L2.fun_mk ?l ?c ?k; (case l => k_is); (case c => k_is); (case k => k_is))
    (case aac => k_is); (case Fac => refine' L2.fun_mk ?l ?c ?k; (case l => k_is); (case c => k_is); (case k => k_is))
    (case add => k_is); (case Fdd => refine' L2.fun_mk ?l ?c ?k; (case l => k_is); (case c => k_is); (case k => k_is))
    (case apg => k_is); (case Fpg => refine' L2.fun_mk ?l ?c ?k; (case l => k_is); (case c => k_is); (case k => k_is))
    (case ald => k_is); (case Fld => refine' L2.fun_mk ?l ?c ?k; (case l => k_is); (case c => k_is); (case k => k_is))
    (case aan => k_is); (case Fan => refine' L2.fun_mk ?l ?c ?k; (case l => k_is); (case c => k_is); (case k => k_is))
    (case afs => k_is); (case Ffs => refine' L2.fun_mk ?l ?c ?k; (case l => k_is); (case c => k_is); (case k => k_is))
    (case aas => k_is); (case Fas => refine' L2.fun_mk ?l ?c ?k; (case l => k_is); (case c => k_is); (case k => k_is))
    (case abh => k_is); (case Fbh => refine' L2.fun_mk ?l ?c ?k; (case l => k_is); (case c => k_is); (case k => k_is))
    (case asa => k_is); (case Fsa => refine' L2.fun_mk ?l ?c ?k; (case l => k_is); (case c => k_is); (case k => k_is))
    (case abe => k_is); (case Fbe => refine' L2.fun_mk ?l ?c ?k; (case l => k_is); (case c => k_is); (case k => k_is))
    (case ago => k_is); (case Fgo => refine' L2.fun_mk ?l ?c ?k; (case l => k_is); (case c => k_is); (case k => k_is))
    (case aL => k_is); (case FL => refine' L2.fun_mk ?l ?c ?k; (case l => k_is); (case c => k_is); (case k => k_is))
    case SO =>
      refine' K.sorts_mk KX G ?hS ?lS ?kS (K.so_all ?s0 ?s1 ?s2 ?s3 ?s4 ?s5 ?s6 ?s7 ?s8 ?s9 ?s10 ?s11 ?s12 ?s13 ?s14 ?s15 ?s16 ?s17 ?s18)
      (case hS => k_is); (case lS => k_is)
      (case kS => repeat (first | exact trivial | refine ⟨⟨_, _, rfl, rfl⟩, ?_⟩))
      (case s0 => refine' K.so_mk ["number", "word"] (by decide +kernel) ?h1 ?h2 ?h3 ?h5 ?h6; (case h1 => k_is); (case h2 => k_is); (case h3 => rfl); (case h5 => decide); (case h6 => exact .cons ⟨_, rfl⟩ (.cons ⟨_, rfl⟩ (.nil))))
      (case s1 => refine' K.so_mk ["number", "number", "word"] (by decide +kernel) ?h1 ?h2 ?h3 ?h5 ?h6; (case h1 => k_is); (case h2 => k_is); (case h3 => rfl); (case h5 => decide); (case h6 => exact .cons ⟨_, rfl⟩ (.cons ⟨_, rfl⟩ (.cons ⟨_, rfl⟩ (.nil)))))
      (case s2 => refine' K.so_mk ["plain", "plain", "plain"] (by decide +kernel) ?h1 ?h2 ?h3 ?h5 ?h6; (case h1 => k_is); (case h2 => k_is); (case h3 => rfl); (case h5 => decide); (case h6 => exact .cons ⟨_, rfl⟩ (.cons ⟨_, rfl⟩ (.cons ⟨_, rfl⟩ (.nil)))))
      (case s3 => refine' K.so_mk ["plain", "plain", "plain"] (by decide +kernel) ?h1 ?h2 ?h3 ?h5 ?h6; (case h1 => k_is); (case h2 => k_is); (case h3 => rfl); (case h5 => decide); (case h6 => exact .cons ⟨_, rfl⟩ (.cons ⟨_, rfl⟩ (.cons ⟨_, rfl⟩ (.nil)))))
      (case s4 => refine' K.so_mk ["plain", "plain", "plain"] (by decide +kernel) ?h1 ?h2 ?h3 ?h5 ?h6; (case h1 => k_is); (case h2 => k_is); (case h3 => rfl); (case h5 => decide); (case h6 => exact .cons ⟨_, rfl⟩ (.cons ⟨_, rfl⟩ (.cons ⟨_, rfl⟩ (.nil)))))
      (case s5 => refine' K.so_mk ["plain", "plain", "plain"] (by decide +kernel) ?h1 ?h2 ?h3 ?h5 ?h6; (case h1 => k_is); (case h2 => k_is); (case h3 => rfl); (case h5 => decide); (case h6 => exact .cons ⟨_, rfl⟩ (.cons ⟨_, rfl⟩ (.cons ⟨_, rfl⟩ (.nil)))))
      (case s6 => refine' K.so_mk ["plain", "plain", "plain"] (by decide +kernel) ?h1 ?h2 ?h3 ?h5 ?h6; (case h1 => k_is); (case h2 => k_is); (case h3 => rfl); (case h5 => decide); (case h6 => exact .cons ⟨_, rfl⟩ (.cons ⟨_, rfl⟩ (.cons ⟨_, rfl⟩ (.nil)))))
      (case s7 => refine' K.so_mk ["number", "number", "number"] (by decide +kernel) ?h1 ?h2 ?h3 ?h5 ?h6; (case h1 => k_is); (case h2 => k_is); (case h3 => rfl); (case h5 => decide); (case h6 => exact .cons ⟨_, rfl⟩ (.cons ⟨_, rfl⟩ (.cons ⟨_, rfl⟩ (.nil)))))
      (case s8 => refine' K.so_mk ["row", "number"] (by decide +kernel) ?h1 ?h2 ?h3 ?h5 ?h6; (case h1 => k_is); (case h2 => k_is); (case h3 => rfl); (case h5 => decide); (case h6 => exact .cons ⟨_, rfl⟩ (.cons ⟨_, rfl⟩ (.nil))))
      (case s9 => refine' K.so_mk ["plain", "row", "number"] (by decide +kernel) ?h1 ?h2 ?h3 ?h5 ?h6; (case h1 => k_is); (case h2 => k_is); (case h3 => rfl); (case h5 => decide); (case h6 => exact .cons ⟨_, rfl⟩ (.cons ⟨_, rfl⟩ (.cons ⟨_, rfl⟩ (.nil)))))
      (case s10 => refine' K.so_mk ["row", "number", "number"] (by decide +kernel) ?h1 ?h2 ?h3 ?h5 ?h6; (case h1 => k_is); (case h2 => k_is); (case h3 => rfl); (case h5 => decide); (case h6 => exact .cons ⟨_, rfl⟩ (.cons ⟨_, rfl⟩ (.cons ⟨_, rfl⟩ (.nil)))))
      (case s11 => refine' K.so_mk ["number", "row"] (by decide +kernel) ?h1 ?h2 ?h3 ?h5 ?h6; (case h1 => k_is); (case h2 => k_is); (case h3 => rfl); (case h5 => decide); (case h6 => exact .cons ⟨_, rfl⟩ (.cons ⟨_, rfl⟩ (.nil))))
      (case s12 => refine' K.so_mk ["plain", "word", "word"] (by decide +kernel) ?h1 ?h2 ?h3 ?h5 ?h6; (case h1 => k_is); (case h2 => k_is); (case h3 => rfl); (case h5 => decide); (case h6 => exact .cons ⟨_, rfl⟩ (.cons ⟨_, rfl⟩ (.cons ⟨_, rfl⟩ (.nil)))))
      (case s13 => refine' K.so_mk ["number"] (by decide +kernel) ?h1 ?h2 ?h3 ?h5 ?h6; (case h1 => k_is); (case h2 => k_is); (case h3 => rfl); (case h5 => decide); (case h6 => exact .cons ⟨_, rfl⟩ (.nil)))
      (case s14 => refine' K.so_mk ["side", "sign", "side"] (by decide +kernel) ?h1 ?h2 ?h3 ?h5 ?h6; (case h1 => k_is); (case h2 => k_is); (case h3 => rfl); (case h5 => decide); (case h6 => exact .cons ⟨_, rfl⟩ (.cons ⟨_, rfl⟩ (.cons ⟨_, rfl⟩ (.nil)))))
      (case s15 => refine' K.so_mk ["side", "sign", "side", "label"] (by decide +kernel) ?h1 ?h2 ?h3 ?h5 ?h6; (case h1 => k_is); (case h2 => k_is); (case h3 => rfl); (case h5 => decide); (case h6 => exact .cons ⟨_, rfl⟩ (.cons ⟨_, rfl⟩ (.cons ⟨_, rfl⟩ (.cons ⟨_, rfl⟩ (.nil))))))
      (case s16 => refine' K.so_mk ["label"] (by decide +kernel) ?h1 ?h2 ?h3 ?h5 ?h6; (case h1 => k_is); (case h2 => k_is); (case h3 => rfl); (case h5 => decide); (case h6 => exact .cons ⟨_, rfl⟩ (.nil)))
      (case s17 => refine' K.so_mk ["plain", "callee", "given"] (by decide +kernel) ?h1 ?h2 ?h3 ?h5 ?h6; (case h1 => k_is); (case h2 => k_is); (case h3 => rfl); (case h5 => decide); (case h6 => exact .cons ⟨_, rfl⟩ (.cons ⟨_, rfl⟩ (.cons ⟨_, rfl⟩ (.nil)))))
      (case s18 => refine' K.so_mk ["number"] (by decide +kernel) ?h1 ?h2 ?h3 ?h5 ?h6; (case h1 => k_is); (case h2 => k_is); (case h3 => rfl); (case h5 => decide); (case h6 => exact .cons ⟨_, rfl⟩ (.nil)))

