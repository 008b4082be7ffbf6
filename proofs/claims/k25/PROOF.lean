import PyProof.Rows.All
import Wide.All
import OpenK.AllK
import Wide.FinOn
import KE.KExcSuper
import HandS.Base
import HandS.Call
import HandS.List
import HandS.Ends
import HandS.Exc
import HandS.ForMost
import HandS.ExcField
import HandS.ExcIs
import HandS.IsInst
import HandS.Wide
import KE.KExcIs
import HandS.Zip
import HandS.Walk
import KE.GoesZip
import KE.GoesMore
import KE.GoesEnum
import HandS.Comp
import HandS.Codes
import HandS.Flt
import HandS.Defaults
import HandS.TupMul
import HandS.Star
import HandS.TupAny
import HandS.Conv
import HandS.Text
import HandS.More
import HandS.Style
import HandS.Dict
import PySem.Challenge.RW_withinall_k25_whole_pairs_parted_and_tur
set_option Elab.async false
set_option linter.all false
set_option maxRecDepth 100000
set_option maxHeartbeats 3900000
/-! Own exceptions over ValueError, made by place or by name: the class is called, keywords and all, then its own __init__. -/
namespace PySem
namespace Own
open HandSPX

/-- what the heap keeps of such a class, in one bundle -/
structure Kl where
  (nm qn : Str) (ns : Addr) (bs bm : List Value) (hd : Bool) (sn : List Str) (sb : List Value)
  (ab : Bool) (co : Option Bool) (dd : Option Addr) (s0 s1 s2 s3 s5 : Option Value)
def Kl.obj (c : Kl) (C : Addr) : Obj :=
  excClassObj c.nm c.qn C c.ns c.bs c.bm c.hd c.sn c.sb c.ab c.co c.dd c.s0 c.s1 c.s2 c.s3 c.s5 "ValueError.__new__"
/-- at C in h stands such a class, its chain ends as ValueError's does -/
def KlAt (h : Heap) (C : Addr) : Prop :=
  ∃ c : Kl, h.get? C = some (c.obj C) ∧ ∀ X : String, c.bm.contains (.type X) = veTail.contains (.type X)
theorem klAt_of {K : W.Frag} {h : Heap} {C : Addr} (X : K.In h)
    (q : W.excInitIn K C veTail "ValueError.__new__" = true) : KlAt h C := by
  obtain ⟨nm, ns, qn, bs, bm, hd, sn, sb, ab, co, dd, s0, s1, s2, s3, s5, e, t⟩ := W.excInit_of X q
  exact ⟨⟨nm, qn, ns, bs, bm, hd, sn, sb, ab, co, dd, s0, s1, s2, s3, s5⟩, e, t⟩
theorem KlAt.keep {h h' : Heap} {C : Addr} (x : KlAt h C)
    (k : ∀ b o, h.get? b = some o → h'.get? b = some o) : KlAt h' C :=
  let ⟨c, e, t⟩ := x; ⟨c, k _ _ e, t⟩

abbrev VE := F.excBase_ValueError
/-- the freshly made object, its args laid ahead of it -/
abbrev fresh (h : Heap) (C : Addr) (xs : List Value) : Heap := (h.push (W.kdv_tup xs)).push (excO C h.objs.size)

section
variable {M : Model} {A : Around} {X : Value → Shared → Prop} {h : Heap} {C : Addr}
  {gs : Array GenState} {dr : Drawn} {tk : Nat} {os : OsState} {xs : List Value} {kw : List (Str × Value)}

theorem new_checked {Q : Unit → Shared → Prop} (k : KlAt h C) (hq : Q () ⟨h, gs, dr, tk, os⟩) :
    wpAny M A (checkBuiltinCall "ValueError.__new__" ⟨.ref C :: xs, kw⟩) Q X ⟨h, gs, dr, tk, os⟩ := by
  obtain ⟨c, hC, t⟩ := k
  have inB : (Value.ref C :: c.bm).contains (.type "ValueError") = true := by
    rw [List.contains_cons, t, VE.hasB]
    exact Bool.or_true _
  have star := VE.noStar
  simp only [checkBuiltinCall, VE.newSplit, VE.newRow, VE.newKind]
  unfold Kl.obj at hC
  repeat first
    | refine wpAny_staticBase_exc hC ?_
    | refine wpAny_madeBy_exc hC ?_
    | refine wpAny_loadPart_at hC ?_
    | (refine wpAny_isSubtype_exc hC ?_
       rw [inB])
    | simp only [bne_self_eq_false, if_false, Bool.false_eq_true]
    | wp_step
  exact hq
theorem call_checked {Q : Unit → Shared → Prop} (k : KlAt h C) (hq : Q () ⟨h, gs, dr, tk, os⟩) :
    wpAny M A (checkBuiltinCall "type.__call__" ⟨.ref C :: xs, kw⟩) Q X ⟨h, gs, dr, tk, os⟩ := by
  obtain ⟨c, hC, _⟩ := k
  unfold Kl.obj at hC
  have sub := tc_sub
  have ty : (⟨h, gs, dr, tk, os⟩ : Shared).TypeIs (.ref C) "type" := ⟨_, hC, by rfl⟩
  simp only [checkBuiltinCall, tc_split, tc_kind]
  repeat any_goals first
    | assumption
    | with_reducible refine wpAny_map ?_
    | with_reducible refine wpAny_onRaise ?_
    | with_reducible refine wpAny_loadPart_at hC ?_
    | wp_step
end

section
variable {prog : Program} {w : World} {A : Around} {R : Result → Shared → Prop} {h : Heap} {C fI : Addr}
  {gs : Array GenState} {dr : Drawn} {tk : Nat} {os : OsState} {xs : List Value} {kw : List (Str × Value)}

/-- BaseException.__new__: keywords are nothing to it -/
theorem new_made (k : KlAt h C) (small : xs.length ≤ sizeLine)
    (hq : R (.ok (.ret (.ref (h.objs.size + 1)))) ⟨fresh h C xs, gs, dr, tk, os⟩) :
    codeAny (model prog w) A (.builtin "ValueError.__new__" ⟨.ref C :: xs, kw⟩) R ⟨h, gs, dr, tk, os⟩ := by
  obtain ⟨c, hC, t⟩ := k
  unfold Kl.obj at hC
  have inB : (Value.ref C :: c.bm).contains (.type "ValueError") = true := by
    rw [List.contains_cons, t, VE.hasB]
    exact Bool.or_true _
  have noA : (Value.ref C :: c.bm).contains (.type "AttributeError") = false := by
    rw [List.contains_cons, t, VE.noAttr]
    rfl
  have noN : (Value.ref C :: c.bm).contains (.type "NameError") = false := by
    rw [List.contains_cons, t, VE.noName]
    rfl
  have ends := VE.ends
  refine codeAny_builtinAt VE.entry (?_)
  unfold Builtin.«BaseException.__new__» -- the keywords are not looked at
  refine wpAt_bind (show wpAt _ _ _ (stack >>= _) _ _ _ from ?_)
  refine wpAt_bind (wpAt_stack fun _ _ => wpAt_of_wpAny (?_))
  wp_walk
  refine wpAt_of_wpAny ?_
  rw [VE.owner]
  repeat first
    | with_reducible refine wpAny_loadPart_at hC ?_
    | with_reducible refine wpAny_madeHere_exc VE.canon hC ?_
    | (with_reducible refine wpAny_isSubtype_exc hC ?_
       first
         | rw [inB]
         | rw [noA]
         | rw [noN])
    | wp_step
  show R _ _
  rw [Heap.size_push]
  exact hq

/-- type.__call__: made, then the own __init__ with what was handed in -/
theorem called {Q : Fin → Shared → Prop} {X : Value → Shared → Prop} (k : KlAt h C) (small : xs.length ≤ sizeLine)
    (hi : W.Looks (model prog w) h (typeLookup (.ref C) "__init__") (some (.ref fI)))
    (hb : ∀ self, W.Looks (model prog w) h (bindSpecial (.ref fI) self) (.ref fI, [self]))
    (hq : codeAny (model prog w) A (.call (.ref fI) ⟨.ref (h.objs.size + 1) :: xs, kw⟩)
      (fun r s' => match r with
        | .error e => X e s'
        | .ok (.ret v) => v = .none ∧ Q (.done (.ret (.ref (h.objs.size + 1)))) s'
        | .ok _ => False) ⟨fresh h C xs, gs, dr, tk, os⟩) :
    wpAny (model prog w) A (Builtin.«type.__call__» ⟨.ref C :: xs, kw⟩) Q X ⟨h, gs, dr, tk, os⟩ := by
  obtain ⟨c, hC', t⟩ := k
  have k : KlAt h C := ⟨c, hC', t⟩
  have hC := hC'
  unfold Kl.obj at hC
  repeat first
    | with_reducible refine wpAny_madeBy_exc hC ?_
    | with_reducible refine wpAny_loadPart_at hC ?_
    | wp_step
  refine codeAny_call_builtin_code (Code.quiet_builtin _ VE.quiet) (new_checked k (new_made k small ?_))
  show wpAny _ _ _ _ _ _
  have up : ∀ b o, h.get? b = some o → (fresh h C xs).get? b = some o := fun b o e =>
    Heap.get?_push_of_some _ (Heap.get?_push_of_some _ e)
  have hC2 := up _ _ hC
  have it : (fresh h C xs).get? (h.objs.size + 1) = some (excO C h.objs.size) := by
    heap_get
  have self : (Value.ref C :: c.bm).contains (.ref C) = true := by
    simp
  unfold isInstance
  repeat first
    | with_reducible refine wpAny_loadPart_at it ?_
    | (with_reducible refine wpAny_isSubtype_exc hC2 ?_
       rw [self])
    | wp_step
  refine (hi.keeps up).at (?_)
  refine wpAny_holding (wpAny_bind ((((hb (.ref (h.objs.size + 1))).keeps up)).at ?_))
  refine wpAny_bind (wpAny_call (codeAny_mono hq (fun r s' z => ?_)))
  match r, z with
  | .error e, z => exact z
  | .ok (.ret v), ⟨e, z⟩ =>
    subst e
    first
      | exact wpAny_pure (wpAny_pure (by exact z))
      | (wp_walk; exact z)
  | .ok .next, z => exact z.elim
  | .ok .brk, z => exact z.elim
  | .ok .cont, z => exact z.elim

theorem made_of (k : KlAt h C) (small : xs.length ≤ sizeLine)
    (hi : W.Looks (model prog w) h (typeLookup (.ref C) "__init__") (some (.ref fI)))
    (hb : ∀ self, W.Looks (model prog w) h (bindSpecial (.ref fI) self) (.ref fI, [self]))
    (hq : codeAny (model prog w) (A.under (.builtin "type.__call__" ⟨.ref C :: xs, kw⟩))
      (.call (.ref fI) ⟨.ref (h.objs.size + 1) :: xs, kw⟩) (W.InitBack (h.objs.size + 1) R) ⟨fresh h C xs, gs, dr, tk, os⟩) :
    codeAny (model prog w) A (.call (.ref C) ⟨xs, kw⟩) R ⟨h, gs, dr, tk, os⟩ := by
  obtain ⟨c, hC', t⟩ := k
  have k : KlAt h C := ⟨c, hC', t⟩
  have hC := hC'
  unfold Kl.obj at hC
  have look := tc_lookup
  have bind := tc_bind (.ref C)
  have ty : (⟨h, gs, dr, tk, os⟩ : Shared).TypeIs (.ref C) "type" := ⟨_, hC, by rfl⟩
  refine codeAny_of_tree (show wpAny _ _ (callAny (.ref C) _) _ _ _ from ?_)
  repeat any_goals first
    | assumption
    | with_reducible refine wpAny_loadPart_at hC ?_
    | wp_step
  refine ⟨rfl, codeAny_call_builtin_at (Code.quiet_builtin _ (by decide +kernel)) entry_typeCall (call_checked k (called k small hi hb ?_))⟩
  refine codeAny_mono hq (fun r s' z => ?_)
  match r, z with
  | .error e, z => exact z
  | .ok (.ret v), z => exact z
  | .ok .next, z => exact z
  | .ok .brk, z => exact z
  | .ok .cont, z => exact z
end
end Own
end PySem

set_option maxRecDepth 100000
set_option maxHeartbeats 3900000
/-! An own exception's __init__: super().__init__(text), then one field. -/
namespace PySem
namespace Own
open PySem.W PySem.Calls PyProof.Rows HandSPX

abbrev oA (n : Str) (p1 p2 : Pos) : Arguments := { posonlyargs := [], args := [{ arg := "self", annotation := none, pos := p1 }, { arg := n, annotation := none, pos := p2 }], vararg := none, kwonlyargs := [], kw_defaults := [], kwarg := none, defaults := [] }
/-- the scope of such an __init__ -/
abbrev oS (n : Str) : Scope := { kind := .function, names := [("self", .local), (n, .local), ("__class__", .free), ("super", .globalImplicit)], isGenerator := false, isCoroutine := false, more := [] }
abbrev oB (n text : Str) (k1 : Nat) (q1 q2 q3 q4 q5 q6 q7 q8 q9 q0 : Pos) : List Stmt :=
  [.Expr (.Call (.Attribute (.Call (.Name "super" q1) [] [] q2) "__init__" q3) [.Constant (.str text) k1 q4] [] q5) q6,
   .Assign [.Attribute (.Name "self" q7) n q8] (.Name n q9) q0]

/-- what the written part says of an own exception class C, of its __init__ at fI, which keeps one field n -/
structure Txt (prog : Program) (K : Frag) (mg : Str → Option Value) (x n : Str) (C fI : Addr) : Prop where
  gC : mg x = some (.ref C)
  cls : excInitIn K C veTail "ValueError.__new__" = true
  cd : ∃ c bm, clsIn K C = some c ∧ c.mro = .ref C :: bm ∧ refsVE bm = true ∧ c.hasDict = true ∧ alongIn K "__init__" bm = some (some (.builtin "ValueError.__init__"))
  sa : findIn K (.ref C) "__setattr__" = some (some (.builtin "object.__setattr__"))
  ga : findIn K (.ref C) "__getattribute__" = some (some (.builtin "BaseException.__getattribute__"))
  gg : findIn K (.ref C) "__getattr__" = some none
  noN : findIn K (.ref C) n = some none
  iC : findIn K (.ref C) "__init__" = some (some (.ref fI))
  tC : typeIn K (.ref fI) = some (.type "function")
  kC : keepIn K (.ref C) = true
  exC : subIn K (.ref C) (.type "BaseException") = some true
  veC : subIn K (.ref C) (.type "ValueError") = some true
  tyC : typeIn K (.ref C) = some (.type "type")
  hdC : hasDictIn K C = true
  tp : nsIn K cStatics "thirdparty.any" = some none
  gS : mg "super" = none
  top : (prog.main.scope.names.lookup ("super" : Str)).isSome = false
  fn : ∃ (oc : Value) (od : Option Addr) (osl : Array (Option Value)) (dV kV doc pm : Value) (an : Option Addr) (cda cc : Addr) (ct : Value) (p1 p2 q1 q2 q3 q4 q5 q6 q7 q8 q9 q0 : Pos) (text qual : Str) (k1 : Nat)
      (ccl cl : Value) (cdd cld : Option Addr) (vs : Array Value) (ccs csl : Array (Option Value)) (file : Str) (tf : Tok),
    K.lookup fI = some ⟨oc, od, .func (ksFn "__init__" qual (oA n p1 p2) (oB n text k1 q1 q2 q3 q4 q5 q6 q7 q8 q9 q0) (oS n) dV kV doc pm an (.ref cda) ct cc), osl⟩ ∧ codeIn K (.ref cda) qual = true ∧
    ((oS n).names.lookup ("super" : Str) = some .globalImplicit ∧ (oS n).names.lookup ("__class__" : Str) = some .free ∧ (oS n).names.lookup ("self" : Str) = some .local ∧ (oS n).names.lookup n = some .local ∧
      (∀ x ∈ (oS n).names, x.2 ≠ .cell)) ∧
    K.lookup cda = some ⟨ccl, cdd, .fields vs, ccs⟩ ∧ vs[2]? = some (.str file tf) ∧ ((prog.main.file : Str) == file) = true ∧
    K.lookup cc = some ⟨cl, cld, .cell (some (.ref C)), csl⟩ ∧
    (∀ (x v : Value), bindArgs (ksFn "__init__" qual (oA n p1 p2) (oB n text k1 q1 q2 q3 q4 q5 q6 q7 q8 q9 q0) (oS n) dV kV doc pm an (.ref cda) ct cc) ⟨[x, v], []⟩ = pure [(("self" : Str), x), (n, v)]) ∧
    (∀ (x v : Value), bindArgs (ksFn "__init__" qual (oA n p1 p2) (oB n text k1 q1 q2 q3 q4 q5 q6 q7 q8 q9 q0) (oS n) dV kV doc pm an (.ref cda) ct cc) ⟨[x], [(n, v)]⟩ = pure [(("self" : Str), x), (n, v)]) ∧
    (("self" : Str) == n) = false ∧ (n == ("__debug__" : Str)) = false ∧ (q3.endLine == q5.line) = true

/-- what __init__ leaves of a fresh exception at x -/
structure InitEnd (h h' : Heap) (x C dx t1 : Addr) (n : Str) (v : Value) : Prop where
  keep : ∀ b o, b ≠ x → h.get? b = some o → h'.get? b = some o
  obj : h'.get? x = some { cls := .ref C, dict := some dx, data := .fields #[.ref t1, .none, .none, .none, .bool false, .none] }
  dbig : h.objs.size ≤ dx
  dne : dx ≠ x
  ns : h'.Ns1 dx (fun y => if y = n then some v else none)
/-- a made exception -/
structure OwnMade (h h' : Heap) (e C d : Addr) (n : Str) (v : Value) : Prop where
  keep : ∀ b o, h.get? b = some o → h'.get? b = some o
  new : h.objs.size ≤ e
  obj : ∃ oe vs, h'.get? e = some oe ∧ oe.cls = .ref C ∧ oe.dict = some d ∧ oe.data = .fields vs ∧ vs[1]? = some .none ∧ vs[2]? = some .none ∧ 4 < vs.size
  dbig : h.objs.size ≤ d
  dne : d ≠ e
  ns : h'.Ns1 d (fun y => if y = n then some v else none)

theorem drop_own (D : Addr) (r : List Value) :
    ((Value.ref D :: r).dropWhile (· != .ref D)).drop 1 = r := by simp [List.dropWhile_cons]
theorem one_size (v : Value) : [v].length ≤ sizeLine := by
  rw [sizeLine_eq]
  exact (by decide : 1 ≤ 16777216)

section
variable {prog : Program}
variable {w : World}
variable {A : Around} {E : Value → Shared → Prop}
/-- super().__init__(..), the method-wrapper called -/
theorem call_mw {h : Heap} {g : Array GenState} {d : Drawn} {tk : Nat} {os : OsState} {K : Frag} {C u e t0 : Addr} {rest : List Value} {Q : Value → Shared → Prop} (X : K.In h) (q : excInitIn K C veTail "ValueError.__new__" = true)
    (hu : h.get? u = some (kxs_mw "ValueError.__init__" e)) (he : h.get? e = some (excO C t0)) (hz : rest.length ≤ sizeLine)
    (hq : ∀ h' t1, (∀ b o, b ≠ e → h.get? b = some o → h'.get? b = some o) → h'.get? e = some (excO C t1) → Q .none ⟨h', g, d, tk, os⟩) :
    wpAny (model prog w) A (call (.ref u) rest) Q E ⟨h, g, d, tk, os⟩ := by
  obtain ⟨c, hC, _⟩ := klAt_of X q
  unfold Kl.obj at hC
  refine wpAny_call (codeAny_of_tree (show wpAny _ A.in1 (callAny (.ref u) ⟨rest, []⟩) _ _ _ from ?_))
  unfold callAny
  refine wpAny_bind (wpAny_load hu (?_))
  have mw : ∀ a b : Bool, (a || b || (Value.type "method-wrapper" == Value.type "method-wrapper")) = true := fun a b => by
    rw [beq_self_eq_true, Bool.or_true]
  dsimp only [kxs_mw]
  rw [if_pos (mw _ _)]
  refine KFB.if_so (show _ from by decide) ?_
  refine wpAny_bind (check_bound_init F.excBase_ValueError.toExcCallFacts hC he rfl ?_)
  refine wpAny_bind (wpAny_pure (wpAny_pure (?_)))
  refine ⟨plainId_quiet F.excBase_ValueError.init.plain _, codeAny_builtin F.excBase_ValueError.initEntry ?_⟩
  exact exc_init_tree (cls := .ref C) (t0 := t0) (dv := none) (c2 := .none) (c3 := .none) (b4 := .bool false) he hz fun h' k e' _ => hq h' _ k e'

theorem own_init {R : Result → Shared → Prop} {s : Shared} {K : Frag} {mg mb : Str → Option Value} {x0 n : Str} {C fI x t0 : Addr} {v : Value} {args : Args} (T : Txt prog K mg x0 n C fI) (X : K.In s.heap) (hlim : s.heap.NoLimit)
    (G : s.heap.Ns mainGlobals mg) (Bl : s.heap.Ns builtinsNs mb) (hmb : ∀ x : Str, x ≠ "__name__" → mb x = bootBuiltins x)
    (hx : s.heap.get? x = some (excO C t0)) (hnx : K.lookup x = none) (hroom : A.depth < recursionLimit) (ha : args = ⟨[.ref x, v], []⟩ ∨ args = ⟨[.ref x], [(n, v)]⟩)
    (hq : ∀ h' tk dx t1, InitEnd s.heap h' x C dx t1 n v → R (.ok (.ret .none)) { s with heap := h', toks := tk }) :
    codeAny (model prog w) A (.call (.ref fI) args) R s := by
  obtain ⟨oc, od, osl, dV, kV, doc, pm, an, cda, cc, ct, p1, p2, q1, q2, q3, q4, q5, q6, q7, q8, q9, q0, text, qual, k1, ccl, cl, cdd, cld, vs, ccs, csl, file, tf, hf, hcd, ⟨ks, kc, kself, kn, kcell⟩, hcda, hvs, hfile, hcc, hb1, hb2, hsn, hnd, hline⟩ := T.fn
  obtain ⟨cd, bm, hcl, hmro, hbm, hhd, hal⟩ := T.cd
  have hbind : BindsTo s (ksFn "__init__" qual (oA n p1 p2) (oB n text k1 q1 q2 q3 q4 q5 q6 q7 q8 q9 q0) (oS n) dV kV doc pm an (.ref cda) ct cc) args [(("self" : Str), .ref x), (n, v)] := by
    rcases ha with rfl | rfl
    · exact .of_eq (hb1 _ _)
    · exact .of_eq (hb2 _ _)
  have hloc : ∀ y ∈ ([(("self" : Str), Value.ref x), (n, v)] : List (Str × Value)), (oS n).names.lookup y.1 = some .local := by
    intro y hy
    have hy' : y = (("self" : Str), Value.ref x) ∨ y = (n, v) := by simpa using hy
    rcases hy' with rfl | rfl
    · exact kself
    · exact kn
  refine ks_codeAny_call_defAt (fd := ksFn "__init__" qual (oA n p1 p2) (oB n text k1 q1 q2 q3 q4 q5 q6 q7 q8 q9 q0) (oS n) dV kV doc pm an (.ref cda) ct cc) (body := oB n text k1 q1 q2 q3 q4 q5 q6 q7 q8 q9 q0) (binds := [(("self" : Str), Value.ref x), (n, v)]) hroom (X _ _ hf) rfl hlim (codeRec_of X hcd) rfl hbind kcell hloc (fun h₁ hns k₁ => ?_) rfl rfl rfl
  rcases s with ⟨hp, g, d, tk, os⟩
  have X₁ : K.In h₁ := X.keeps k₁
  have hx₁ := k₁ _ _ hx
  have hlt : hp.objs.size < h₁.objs.size := hns.lt
  have mself : (([(("self" : Str), Value.ref x), (n, v)] : List (Str × Value)).reverse.lookup ("self" : Str)) = some (.ref x) := by
    show List.lookup ("self" : Str) [(n, v), (("self" : Str), Value.ref x)] = _
    rw [List.lookup_cons]
    simp only [hsn]
    rfl
  have mn : (([(("self" : Str), Value.ref x), (n, v)] : List (Str × Value)).reverse.lookup n) = some v := by
    show List.lookup n [(n, v), (("self" : Str), Value.ref x)] = _
    rw [List.lookup_cons]
    simp
  -- the class as the heap has it
  obtain ⟨oD, hD1, hD2⟩ : ∃ oD, h₁.get? C = some oD ∧ oD.data = .cls cd := by
    unfold clsIn at hcl
    split at hcl
    · rename_i c d' cd' sl ho
      cases hcl
      exact ⟨_, X₁ _ _ ho, rfl⟩
    · cases hcl
  have hxC : x ≠ C := fun z => by
    rw [z, hD1] at hx₁
    cases hx₁
    cases hD2
  have hsubD : Looks (model prog w) h₁ (isSubtype (.ref C) (.ref C)) true := looks_mroIn X₁ (by
    unfold mroIn
    rw [hcl, Option.bind_some, hmro]
    simp)
  refine ks_wpAt_execs_cons (ks_wpAt_Expr_any ?_ rfl (by first | rfl | with_unfolding_all rfl))
  refine ks_wpAt_MethodCall (pl := (do return (← importBound (.Call (.Name "super" q1) [] [] q2) (callEnv (ksFn "__init__" qual (oA n p1 p2) (oB n text k1 q1 q2 q3 q4 q5 q6 q7 q8 q9 q0) (oS n) dV kV doc pm an (.ref cda) ct cc) hp.objs.size fI)).getD true)) ?_ (by
    rw [arm_eval_Call]
    have hpos : ∀ env, methodCallPos true (.Call (.Name "super" q1) [] [] q2) env q3 q5 = pure q5 := fun env => by unfold methodCallPos; simp [hline]
    unfold methodCall
    rw [show methodCallForm _ _ _ = true from rfl, hpos]
    rfl)
  refine ks_wpAt_super_base (env := callEnv (ksFn "__init__" qual (oA n p1 p2) (oB n text k1 q1 q2 q3 q4 q5 q6 q7 q8 q9 q0) (oS n) dV kV doc pm an (.ref cda) ct cc) hp.objs.size fI) ks kc (by decide +kernel) rfl (X₁ _ _ hf) rfl rfl rfl (X₁ _ _ hcda) rfl hvs hfile T.top ?_
  refine ks_loadName_global rfl ks (loadGlobal_builtin (env := callEnv (ksFn "__init__" qual (oA n p1 p2) (oB n text k1 q1 q2 q3 q4 q5 q6 q7 q8 q9 q0) (oS n) dV kV doc pm an (.ref cda) ct cc) hp.objs.size fI) (G.keeps k₁) T.gS (Bl.keeps k₁) ((hmb _ (by decide +kernel)).trans (by first | boot_by_name | rfl | kernel_rfl)) ⟨rfl, ?_⟩)
  refine wpAny_loadName_free rfl kc rfl ⟨_, X₁ _ _ hcc, rfl⟩ ?_
  refine wpAny_loadName_local rfl kself hns mself ?_
  refine ks_wpAny_isType_cls hD1 hD2 ⟨by rfl, ?_⟩
  refine ks_wpAny_call_super hD1 hD2 hx₁ rfl (fun c z => by cases z) hsubD (fun h₂ hso k₂ => ?_)
  -- super().__init__
  have X₂ : K.In h₂ := X₁.keeps k₂
  have I₂ : PySem.W.InstAt h₂ x (excO C t0) C none := ⟨k₂ _ _ hx₁, rfl, rfl, trivial⟩
  have hI : Looks (model prog w) h₂ (isInstance (.ref x) (.type "ValueError")) true := I₂.type.andThen (looks_subIn X₂ T.veC)
  refine kxs_getMethod kxs_ValueError hso (looks_opaque X₂ T.tp) (l₀ := .ref C :: bm) ?_ (drop_own C bm) X₂ hal hI hxC (by decide +kernel) ?_
  · exact fun A Q E s k q => wpAny_bind ((looks_clsIn X₂ hcl) A _ E s k (wpAny_pure (by rw [hmro]; exact q)))
  have hu : (h₂.push (kxs_mw "ValueError.__init__" x)).get? h₂.objs.size = some (kxs_mw "ValueError.__init__" x) := Heap.get?_push_at rfl rfl
  have k₃ : ∀ b o, h₂.get? b = some o → (h₂.push (kxs_mw "ValueError.__init__" x)).get? b = some o := fun b o e => Heap.get?_push_of_some _ e
  show wpAny _ _ (callWith q5 (.ref h₂.objs.size) [] (backTo q5 (starEach [.Constant (.str text) k1 q4] _)) []) _ _ _
  refine kxs_callWith (i := "ValueError.__init__") (x := x) (by rfl) ?_
  refine evalArgs_plain ?_
  show wpAny _ _ (spliced ((false, eval (.Constant (.str text) k1 q4) _) :: backTo q5 (starEach [] (callEnv (ksFn "__init__" qual (oA n p1 p2) (oB n text k1 q1 q2 q3 q4 q5 q6 q7 q8 q9 q0) (oS n) dV kV doc pm an (.ref cda) ct cc) hp.objs.size fI)))) _ _ _
  refine Calls.spliced_cons (Calls.Constant_str (Calls.spliced_nil (?_)))
  refine ⟨hu, ?_⟩
  refine call_mw (K := K) (C := C) (e := x) (t0 := t0) (X₂.keeps k₃) T.cls hu (k₃ _ _ (k₂ _ _ hx₁)) (one_size _) (fun h₄ t₁ k₄ hx₄ => ?_)
  -- self.n = v
  have kall : ∀ b o, b ≠ x → h₁.get? b = some o → h₄.get? b = some o := fun b o hb e => k₄ b o hb (k₃ _ _ (k₂ _ _ e))
  have X₄ : K.In h₄ := fun b o e => kall b o (fun z => by rw [z, hnx] at e; cases e) (X₁ b o e)
  have hns₄ : h₄.Ns hp.objs.size (fun y => ([(("self" : Str), Value.ref x), (n, v)] : List (Str × Value)).reverse.lookup y) := by
    obtain ⟨oL, es, ep, hL, r⟩ := hns
    have xL : hp.objs.size ≠ x := Nat.ne_of_gt (Heap.lt_size hx)
    exact ⟨oL, es, ep, kall _ _ xL hL, r⟩
  refine ks_wpAt_execs_cons (ks_wpAt_Assign_Attr ?_ (by first | rfl | with_unfolding_all rfl))
  refine wpAt_of_wpAny (wpAny_Name (wpAny_loadName_local rfl kn hns₄ mn ?_) hnd)
  refine wpAny_Name (wpAny_loadName_local rfl kself hns₄ mself ?_) (by decide +kernel)
  refine set_plain X₄ (ox := excO C t₁) (od := none) ⟨hx₄, rfl, rfl, trivial⟩ T.sa ?_
  refine exc_osa X₄ hx₄ hcl (by rw [hmro]; exact hbm) hhd T.noN (fun h₅ tk₅ dx k₅ dn dne hx₅ hn₅ => ?_)
  show wpAt _ _ _ (execs [] _) _ _ _
  refine wpAt_of_wpAny (wpAny_execs_nil ?_)
  have z : hp.objs.size ≤ h₄.objs.size := by
    obtain ⟨oL, es, ep, hL, r⟩ := hns₄
    exact Nat.le_of_lt (Heap.lt_size hL)
  exact hq h₅ tk₅ dx t₁ ⟨fun b o hb e => k₅ b o hb (kall b o hb (k₁ _ _ e)), hx₅, Nat.le_trans z dn, dne, hn₅⟩

theorem own_made {R : Result → Shared → Prop} {s : Shared} {K : Frag} {mg mb : Str → Option Value} {x0 n : Str} {C fI : Addr} {v : Value} {rest : List Value} {kw : List (Str × Value)} (T : Txt prog K mg x0 n C fI) (X : K.In s.heap) (hlim : s.heap.NoLimit)
    (G : s.heap.Ns mainGlobals mg) (Bl : s.heap.Ns builtinsNs mb) (hmb : ∀ x : Str, x ≠ "__name__" → mb x = bootBuiltins x)
    (hroom : A.depth + 1 < recursionLimit) (ha : (rest = [v] ∧ kw = []) ∨ (rest = [] ∧ kw = [(n, v)]))
    (hq : ∀ h' tk e d, OwnMade s.heap h' e C d n v → R (.ok (.ret (.ref e))) { s with heap := h', toks := tk }) :
    codeAny (model prog w) A (.call (.ref C) ⟨rest, kw⟩) R s := by -- the class is called
  obtain ⟨hp, g, dr, tk, os⟩ := s
  have hz : rest.length ≤ sizeLine := by
    rcases ha with ⟨rfl, _⟩ | ⟨rfl, _⟩
    · exact one_size _
    · exact Nat.zero_le _
  have k : ∀ b o, hp.get? b = some o → ((hp.push (kdv_tup rest)).push (excO C hp.objs.size)).get? b = some o := fun b o e => Heap.get?_push_of_some _ (Heap.get?_push_of_some _ e)
  have hget : ((hp.push (kdv_tup rest)).push (excO C hp.objs.size)).get? (hp.objs.size + 1) = some (excO C hp.objs.size) := by heap_get
  have hnx : K.lookup (hp.objs.size + 1) = none := by
    cases e : K.lookup (hp.objs.size + 1) with
    | none => rfl
    | some o =>
      have z : hp.get? (hp.objs.size + 1) = some o := X _ _ e
      exact absurd (Nat.lt_of_succ_lt (Heap.lt_size z)) (Nat.lt_irrefl _)
  refine made_of (klAt_of X T.cls) hz (looks_findIn X T.iC) (fun self => bind_fn X self T.tC) ?_
  refine own_init (s := ⟨(hp.push (kdv_tup rest)).push (excO C hp.objs.size), g, dr, tk, os⟩) (v := v) T (X.keeps k) (hlim.keeps k) (G.keeps k) (Bl.keeps k) hmb hget hnx ?_ ?_ fun h' tk' dx t1 ⟨k', hx, dn, dne, hns⟩ => ?_
  · show A.depth + 1 < recursionLimit
    exact hroom
  · rcases ha with ⟨rfl, rfl⟩ | ⟨rfl, rfl⟩
    · exact .inl rfl
    · exact .inr rfl
  · have old : ∀ b o, hp.get? b = some o → h'.get? b = some o := fun b o e => k' b o (Nat.ne_of_lt (Nat.lt_succ_of_lt (Heap.lt_size e))) (k b o e)
    have z : hp.objs.size + 1 + 1 ≤ dx := by
      first
        | (simpa only [Heap.size_push] using dn)
        | exact dn
        | (have q := dn; rw [Heap.size_push, Heap.size_push] at q; exact q)
    exact ⟨rfl, hq h' tk' (hp.objs.size + 1) dx ⟨old, Nat.le_succ _, ⟨_, _, hx, rfl, rfl, rfl, rfl, rfl, (by show 4 < 6; decide)⟩, Nat.le_trans (Nat.le_trans (Nat.le_succ _) (Nat.le_succ _)) z, dne, hns⟩⟩
end
end Own
end PySem

set_option maxRecDepth 100000
set_option maxHeartbeats 3900000
/-! Own exceptions as values over the hand layer: made, their field read, asked by isinstance. -/
namespace L2
open PySem PySem.Spec PyProof.Rows

/-- an exception object of the class C, not raised yet, at a, its own dict at d -/
def ExV (C d a : Addr) : HO := .ext fun h => ∃ (oe : Obj) (vs : Array Value), h.get? a = some oe ∧ Zc (.ref C) (some d) oe ∧ oe.data = .fields vs ∧ vs[1]? = some .none
theorem exV_ok {P : Program} {w : World} {H : Hp} {h : Heap} {C d a : Addr} {oe : Obj} {vs : Array Value} (e : h.get? a = some oe) (z : Zc (.ref C) (some d) oe) (dt : oe.data = .fields vs) (h1 : vs[1]? = some .none) : ObjOk P w H h a (ExV C d a) :=
  ⟨⟨oe, vs, e, z, dt, h1⟩, ⟨oe, e⟩, fun _ _ ⟨o, v, q, r⟩ k => ⟨o, v, k o q, r⟩⟩

section
variable {X : Cx} {C fI : Addr} {x n : Str}
/-- a new exception of the class C with the field n -/
def mkOwn (C : Addr) (n : Str) (v : V) (H : Hp) (Q : VK) : Prop := ∀ a d, H a = none → H d = none → d ≠ a → Q (.ref a) (upd (upd H d (.xd [(n, v)])) a (ExV C d a))

theorem relO_one {n : Str} {v : V} {v' : Value} (r : RelV v v') (f : Str) : RelO (List.lookup f [(n, v)]) (if f = n then some v' else none) := by
  by_cases hw : f = n
  · subst hw
    rw [if_pos rfl]
    have q : List.lookup f [(f, v)] = some v := by simp [List.lookup]
    rw [q]
    exact r
  · rw [if_neg hw]
    have qw : (f == n) = false := by simpa using hw
    have q2 : List.lookup f [(n, v)] = none := by simp [List.lookup, qw]
    rw [q2]
    trivial

theorem run_own {k : Nat} {pins : List (Addr × Obj)} {σ : St} {H : Hp} {s : Shared} {Q : VK} {v : V} {u : Value} {us : List Value} {kw : List (Str × Value)} (T : PySem.Own.Txt X.prog X.K X.mg x n C fI) (hr : Room k X.A) (I : Inv X pins σ H s) (r : RelV v u)
    (ha : (us = [u] ∧ kw = []) ∨ (us = [] ∧ kw = [(n, u)])) (q : mkOwn C n v H Q) : wpAny (model X.prog X.w) X.A (call (.ref C) us kw) (EP X pins σ Q) X.xe s := by
  obtain ⟨mb, hmb, hbb⟩ := I.mod.blt
  refine wpAny_call (PySem.Own.own_made T I.kIn I.nolimit (I.mod.glob.keeps I.bk) (hmb.keeps I.bk) hbb (by have := hr.dp; omega) ha fun h' tk' e d M => ?_)
  obtain ⟨hp, g, dr, tk, os⟩ := s
  obtain ⟨oe, fv, hoe, hc, hd, hdat, h1, _, _⟩ := M.obj
  have He : H e = none := I.hok.fresh M.new
  have Hd : H d = none := I.hok.fresh M.dbig
  have ob : ObjOk X.prog X.w (upd H d (.xd [(n, v)])) h' d (.xd [(n, v)]) := ⟨_, M.ns, fun f => relO_one r f⟩
  have J : Inv X pins σ (upd H d (.xd [(n, v)])) ⟨h', g, dr, tk', os⟩ := I.laid (t' := tk') M.keep M.dbig ob
  have He2 : (upd H d (.xd [(n, v)])) e = none := by rw [upd_ne (Ne.symm M.dne)]; exact He
  have none_e : hp.get? e = none := Heap.get?_none_of_le M.new
  -- the exception itself: the heap as it stands, tracked now
  have J2 : Inv X pins σ (upd (upd H d (.xd [(n, v)])) e (ExV C d e)) ⟨h', g, dr, tk', os⟩ := by
    have I2 : Un X.fs [] H (upd (upd H d (.xd [(n, v)])) e (ExV C d e)) hp h' := by
      have a1 : Un X.fs [] H (upd H d (.xd [(n, v)])) hp h' := Un.laid M.keep M.dbig Hd
      refine ⟨a1.keep, a1.slot, fun b u q nn hb => ?_, a1.there, fun b xs q => ?_, fun b ob xs q => ?_, fun b ps q => ?_⟩
      · rw [upd_ne (fun z => by rw [z, none_e] at q; cases q)]
        exact a1.free b u q nn hb
      · rw [upd_ne (ne_of_none q He)]; exact a1.tups b xs q
      · rw [upd_ne (ne_of_none q He)]; exact a1.frzs b ob xs q
      · rw [upd_ne (ne_of_none q He)]; exact a1.tbls b ps q
    refine I.un (t' := tk') I2 fun b u q => ?_
    by_cases hb : b = e
    · subst hb
      rw [upd_same] at q
      cases q
      exact exV_ok hoe ⟨hc, hd⟩ hdat h1
    · rw [upd_ne hb] at q
      exact (J.hok b u q).stay (fun c w' _ z => z) (fun c z => by rw [upd_ne (ne_of_none z He2)]; exact z) fun c xs z => by rw [upd_ne (ne_of_none z He2)]; exact z
  exact ⟨.ref e, _, J2, rfl, q e d He Hd M.dne⟩

def tOwn (C : Addr) (n : Str) (ta : TA) : TE := fun σ H Q => ta σ H fun vs H1 => ∃ v, vs = [v] ∧ mkOwn C n v H1 Q
/-- X(e) -/
theorem pe_own {k : Nat} {e : Expr} {ta : TA} {p pos : Pos} (T : PySem.Own.Txt X.prog X.K X.mg x n C fI) (hr : Room k X.A) (ha : PA X [e] ta) (hg : Gl X x := by rfl) (hdb : (x == ("__debug__" : Str)) = false := by decide +kernel)
    (he : starEach (e :: []) X.env = (false, eval e X.env) :: starEach [] X.env := by rfl) (hpl : (backTo pos (starEach [] X.env)).any (·.1) = false := by rfl) :
    PE X (.Call (.Name x p) [e] [] pos) (tOwn C n ta) := by
  refine ⟨fun pins s σ H Q I h => ?_⟩
  refine wpAny_Call_Name_kw (ld_glob I hg T.gC ?_ hdb)
  refine PySem.W.callWith_K (h₀ := X.base) I.ok.mod.kin T.kC (thn (ha.run pos pins s σ H _ I h) fun us s1 hh => ?_) he hpl
  obtain ⟨vs, H1, I1, r1, v, ev, q1⟩ := hh
  subst ev
  refine ⟨I1.kIn, ?_⟩
  obtain ⟨u, rfl, r⟩ := vals1 r1
  exact run_own T hr I1 r (.inl ⟨rfl, rfl⟩) q1
/-- X(n = e) -/
theorem pe_ownK {k : Nat} {kws : List Keyword} {tk : TA} {p pos : Pos} (T : PySem.Own.Txt X.prog X.K X.mg x n C fI) (hr : Room k X.A) (hkw : PK X kws tk) (hg : Gl X x := by rfl) (hdb : (x == ("__debug__" : Str)) = false := by decide +kernel)
    (hall : (backToKw pos (keywordEach kws X.env)).all (·.1.isSome) = true := by rfl) (hks : (backToKw pos (keywordEach kws X.env)).filterMap (·.1) = [n] := by rfl)
    (hpl : ((backTo pos (starEach [] X.env)).any (·.1) || (backToKw pos (keywordEach kws X.env)).any (·.1.isNone)) = false := by rfl) : PE X (.Call (.Name x p) [] kws pos) (tOwn C n tk) := by
  refine ⟨fun pins s σ H Q I h => ?_⟩
  refine wpAny_Call_Name_kw (ld_glob I hg T.gC ?_ hdb)
  refine PySem.W.callWith_KW0 (h₀ := X.base) I.ok.mod.kin T.kC hall ?_ hpl
  refine thn (hkw.run pos pins s σ H _ I h) fun ws s2 ⟨zs, H2, I2, rz, v, ev, q2⟩ => ⟨I2.kIn, ?_⟩
  subst ev
  rw [hks]
  obtain ⟨u, rfl, r⟩ := vals1 rz
  exact run_own T hr I2 r (.inr ⟨rfl, rfl⟩) q2

/-- e.n, e an exception held as a value -/
def tExF (K : PySem.W.Frag) (n : Str) (te : TE) : TE := fun σ H Q => te σ H fun x H1 => ∃ (a d C : Addr) (fs : List (Str × V)) (v : V), x = .ref a ∧ H1 a = some (ExV C d a) ∧ XfC K C ∧ PySem.W.findIn K (.ref C) n = some none ∧ H1 d = some (.xd fs) ∧ fs.lookup n = some v ∧ Q v H1
theorem pe_exf {e : Expr} {te : TE} {pos : Pos} (he : PE X e te) (hb : attributeBase e n X.env (eval e X.env) = eval e X.env := by rfl) : PE X (.Attribute e n pos) (tExF X.K n te) := by
  refine ⟨fun pins s σ H Q I h => ?_⟩
  refine attr_of hb (thn (he.run pins s σ H _ I h) fun u s1 hh => ?_)
  obtain ⟨x, H1, I1, rx, a, d, C, fs, v, ex, ea, T, hno, ed, l, q⟩ := hh
  subst ex
  obtain rfl : u = Value.ref a := rx
  obtain ⟨⟨oe, vs, ho0, hz, hd, _⟩, _, _⟩ := I1.hok a _ ea
  have hx : ObjOk X.prog X.w H1 s1.heap d (.xd fs) := I1.hok d _ ed
  obtain ⟨mA, hns, hr⟩ := hx
  obtain ⟨od, ho, hl⟩ := lookIn_ns hns
  obtain ⟨u, hu, ru⟩ := RelO.some_of (v := v) (o := mA n) (l ▸ hr n)
  have J : PySem.W.InstAt s1.heap a oe C (some od) := ⟨ho0, hz.1, by unfold PySem.W.notCls; rw [hd] <;> rfl, by rw [hz.2]; exact ho⟩
  refine HandSPX.exc_get I1.kIn J T.ga T.gg T.exC ?_ (handed_of ru) ⟨v, H1, I1.tok _, ru, q⟩
  exact PySem.W.findObj_own T.hdC hno rfl (by rw [hl, hu])
end
end L2

set_option maxRecDepth 100000
set_option maxHeartbeats 3900000
/-! isinstance of exceptions held as values; repr of lists. -/
namespace L2
open PySem PySem.Spec PyProof.Rows

section
variable {X : Cx}
/-- isinstance(e, c), e an own exception held as a value -/
def rIsV (K : PySem.W.Frag) : List V → Hp → VK → Prop := fun xs H Q => ∃ (a d C : Addr) (fs : List (Str × V)) (c : V) (cv : Value) (b : Bool), xs = [.ref a, c] ∧ H a = some (ExV C d a) ∧ H d = some (.xd fs) ∧ ExcC K C ∧ (PySem.W.clsIn K C).isSome = true ∧ (∀ u, RelV c u → u = cv) ∧ PySem.W.kitOne K (.ref C) cv = some b ∧ Q (.bl b) H
theorem call_isV : CallR X (.builtin "isinstance") (rIsV X.K) := by
  rintro pins s σ H xs us Q I r ⟨a, d, C, fs, c, cv, b, rfl, ha, hd, T, hcl, hcv, e, q⟩
  cases r with
  | cons rx rr =>
    cases rr with
    | cons rt rr =>
      cases rr
      cases rx
      have ec := hcv _ rt
      subst ec
      obtain ⟨⟨oe, vs, ho0, hz, hdt, _⟩, _, _⟩ := I.hok a _ ha
      have hx : ObjOk X.prog X.w H s.heap d (.xd fs) := I.hok d _ hd
      obtain ⟨mA, hns, hr⟩ := hx
      obtain ⟨od, ho, hl⟩ := lookIn_ns hns
      have J : PySem.W.InstAt s.heap a oe C (some od) := ⟨ho0, hz.1, by unfold PySem.W.notCls; rw [hdt] <;> rfl, by rw [hz.2]; exact ho⟩
      exact PySem.W.kia_one (PySem.W.kitx_exc hcl T.hg T.hk T.hs T.ha T.hn T.ht T.hm) I.kIn J e (fun z => nomatch z) fun tk => ⟨.bl b, H, I.kept (t' := tk) fun _ _ z => z, rfl, q⟩

/-- data, an empty dict too -/
inductive Dq (K : PySem.W.Frag) (H : Hp) : V → PyData → Prop
  | data {v : V} {d : PyData} : Dp K H v d → d.hasDict = false → Dq K H v d
  | emp {a : Addr} : H a = some (.dK []) → Dq K H (.ref a) (.dict [])
theorem Dq.reads {pins : List (Addr × Obj)} {σ : St} {H : Hp} {s : Shared} (I : Inv X pins σ H s) {v : V} {d : PyData} {u : Value} (h : Dq X.K H v d) (r : RelV v u) : ∃ as, Reads s.heap u d as ∧ (d.hasDict = true → sysModules ∉ as) := by
  cases h with
  | data h hn =>
    obtain ⟨as, q⟩ := Dp.reads I d v u h r
    exact ⟨as, q, PyData.noDict_hsm hn⟩
  | @emp a e =>
    cases r
    obtain ⟨_, hsm, vs, rel, o, es, ep, ho, hx, hd, _, hp, _⟩ := dk_of I.hok e
    cases rel
    have e1 : es.toList = [] := by
      generalize es.toList = l at hp
      cases hp
      rfl
    have e0 : es = #[] := by simpa using e1
    subst e0
    refine ⟨_, Reads.dict ho hx.1 hd .nil .nil, fun _ hm => ?_⟩
    have z : sysModules = a := by simpa using hm
    rw [z] at hsm
    simp at hsm
theorem reads_four {h : Heap} {u : Value} {d : PyData} {as : List Addr} (r : Reads h u d as) (hsm : d.hasDict = true → sysModules ∉ as) : ∀ n, ∃ bs, ReadsAll h (List.replicate n u) (List.replicate n d) bs ∧ (PyData.hasDictAll (List.replicate n d) = true → sysModules ∉ bs)
  | 0 => ⟨[], .nil, fun _ => by simp⟩
  | n + 1 => by
    obtain ⟨bs, q, k⟩ := reads_four r hsm n
    refine ⟨as ++ bs, .cons r q, fun hx hm => ?_⟩
    cases hd : d.hasDict with
    | true =>
      rcases (List.mem_append.mp hm) with hm | hm
      · exact hsm hd hm
      · have : PyData.hasDictAll (List.replicate n d) = true ∨ n = 0 := by
          cases n with
          | zero => exact .inr rfl
          | succ n => exact .inl (by simp [List.replicate_succ, PyData.hasDictAll, hd])
        rcases this with t | t
        · exact k t hm
        · subst t
          cases q
          exact nomatch hm
    | false =>
      have : ∀ m, PyData.hasDictAll (List.replicate m d) = false := fun m => by
        induction m with
        | zero => rfl
        | succ m ih => simp [List.replicate_succ, PyData.hasDictAll, hd, ih]
      rw [this] at hx
      cases hx
/-- repr(xs), xs a list of n equal data -/
def rRepN (K : PySem.W.Frag) : List V → Hp → VK → Prop := fun xs H Q => ∃ (p : Addr) (n : Nat) (v : V) (d : PyData), xs = [.ref p] ∧ SqL K H p (List.replicate (n + 1) v) ∧ Dq K H v d ∧ d.showable = true ∧ d.depth ≤ 30 ∧
  (listText (PyData.shownAll (List.replicate (n + 1) d))).length ≤ sizeLine ∧ Q (.str (listText (PyData.shownAll (List.replicate (n + 1) d)))) H
theorem depthAll_rep (d : PyData) : ∀ n, PyData.depthAll (List.replicate n d) ≤ d.depth
  | 0 => Nat.zero_le _
  | n + 1 => by
    have := depthAll_rep d n
    simp only [List.replicate_succ, PyData.depthAll]
    omega
theorem showAll_rep {d : PyData} (h : d.showable = true) : ∀ n, PyData.showableAll (List.replicate n d) = true
  | 0 => rfl
  | n + 1 => by simp [List.replicate_succ, PyData.showableAll, h, showAll_rep h n]
theorem vals_rep {v : V} : ∀ {n : Nat} {us : List Value}, Vals (List.replicate n v) us → ∀ {h : Heap} {d : PyData}, (∀ u, RelV v u → ∃ as, Reads h u d as ∧ (d.hasDict = true → sysModules ∉ as)) → ∃ bs, ReadsAll h us (List.replicate n d) bs ∧ (PyData.hasDictAll (List.replicate n d) = true → sysModules ∉ bs)
  | 0, _, .nil, _, _, _ => ⟨[], .nil, fun _ => by simp⟩
  | n + 1, _, .cons r t, h, d, f => by
    obtain ⟨bs, q, k⟩ := vals_rep t f
    obtain ⟨as, ra, ka⟩ := f _ r
    refine ⟨as ++ bs, .cons ra q, fun hx hm => ?_⟩
    cases hd : d.hasDict with
    | true =>
      rcases (List.mem_append.mp hm) with hm | hm
      · exact ka hd hm
      · cases n with
        | zero =>
          cases q
          exact nomatch hm
        | succ n => exact k (by simp [List.replicate_succ, PyData.hasDictAll, hd]) hm
    | false =>
      have : ∀ m, PyData.hasDictAll (List.replicate m d) = false := fun m => by
        induction m with
        | zero => rfl
        | succ m ih => simp [List.replicate_succ, PyData.hasDictAll, hd, ih]
      rw [this] at hx
      cases hx
theorem call_repN (hg : X.A.guards = some []) (hu : X.A.units + 64 < cLine) : CallR X (.builtin "repr") (rRepN X.K) := by
  rintro pins s σ H xs us Q I r ⟨p, n, v, d, rfl, hp, hd, hs, hdep, hz, q⟩
  rcases vals1 r with ⟨u, rfl, rx⟩
  cases (show u = Value.ref p from rx)
  obtain ⟨its, rv, ⟨o, m, ho, hc, _, hdt⟩, _⟩ := I.list hp
  obtain ⟨as, ra, ka⟩ := vals_rep rv (fun u r => Dq.reads I hd r)
  obtain ⟨bs, hb, hk⟩ := ReprAllK.of_readsAll (prog := X.prog) (w := X.w) ra (showAll_rep hs _) ka (fun t ht => Nat.le_trans (listText_mem_le ht) hz)
  have dp := depthAll_rep d (n + 1)
  have hna : p ∉ bs := not_mem_of_deeper (.list ho hc hdt ra) (by simp only [PyData.depth]; omega) hb
  have hT : s.TypeIs (.ref p) "list" := ⟨o, ho, hc⟩
  refine call_repr_slot (by omega) hT PySem.F.slot_list_repr.toG ?_
  cases its with
  | nil => cases rv
  | cons x l =>
    exact call_list_reprK ho hc hdt hna (by simpa using hk.length_eq) (fun i y e => hk.item i y (by simpa using e)) hg (fun b _ => Clear.nil b) (by show X.A.units + 1 + _ < cLine; omega) (fun _ _ e => e) (fun h' u tk hk' => ⟨_, _, rfl, .str _, H, I.kept (t' := tk) hk', ⟨_, rfl⟩, q⟩) hz
end
end L2

set_option maxRecDepth 100000
set_option maxHeartbeats 3900000
/-! Promises of defs that run where no repr is under way (the list of guards is empty): repr may be asked there. -/
namespace L2
open PySem PySem.Spec PyProof.Rows

/-- as FnOk, kept where no guard stands -/
structure FnG (P : Program) (w : World) (K : PySem.W.Frag) (mg : Str → Option Value) (base : Heap) (CX : CXT) (k : Nat) (f : Addr) (fd : FuncData) (ps : List Str) (sp : Sp) : Prop where
  len : ∀ (vs : List V) (H : Hp) (Q : VK) (E : XK), sp vs H Q E → vs.length = ps.length
  run : ∀ (A : Around) (outer : List Env) (s : Shared) (H : Hp) (args : Args) (us : List Value) (vs : List V) (Q : VK) (E : XK), A.guards = some [] → Room k A →
    Env0 P w K mg base A outer s H → BindsTo s fd args (ps.zip us) → Vals vs us → sp vs H Q E → codeAny (model P w) A (.call (.ref f) args) (CR CX outer P w H s Q E) s
theorem FnOk.g {P : Program} {w : World} {K : PySem.W.Frag} {mg : Str → Option Value} {base : Heap} {CX : CXT} {k : Nat} {f : Addr} {fd : FuncData} {ps : List Str} {sp : Sp}
    (F : FnOk P w K mg base CX k f fd ps sp) : FnG P w K mg base CX k f fd ps sp := ⟨F.len, fun A outer s H args us vs Q E _ => F.run A outer s H args us vs Q E⟩

section
variable {P : Program} {w : World} {K : PySem.W.Frag} {mg : Str → Option Value} {base : Heap}
/-- a def by its body, where no guard stands -/
theorem Fun.okG {x qual : Str} {st : Stmt} {f : Addr} {fd : FuncData} {N ps : List Str} {k : Nat} {sp : Sp} (F : Fun K x qual st f fd) (S : FnScope N ps (defScope st)) (len : ∀ vs H Q E, sp vs H Q E → vs.length = ps.length)
    (body : ∀ (cdv : Value) (A : Around) (outer : List Env) (s : Shared) (H : Hp) (vs : List V) (Q : VK) (E : XK), A.guards = some [] → Room k (A.deeper (envOfC qual (defScope st) s.heap.objs.size f cdv)) → sp vs H Q E →
      ∃ t, PSs (cxOf CX0 P w K mg base N qual (defScope st) f cdv A outer s H E).nox (defBody st) t ∧ t { nx := fun _ H' => Q .non H', rt := Q } (start N vs) H) :
    FnG P w K mg base CX0 (k + 1) f fd ps sp := by
  rcases F.ex with ⟨oc, od, kV, doc, pm, an, cdv, ct, osl, rfl, lk, hcd⟩
  refine ⟨len, fun A outer s H args us vs Q E hg hr e0 hb r hs => ?_⟩
  have here : ∀ b o, base.get? b = some o → s.heap.get? b = some o := fun b o e => (e0.bs b o e).1
  have X : K.In s.heap := e0.mod.kin.keeps here
  have kinds : ∀ y ∈ ps.zip us, (defScope st).names.lookup y.1 = some .local ∨
      ((defScope st).names.lookup y.1 = some .cell ∧ ((cellsFrom (s.heap.objs.size + 1) (defScope st).names []).lookup y.1).isSome = true) := by
    rintro ⟨n, v⟩ hy
    exact (S.par n (List.of_mem_zip hy).1).imp id fun q => ⟨q, PySem.W.cellsFrom_some _ _ _ (.inl q)⟩
  refine codeAny_call_function hr.depth (X _ _ lk) (by rfl) S.co S.gen (by rfl) (PySem.W.codeRec_of X hcd) (hb _ _ _ _ ?_)
  refine wpAny_newFunctionEnv_cells S.kind kinds (fun env he s1 x => ?_)
  cases he
  obtain ⟨t, ht, q⟩ := body cdv A outer s H vs Q E hg (hr.deeper _) hs
  have I := inv_start (CX := CX0) (P := P) (w := w) (K := K) (mg := mg) (base := base) (E := E) S hr.hd e0 (len _ _ _ _ hs) r x
  refine ⟨(e0.mod.nolimit.keeps here).keeps x.toInCall.keep, codeAny_func (wpAny_mono (ht.nox.run [] s1 _ H _ I q) (fun fl s' z => ?_) fun _ _ z => z)⟩
  match fl, z with
  | .ret u, ⟨v, σ', H', J, rv, q'⟩ => exact ⟨v, H', J.os, J.bare, J.base, J.hok, rv, q'⟩
  | .next, ⟨σ', H', J, q'⟩ => exact ⟨V.non, H', J.os, J.bare, J.base, J.hok, rfl, q'⟩
  | .brk, ⟨_, _, _, q'⟩ => exact False.elim q'
  | .cont, ⟨_, _, _, q'⟩ => exact False.elim q'
end

/-- the script alone, as it is tracked ahead of the law's call -/
def scriptHp (a : Addr) (vs : List Value) (ns : List Int) : Hp := fun b => if b = a then some (.frz { cls := .type "list", data := .seq vs.toArray } (.lst (ns.map V.int))) else none

/-- the law's own call, by what its def promises of the script -/
theorem lawG {P : Program} {w : World} {K : PySem.W.Frag} {mg mb : Str → Option Value} {k : Nat} {fa a : Addr} {fd : FuncData} {x : Str} {sp : Sp} {s₁ : Shared} {vs : List Value} {ns : List Int}
    (KX : K.In s₁.heap) (hns : s₁.heap.Ns mainGlobals mg) (hb : s₁.heap.Ns builtinsNs mb) (hbb : ∀ x : Str, x ≠ "__name__" → mb x = bootBuiltins x) (hlim : s₁.heap.NoLimit) (hgen : s₁.gens = #[])
    (ha : s₁.heap.get? a = some { cls := .type "list", data := .seq vs.toArray }) (hi : IntsAre vs ns) (hl : ns.length ≤ sizeLine) (hr : Room k PySem.callerA)
    (F : ∀ base : Heap, K.In base → base.Ns mainGlobals mg → FnG P w K mg base CX0 k fa fd [x] sp) (hbind : ∀ (s : Shared) (u : Value), BindsTo s fd ⟨[u], []⟩ [(x, u)])
    (hsp : ∀ H : Hp, Only H → SqL K H a (ns.map V.int) → sp [.ref a] H (fun v _ => v = .bl true) fun _ _ _ => False) :
    codeAny (model P w) PySem.callerA (.call (.ref fa) ⟨[.ref a], []⟩) (fun r s' => r = .ok (.ret (.bool true)) ∧ OldK s₁.heap s'.heap ∧ s'.os = s₁.os ∧ AllBare s'.gens) s₁ := by
  -- which heap is told of: the script's alone, nothing where the module has it
  suffices main : ∀ H : Hp, Only H → SqL K H a (ns.map V.int) → HOk P w H s₁.heap → (∀ b u, H b = some u → b = a ∧ K.lookup b = none) →
      codeAny (model P w) PySem.callerA (.call (.ref fa) ⟨[.ref a], []⟩) (fun r s' => r = .ok (.ret (.bool true)) ∧ OldK s₁.heap s'.heap ∧ s'.os = s₁.os ∧ AllBare s'.gens) s₁ by
    cases e : K.lookup a with
    | some o =>
      have e' := KX a o e
      rw [ha] at e'
      cases e'
      have few : vs.toArray.size ≤ sizeLine := by
        rw [List.size_toArray]
        exact hi.length ▸ hl
      exact main (fun _ => none) (fun _ => .inl rfl) (.inr ⟨_, vs.toArray, _, e, rfl, rfl, rfl, few, by simpa using vals_ints hi⟩) (fun b u z => nomatch z) fun b u z => nomatch z
    | none =>
      have at_a : scriptHp a vs ns a = some (.frz { cls := .type "list", data := .seq vs.toArray } (.lst (ns.map V.int))) := if_pos rfl
      have else_ : ∀ b u, scriptHp a vs ns b = some u → b = a := fun b u z => Classical.byContradiction fun n => by
        rw [show scriptHp a vs ns b = none from if_neg n] at z
        cases z
      refine main (scriptHp a vs ns) (fun b => ?_) (.inl (.inr ⟨_, at_a⟩)) (fun b u z => ?_) fun b u z => ?_
      · by_cases n : b = a
        · exact .inr ⟨_, _, by rw [n]; exact at_a⟩
        · exact .inl (if_neg n)
      · cases else_ b u z
        rw [at_a] at z
        cases z
        exact ⟨ha, by rw [List.length_map]; exact hl, vs, _, vals_ints hi, ha⟩
      · cases else_ b u z
        exact ⟨rfl, e⟩
  intro H hO hS hok hA
  have low : ∀ {b : Addr} {o : Obj}, s₁.heap.get? b = some o → H b = none → (hidT s₁.heap H).get? b = some o := hidT_get
  have nsLow : ∀ {b : Addr} {m : Str → Option Value}, s₁.heap.Ns b m → (hidT s₁.heap H).Ns b m := fun {b m} ⟨o, es, ep, e, d, r⟩ => by
    refine ⟨o, es, ep, low e ?_, d, r⟩
    cases q : H b with
    | none => rfl
    | some u =>
      obtain ⟨rfl, _⟩ := hA b u q
      rw [ha] at e
      cases e
      exact nomatch d
  have kLow : K.In (hidT s₁.heap H) := fun b o e => low (KX b o e) (by
    cases q : H b with
    | none => rfl
    | some u =>
      rw [(hA b u q).2] at e
      cases e)
  obtain ⟨mc, l1, l2⟩ := hlim
  have e0 : Env0 P w K mg (hidT s₁.heap H) PySem.callerA [] s₁ H :=
    ⟨by rfl, ⟨kLow, nsLow hns, ⟨mb, nsLow hb, hbb⟩, mc, nsLow l1, l2⟩, fun b o e => of_hidT e, Nat.le_of_eq (hidT_size _ _), trivial, fun b z => (by simpa [frs] using z : False).elim, hok, .of_eq hgen⟩
  refine codeAny_mono ((F _ kLow (nsLow hns)).run PySem.callerA [] s₁ H ⟨[.ref a], []⟩ [.ref a] [.ref a] _ _ (by rfl) hr e0 (hbind s₁ (.ref a)) (.cons rfl .nil) (hsp H hO hS)) fun r s' h => ?_
  match r, h with
  | .error _, h => exact False.elim h
  | .ok .next, h => exact False.elim h
  | .ok .brk, h => exact False.elim h
  | .ok .cont, h => exact False.elim h
  | .ok (.ret u), ⟨v, H', os, bare, un, hok', r', q⟩ =>
    cases (show v = V.bl true from q)
    cases (show u = Value.bool true from r')
    refine ⟨rfl, OldK.of_keep fun b o e => (?_), os, bare⟩
    rcases (hO b) with z | ⟨ob, xs, z⟩
    · exact un.keep b o e z (fun m => (by simpa [frs] using m : False).elim) fun m => (by simpa using m : False).elim
    · have e1 := (hok b _ z).1
      rw [e] at e1
      cases e1
      exact (hok' b _ (un.frzs b _ _ z)).1

/-- the goal that the head leaves, from the law's promise -/
theorem walkG {l : PySem.W.OpenLaw} {n k : Nat} {q : Program} {loose : List Str} {XP : (Str → Option Value) → Heap → Prop} {YP : World → Heap → Prop} {d : PySem.DefRec} {K : Params → PySem.W.Frag} {sp : PySem.W.Frag → Sp} {x : Str}
    (hn : l.most = some n) (hn2 : n ≤ sizeLine) (hdf : d.params.defaults = []) (hr : Room k PySem.callerA) (hY : ∀ (w : World) (h : Heap), YP w h → (K w.params).In h)
    (F : ∀ (w : World) (mg : Str → Option Value) (fa : Addr) (h : Heap), (K w.params).In h → h.Ns mainGlobals mg → mg d.name = some (.ref fa) →
      ∃ fd : FuncData, (∀ (s : Shared) (u : Value), BindsTo s fd ⟨[u], []⟩ [(x, u)]) ∧ ∀ base : Heap, (K w.params).In base → base.Ns mainGlobals mg → FnG l.prog w (K w.params) mg base CX0 k fa fd [x] (sp (K w.params)))
    (hsp : ∀ (K : PySem.W.Frag) (H : Hp) (a : Addr) (ns : List Int), ns.length ≤ n → Only H → SqL K H a (ns.map V.int) → sp K [.ref a] H (fun v _ => v = .bl true) fun _ _ _ => False) :
    PySem.W.WalkO q loose XP YP l.row.toRowW d [] fun f vs => PySem.call f vs := by
  refine Att.attach_call hn hdf fun w s₀ s₁ mg mb fa o pm cd doc a vs ns G Y _ _ _ hmg hobj hints hlen hg => ?_
  obtain ⟨fd, hb, hF⟩ := F w mg fa _ (hY w _ Y) G.T.g hmg
  exact lawG (hY w _ Y) G.T.g G.T.b G.T.builtins G.T.nolimit hg hobj hints (Nat.le_trans hlen hn2) hr hF hb fun H hO hS => hsp (K w.params) H a ns hlen hO hS
end L2

set_option maxRecDepth 100000
set_option maxHeartbeats 3900000
/-! Walks of own: zip of a list and a tuple, either way about; enumerate of a tuple. A side is a tuple where its mark is true, else a list. -/
namespace Zm
open PySem PySem.Spec PyProof.Rows L2
def Sq (K : PySem.W.Frag) (m : Bool) (H : Hp) (a : Addr) (xs : List V) : Prop := match m with
  | true => SqT K H a xs
  | false => SqL K H a xs
def Seq (m : Bool) (h : Heap) (l : Addr) (its : Array Value) : Prop := match m with
  | true => h.IsTuple l its
  | false => h.IsList l its
def Itr (m : Bool) (h : Heap) (it l : Addr) (i : Nat) : Prop := match m with
  | true => h.IsTupleIter it l i
  | false => h.IsListIter it l i
def its0 (m : Bool) (l : Addr) : Obj := match m with
  | true => { cls := .type "tuple_iterator", data := .fields #[.ref l, .int 0 0] }
  | false => { cls := .type "list_iterator", data := .fields #[.ref l, .int 0 0] }
theorem begins (m : Bool) (l : Addr) (its : Array Value) : Begins (.ref l) (its0 m l) (fun h => Seq m h l its) := by
  cases m
  · exact begins_list l its
  · exact begins_tuple l its
theorem draws {P : Program} {w : World} {A : Around} (m : Bool) (hh : A.handled = none) (it l : Addr) (ne : l ≠ it) (xs : Array Value) :
    Draws P w A it [it, l] xs.size (fun i v => xs[i]? = some v) (fun i h => Itr m h it l i ∧ Seq m h l xs) := by
  cases m
  · exact Draws.list hh it l ne xs
  · exact Draws.tuple hh it l ne xs
theorem itr0 {m : Bool} {h : Heap} {it l : Addr} (e : h.get? it = some (its0 m l)) : Itr m h it l 0 := by
  cases m
  · exact ⟨_, e, rfl, rfl⟩
  · exact ⟨_, e, rfl, rfl⟩
theorem Itr.lives {m : Bool} {h : Heap} {it l : Addr} {i : Nat} (x : Itr m h it l i) : ∃ o, h.get? it = some o ∧ ∀ v, o.data ≠ .cell v := by
  cases m
  · obtain ⟨o, e, _, d⟩ := x
    exact ⟨o, e, fun v q => by rw [d] at q; cases q⟩
  · obtain ⟨o, e, _, d⟩ := x
    exact ⟨o, e, fun v q => by rw [d] at q; cases q⟩
theorem Itr.kept {m : Bool} {h h' : Heap} {it l : Addr} {i : Nat} (x : Itr m h it l i) (k : ∀ o, h.get? it = some o → h'.get? it = some o) : Itr m h' it l i := by
  cases m
  · obtain ⟨o, e, c⟩ := x
    exact ⟨o, k o e, c⟩
  · obtain ⟨o, e, c⟩ := x
    exact ⟨o, k o e, c⟩
theorem side {X : Cx} {pins : List (Addr × Obj)} {σ : L2.St} {H : Hp} {s : Shared} {m : Bool} {a : Addr} {xs : List V} (I : Inv X pins σ H s) (h : Sq X.K m H a xs) : ∃ us : List Value, Vals xs us ∧ Seq m s.heap a us.toArray ∧ a < s.heap.objs.size := by
  cases m
  · obtain ⟨us, r, p, _⟩ := I.list h
    exact ⟨us, r, p.isList, p.lt⟩
  · obtain ⟨us, r, p, _⟩ := I.tuple h
    obtain ⟨o, e, q⟩ := id p
    exact ⟨us, r, p, Heap.lt_size e⟩
theorem one {X : Cx} {pins : List (Addr × Obj)} {σ : L2.St} {H : Hp} {s : Shared} {m : Bool} {a : Addr} {xs ys : List V} (I : Inv X pins σ H s) (h : Sq X.K m H a xs) (k : Sq X.K m H a ys) : xs = ys := by
  cases m
  · exact I.list_inj h k
  · exact I.tuple_inj h k
/-- the two as they stand at each turn, their items in new pairs -/
def ItM (K : PySem.W.Frag) (m k : Bool) (a b : Addr) : It :=
  ⟨fun i H => ∃ xs ys x y, Sq K m H a xs ∧ Sq K k H b ys ∧ xs[i]? = some x ∧ ys[i]? = some y,
   fun i H v H' => ∃ T x y, v = .ref T ∧ H T = none ∧ H' = upd H T (.tup [x, y]) ∧ (∀ xs, Sq K m H a xs → xs[i]? = some x) ∧ (∀ ys, Sq K k H b ys → ys[i]? = some y),
   fun i H => ∃ xs ys, Sq K m H a xs ∧ Sq K k H b ys ∧ i ≤ xs.length ∧ i ≤ ys.length ∧ (xs.length ≤ i ∨ ys.length ≤ i)⟩
def five (n : Nat) : List Nat := [n + 4, n + 2, n + 3, n, n + 1]
theorem five_out {n c : Nat} (h : c ∉ five n) : c ≠ n + 4 ∧ c ≠ n + 2 ∧ c ≠ n + 3 ∧ c ≠ n ∧ c ≠ n + 1 := by
  simp only [five, List.mem_cons, List.not_mem_nil, or_false, not_or] at h
  exact ⟨h.1, h.2.1, h.2.2.1, h.2.2.2.1, h.2.2.2.2⟩
theorem five_in {n c : Nat} (h : c ∈ five n) : n ≤ c ∧ c < n + 5 := by
  simp only [five, List.mem_cons, List.not_mem_nil, or_false] at h
  omega
theorem apart {n a b : Nat} (ha : a < n) (hb : b < n) : ZipSep2 (n + 4) (n + 2) (n + 3) n (n + 1) [n, a] [n + 1, b] := by
  have out : ∀ {x y z : Nat}, x ≠ y → x ≠ z → x ∉ [y, z] := fun h k => by
    simp only [List.mem_cons, List.not_mem_nil, or_false, not_or]
    exact ⟨h, k⟩
  have ne : ∀ {x y : Nat}, x ≠ y → @Ne Addr x y := fun h => h
  exact ⟨ne (by omega), ne (by omega), ne (by omega), ne (by omega), List.mem_cons_self, out (by omega) (by omega), out (by omega) (by omega), ne (by omega), List.mem_cons_self, out (by omega) (by omega), out (by omega) (by omega), out (by omega) (by omega), out (by omega) (by omega)⟩
theorem turn {P : Program} {w : World} {K : PySem.W.Frag} {es : List Expr} {kk : Nat} {tp : Pos} {m k : Bool} {a b : Addr} {n : Nat} (ha : (a : Nat) < n) (hb : (b : Nat) < n) :
    Turn P w K (.Tuple es kk tp) (ItM K m k a b) (five n) (n + 4 : Nat) (fun i h => IsZip h (n + 4 : Nat) (n + 2 : Nat) (n + 3 : Nat) .none ∧ IsTupOf2 h (n + 2 : Nat) (.ref (n : Nat)) (.ref (n + 1 : Nat)) ∧ (∃ x y, IsTupOf2 h (n + 3 : Nat) x y) ∧ Itr m h (n : Nat) a i ∧ Itr k h (n + 1 : Nat) b i) where
  mem := List.mem_cons_self
  obj := fun i h ⟨z, ti, ⟨x, y, to⟩, u1, u2⟩ c hc => by
    simp only [five, List.mem_cons, List.not_mem_nil, or_false] at hc
    rcases hc with q | q | q | q | q
    · exact q ▸ ⟨_, z, fun v r => nomatch r⟩
    · exact q ▸ ⟨_, ti, fun v r => nomatch r⟩
    · exact q ▸ ⟨_, to, fun v r => nomatch r⟩
    · exact q ▸ u1.lives
    · exact q ▸ u2.lives
  keep := fun i h h' ⟨z, ti, ⟨x, y, to⟩, u1, u2⟩ kp =>
    have mem : ∀ c : Nat, c = n + 4 ∨ c = n + 2 ∨ c = n + 3 ∨ c = n ∨ c = n + 1 → c ∈ five n := fun c q => by
      simp only [five, List.mem_cons, List.not_mem_nil, or_false]
      exact q
    ⟨kp _ (mem _ (by omega)) _ z, kp _ (mem _ (by omega)) _ ti, ⟨x, y, kp _ (mem _ (by omega)) _ to⟩, u1.kept fun o e => kp _ (mem _ (by omega)) o e, u2.kept fun o e => kp _ (mem _ (by omega)) o e⟩
  item := by
    intro X eP ew eK hc i pins s σ H E I hf ⟨hz, hTI, ⟨x0, y0, hTO⟩, h1, h2⟩ ⟨xs, ys, x, y, hx, hy, gx, gy⟩
    subst eP ew eK
    obtain ⟨us, r1, p1, l1⟩ := side I hx
    obtain ⟨vs, r2, p2, l2⟩ := side I hy
    obtain ⟨u, gu, ru⟩ := r1.get gx
    obtain ⟨v, gv, rv⟩ := r2.get gy
    have z5 : (n + 4 : Nat) < s.heap.objs.size := Heap.lt_size hz
    have nn : ∀ {x y : Nat}, x ≠ y → @Ne Addr x y := fun h => h
    have na : @Ne Addr a (n : Nat) := Nat.ne_of_lt ha
    have nb : @Ne Addr b (n + 1 : Nat) := Nat.ne_of_lt (Nat.lt_succ_of_lt hb)
    have D1 := draws (P := X.prog) (w := X.w) (A := X.A.in1) m (I.ok.hd hc) (n : Nat) a na us.toArray
    have D2 := draws (P := X.prog) (w := X.w) (A := X.A.in1) k (I.ok.hd hc) (n + 1 : Nat) b nb vs.toArray
    have i1 : i < us.toArray.size := by
      have := (List.getElem?_eq_some_iff.mp gu).1
      simpa using this
    have i2 : i < vs.toArray.size := by
      have := (List.getElem?_eq_some_iff.mp gv).1
      simpa using this
    refine wpAny_pyNext_zipD2_item (apart ha hb) D1 D2 hz hTI hTO ⟨h1, p1⟩ ⟨h2, p2⟩ i1 i2 fun x1 x2 h' tk q1 q2 z' TO' s1 s2 hT hsz hk => ?_
    have eu : x1 = u := by
      have q1 : us.toArray[i]? = some x1 := q1
      rw [List.getElem?_toArray, gu] at q1
      exact (Option.some.inj q1).symm
    have ev : x2 = v := by
      have q2 : vs.toArray[i]? = some x2 := q2
      rw [List.getElem?_toArray, gv] at q2
      exact (Option.some.inj q2).symm
    subst eu ev
    refine ⟨_, rfl, wpAny_letOwnedTupleGo_zip (s := { s with heap := h', toks := tk }) z' fun h'' z'' sb => ?_⟩
    have sz : (s.heap.objs.size : Nat) ≠ n + 4 := by omega
    have hT2 : h''.get? s.heap.objs.size = some { cls := .type "tuple", data := .seq #[x1, x2] } := (sb.2 _ sz).trans hT
    have new : ObjOk X.prog X.w (upd H s.heap.objs.size (.tup [x, y])) h'' s.heap.objs.size (.tup [x, y])
        :=
      ⟨(by show 2 ≤ sizeLine; decide), [x1, x2], .cons ru (.cons rv .nil), _, hT2, rfl, _, rfl⟩
    have I1 : Inv X pins σ (upd H s.heap.objs.size (.tup [x, y])) { s with heap := h'', toks := tk } :=
      I.turnedNew (t' := tk) (ch := five n) (fun c o hc' q => by
        obtain ⟨c1, c2, c3, c4, c5⟩ := five_out hc'
        exact (sb.2 c c1).trans (hk c o c1 c3 c4 c5 q)) hf (Nat.le_refl _) new
    refine ⟨.ref s.heap.objs.size, _, I1, rfl, ⟨_, x, y, rfl, I.hok.fresh (Nat.le_refl _), rfl, fun l hl => by rw [one I hl hx]; exact gx, fun l hl => by rw [one I hl hy]; exact gy⟩, ⟨z'', ?_, ⟨x1, x2, ?_⟩, ?_, ?_⟩, fun c hcm => ?_⟩
    · exact (sb.2 _ (nn (by omega))).trans (hk _ _ (nn (by omega)) (nn (by omega)) (nn (by omega)) (nn (by omega)) hTI)
    · exact (sb.2 _ (nn (by omega))).trans TO'
    · exact s1.1.kept fun o q => (sb.2 _ (nn (by omega))).trans q
    · exact s2.1.kept fun o q => (sb.2 _ (nn (by omega))).trans q
    · have := (five_in hcm).2
      rw [upd_ne (Nat.ne_of_lt (Nat.lt_of_lt_of_le this z5))]
      exact (hf c hcm).1
  done := by
    intro X eP ew eK hc i pins s σ H E I hf ⟨hz, hTI, ⟨x0, y0, hTO⟩, h1, h2⟩ ⟨xs, ys, hx, hy, le1, le2, hend⟩
    subst eP ew eK
    obtain ⟨us, r1, p1, l1⟩ := side I hx
    obtain ⟨vs, r2, p2, l2⟩ := side I hy
    have nn : ∀ {x y : Nat}, x ≠ y → @Ne Addr x y := fun h => h
    have na : @Ne Addr a (n : Nat) := Nat.ne_of_lt ha
    have nb : @Ne Addr b (n + 1 : Nat) := Nat.ne_of_lt (Nat.lt_succ_of_lt hb)
    have D1 := draws (P := X.prog) (w := X.w) (A := X.A.in1) m (I.ok.hd hc) (n : Nat) a na us.toArray
    have D2 := draws (P := X.prog) (w := X.w) (A := X.A.in1) k (I.ok.hd hc) (n + 1 : Nat) b nb vs.toArray
    have e1 := r1.length
    have e2 := r2.length
    refine wpAny_pyNext_zipD2_end (i := i) (apart ha hb) D1 D2 hz hTI hTO ⟨h1, p1⟩ ⟨h2, p2⟩ (by rw [List.size_toArray]; omega) (by rw [List.size_toArray]; omega) ?_ fun h' tk hk => ⟨rfl, I.turnedL (t' := tk) (ch := five n) (fun c o hc' q => ?_) hf⟩
    · rw [List.size_toArray, List.size_toArray]
      omega
    · obtain ⟨c1, c2, c3, c4, c5⟩ := five_out hc'
      exact hk c o c1 c3 c4 c5 q
  self := fun A i s Q E st h => wpAny_pyIter_zip st.1
      h
def iZipM (K : PySem.W.Frag) (m k : Bool) (ta : TA) : TI := fun σ H R => ta σ H fun vs H1 => ∃ a b xs ys, vs = [.ref a, .ref b] ∧ Sq K m H1 a xs ∧ Sq K k H1 b ys ∧ R (ItM K m k a b) H1
/-- for .. in zip(e, e2): lists or tuples, by their marks -/
theorem pi_zipM (m k : Bool) {X : Cx} {e e2 : Expr} {ta : TA} {p pos tp : Pos} {es : List Expr} {kk : Nat} (hg : Gl X "zip") (hm : X.mg "zip" = none) (ha : PA X [e, e2] ta)
    (hs : starEach [e, e2] X.env = (false, eval e X.env) :: starEach [e2] X.env := by rfl) (hpl : (backTo pos (starEach [e2] X.env)).any (·.1) = false := by rfl) : PI X (.Tuple es kk tp) (.Call (.Name "zip" p) [e, e2] [] pos) (iZipM X.K m k ta) := by
  refine ⟨fun pins s σ H R I h => Call_ (ld_blt I hg hm PyProof.Rows.boot_zip (PyProof.Rows.callWith_type1 (thn (ha.run pos pins s σ H _ I h) fun us s1 ⟨vs, H1, I1, r1, q1⟩ => ?_) hs hpl))⟩
  obtain ⟨a, b, xs, ys, rfl, hx, hy, q⟩ := q1
  obtain ⟨u1, u2, rfl, ra, rb⟩ := vals2 r1
  cases ra
  cases rb
  obtain ⟨us, _, p1, l1⟩ := side I1 hx
  obtain ⟨vs, _, p2, l2⟩ := side I1 hy
  refine zip_begins2 (begins m a us.toArray) (begins k b vs.toArray) p1 p2 fun h' hz hTI hTO g1 g2 hsz hk => wpAny_pyIter_zip hz ?_
  exact ⟨(s1.heap.objs.size + 4 : Nat), five s1.heap.objs.size, _, _, H1, rfl, I1.kept (t' := s1.toks) hk, turn (n := s1.heap.objs.size) l1 l2, ⟨hz, hTI, ⟨_, _, hTO⟩, itr0 g1, itr0 g2⟩, fun c hc => I1.fpOk (five_in hc).1 (I1.hok.fresh (five_in hc).1), q⟩
theorem walk {K : PySem.W.Frag} {m k : Bool} {a b : Addr} {xs ys : List V} {n : Nat} (hn : n = min xs.length ys.length) : Walk (ItM K m k a b) n (fun H => Sq K m H a xs ∧ Sq K k H b ys) (YPair (fun i => xs[i]?) (fun i => ys[i]?)) := by
  subst hn
  refine ⟨fun i H hi q => ?_, fun H q => ⟨xs, ys, q.1, q.2, by omega, by omega, by omega⟩, fun i H v H' _ q y => ?_⟩
  · exact ⟨xs, ys, _, _, q.1, q.2, List.getElem?_eq_getElem (by omega), List.getElem?_eq_getElem (by omega)⟩
  · obtain ⟨T, x, z, e1, e2, e3, e4, e5⟩ := y
    exact ⟨T, x, z, e1, e2, e3, e4 xs q.1, e5 ys q.2⟩
end Zm
namespace Zm
open PySem PySem.Spec PyProof.Rows L2
/-- enumerate(v), v anything whose iter is known -/
theorem meets_enum {v : Value} {o : Obj} {Hv : Heap → Prop} (B : Begins v o Hv) : Meets (Builtin.«enumerate.__new__» ⟨[.type "enumerate", v], []⟩) (fun _ R s => Hv s.heap ∧
      R (.ok (.ret (.ref (s.heap.push o).objs.size))) { s with heap := (s.heap.push o).push { cls := .type "enumerate", data := .fields #[.none, .bool false, .ref s.heap.objs.size, rawInt 0, .none, .none] } }) := .of_wp fun prog w A R s h => by
    rcases s with ⟨hp, g, d, tk, os⟩
    obtain ⟨h1, h⟩ := h
    have hsub := sub_enumerate
    have begun : ∀ {A' : Around} {E : Value → Shared → Prop} {Q : Value → Shared → Prop}, Q (.ref hp.objs.size) ⟨hp.push o, g, d, tk, os⟩ → wpAny (model prog w) A' (pyIter v) Q E ⟨hp, g, d, tk, os⟩ := fun q => B.iter prog w _ _ ⟨hp, g, d, tk, os⟩ _ h1 q
    wp_walk using begun
    refine wpAny_stack_any fun st => wpAny_pure
        ?_
    split
    · rename_i c _ _ _ _ _
      cases (c == Value.type "enumerate") <;> (wp_walk using begun; exact ⟨_, rfl, h⟩)
    · wp_walk using begun
      exact ⟨_, rfl, h⟩
end Zm

set_option maxRecDepth 100000
set_option maxHeartbeats 3900000
namespace Zm
open PySem PySem.Spec PyProof.Rows L2
/-- the one as it stands at each turn, each item in a new pair behind its number -/
def ItE (K : PySem.W.Frag) (m : Bool) (a : Addr) : It :=
  ⟨fun i H => ∃ xs x, Sq K m H a xs ∧ xs[i]? = some x,
   fun i H v H' => ∃ T x, v = .ref T ∧ H T = none ∧ H' = upd H T (.tup [.int (i : Nat), x]) ∧ (∀ xs, Sq K m H a xs → xs[i]? = some x),
   fun i H => ∃ xs, Sq K m H a xs ∧ xs.length = i⟩
def two (n : Nat) : List Nat := [n + 1, n]
theorem two_out {n c : Nat} (h : c ∉ two n) : c ≠ n + 1 ∧ c ≠ n := by
  simp only [two, List.mem_cons, List.not_mem_nil, or_false, not_or] at h
  exact h
theorem two_in {n c : Nat} (h : c ∈ two n) : n ≤ c ∧ c < n + 2 := by
  simp only [two, List.mem_cons, List.not_mem_nil, or_false] at h
  omega
theorem turnE {P : Program} {w : World} {K : PySem.W.Frag} {es : List Expr} {kk : Nat} {tp : Pos} {m : Bool} {a : Addr} {n : Nat} (ha : (a : Nat) < n) :
    Turn P w K (.Tuple es kk tp) (ItE K m a) (two n) (n + 1 : Nat) (fun i h => (∃ old, IsEnum h (n + 1 : Nat) (n : Nat) ((i : Nat) : Int) old) ∧ Itr m h (n : Nat) a i) where
  mem := List.mem_cons_self
  obj := fun i h ⟨⟨old, e⟩, u⟩ c hc => by
    simp only [two, List.mem_cons, List.not_mem_nil, or_false] at hc
    rcases hc with q | q
    · exact q ▸ ⟨_, e, fun v r => nomatch r⟩
    · exact q ▸ u.lives
  keep := fun i h h' ⟨⟨old, e⟩, u⟩ kp => ⟨⟨old, kp _ List.mem_cons_self _ e⟩, u.kept fun o q => kp _ (List.mem_cons_of_mem _ List.mem_cons_self) o q⟩
  item := by
    intro X eP ew eK hc i pins s σ H E I hf ⟨⟨old, he⟩, h1⟩ ⟨xs, x, hx, gx⟩
    subst eP ew eK
    obtain ⟨us, r1, p1, l1⟩ := side I hx
    obtain ⟨u, gu, ru⟩ := r1.get gx
    have z5 : (n + 1 : Nat) < s.heap.objs.size := Heap.lt_size he
    have nn : ∀ {x y : Nat}, x ≠ y → @Ne Addr x y := fun h => h
    have na : @Ne Addr a (n : Nat) := Nat.ne_of_lt ha
    have nb : @Ne Addr (n + 1 : Nat) a := Nat.ne_of_gt (Nat.lt_succ_of_lt ha)
    have D := draws (P := X.prog) (w := X.w) (A := X.A.in1) m (I.ok.hd hc) (n : Nat) a na us.toArray
    have i1 : i < us.toArray.size := by
      have := (List.getElem?_eq_some_iff.mp gu).1
      simpa using this
    refine wpAny_pyNext_enum_itemD D he ⟨h1, p1⟩ i1 (nn (Nat.succ_ne_self n)) (fun q => ?_) fun y h' tk q1 out s1 hT hsz hk => ?_
    · obtain q | q := List.mem_cons.mp q
      · exact Nat.succ_ne_self n q
      · exact nb (List.mem_singleton.mp q)
    have eu : y = u := by
      have q1 : us.toArray[i]? = some y := q1
      rw [List.getElem?_toArray, gu] at q1
      exact (Option.some.inj q1).symm
    subst eu
    refine ⟨_, rfl, wpAny_letOwnedTupleGo_enum (s := { s with heap := h', toks := tk + 1 }) out fun h'' e'' sb => ?_⟩
    have sz : (s.heap.objs.size : Nat) ≠ n + 1 := by omega
    have hT2 : h''.get? s.heap.objs.size = some { cls := .type "tuple", data := .seq #[.int i tk, y] } := (sb.2 _ sz).trans hT
    have new : ObjOk X.prog X.w (upd H s.heap.objs.size (.tup [.int (i : Nat), x])) h'' s.heap.objs.size (.tup [.int (i : Nat), x])
        :=
      ⟨(by show 2 ≤ sizeLine; decide), [.int i tk, y], .cons ⟨_, rfl⟩ (.cons ru .nil), _, hT2, rfl, _, rfl⟩
    have I1 : Inv X pins σ (upd H s.heap.objs.size (.tup [.int (i : Nat), x])) { s with heap := h'', toks := tk + 1 } :=
      I.turnedNew (t' := tk + 1) (ch := two n) (fun c o hc' q => by
        obtain ⟨c1, c2⟩ := two_out hc'
        exact (sb.2 c c1).trans (hk c o c1 c2 q)) hf (Nat.le_refl _) new
    refine ⟨.ref s.heap.objs.size, _, I1, rfl, ⟨_, x, rfl, I.hok.fresh (Nat.le_refl _), rfl, fun l hl => by rw [one I hl hx]; exact gx⟩, ⟨⟨y, ?_⟩, ?_⟩, fun c hcm => ?_⟩
    · have e1 : ((i + 1 : Nat) : Int) = (i : Int) + 1 := by
          omega
      rw [e1]
      exact e''
    · exact s1.1.kept fun o q => (sb.2 _ (nn (Nat.ne_of_lt (Nat.lt_succ_self n)))).trans q
    · have := (two_in hcm).2
      rw [upd_ne (Nat.ne_of_lt (Nat.lt_of_lt_of_le this z5))]
      exact (hf c hcm).1
  done := by
    intro X eP ew eK hc i pins s σ H E I hf ⟨⟨old, he⟩, h1⟩ ⟨xs, hx, hend⟩
    subst eP ew eK
    obtain ⟨us, r1, p1, l1⟩ := side I hx
    have na : @Ne Addr a (n : Nat) := Nat.ne_of_lt ha
    have D := draws (P := X.prog) (w := X.w) (A := X.A.in1) m (I.ok.hd hc) (n : Nat) a na us.toArray
    have e1 : us.toArray.size = i := by
      rw [List.size_toArray, ← r1.length]
      exact hend
    rw [e1] at D
    exact wpAny_pyNext_enum_endD D he ⟨h1, p1⟩ fun h' eb => ⟨rfl, I.turnedL (t' := s.toks) (ch := two n) (fun c o hc' q => eb c o (two_out hc').2 q) hf⟩
  self := fun A i s Q E st h => let ⟨⟨_, he⟩, _⟩ := st; wpAny_pyIter_enum he
      h
def iEnumM (K : PySem.W.Frag) (m : Bool) (ta : TA) : TI := fun σ H R => ta σ H fun vs H1 => ∃ a xs, vs = [.ref a] ∧ Sq K m H1 a xs ∧ R (ItE K m a) H1
/-- for .. in enumerate(e): a list or a tuple, by its mark -/
theorem pi_enumM (m : Bool) {X : Cx} {e : Expr} {ta : TA} {p pos tp : Pos} {es : List Expr} {kk : Nat} (hg : Gl X "enumerate") (hm : X.mg "enumerate" = none) (ha : PA X [e] ta) (hs : starEach [e] X.env = [(false, eval e X.env)] := by rfl) :
    PI X (.Tuple es kk tp) (.Call (.Name "enumerate" p) [e] [] pos) (iEnumM X.K m ta) := by
  refine ⟨fun pins s σ H R I h => Call_ (ld_blt I hg hm boot_enumerate (PyProof.Rows.callWith_type1 (thn (ha.run pos pins s σ H _ I h) fun us s1 ⟨vs, H1, I1, r1, q1⟩ => ?_) hs rfl))⟩
  obtain ⟨a, xs, rfl, hx, q⟩ := q1
  obtain ⟨u1, rfl, ra⟩ := vals1 r1
  cases ra
  obtain ⟨us, _, p1, l1⟩ := side I1 hx
  have B := begins m a us.toArray
  refine callType_new F.called_enumerate (by decide) (F.typeCall_enumerate_1 _) (F.newCall_enumerate_1 _) (fun obj => F.args_object_init_2 obj _) F.entry_enumerate_new (meets_enum B) ⟨p1, ?_⟩
  have hz : (s1.heap.push (its0 m a)).objs.size = s1.heap.objs.size + 1 := Heap.size_push ..
  obtain ⟨en, een⟩ : ∃ en : Obj, en = { cls := .type "enumerate", data := .fields #[.none, .bool false, .ref s1.heap.objs.size, rawInt 0, .none, .none] } := ⟨_, rfl⟩
  have ge : ((s1.heap.push (its0 m a)).push en).get? (s1.heap.objs.size + 1) = some en := by
    have := Heap.get?_push_size (s1.heap.push (its0 m a)) (o := en) (by rw [een]; rfl)
    rwa [hz] at this
  have gi : ((s1.heap.push (its0 m a)).push en).get? s1.heap.objs.size = some (its0 m a) := Heap.get?_push_of_some _ (Heap.get?_push_size _ B.free)
  have he : IsEnum ((s1.heap.push (its0 m a)).push en) (s1.heap.objs.size + 1) s1.heap.objs.size 0 .none := by
    rw [een] at ge ⊢
    exact ge
  show _ ∧ _
  rw [hz, ← een]
  refine ⟨⟨_, ge, by rw [een]⟩, wpAny_pyIter_enum he ?_⟩
  exact ⟨(s1.heap.objs.size + 1 : Nat), two s1.heap.objs.size, _, _, H1, rfl, I1.kept (t' := s1.toks) (fun b o x => Heap.get?_push_of_some _ (Heap.get?_push_of_some _ x)), turnE (n := s1.heap.objs.size) l1, ⟨⟨_, he⟩, itr0 gi⟩, fun c hc => I1.fpOk (two_in hc).1 (I1.hok.fresh (two_in hc).1), q⟩
theorem walkE {K : PySem.W.Frag} {m : Bool} {a : Addr} {xs : List V} : Walk (ItE K m a) xs.length (fun H => Sq K m H a xs) (YPair (fun i => some (.int (i : Nat))) (fun i => xs[i]?)) := by
  refine ⟨fun i H hi q => ⟨xs, _, q, List.getElem?_eq_getElem hi⟩, fun H q => ⟨xs, q, rfl⟩, fun i H v H' _ q y => ?_⟩
  obtain ⟨T, x, e1, e2, e3, e4⟩ := y
  exact ⟨T, .int (i : Nat), x, e1, e2, e3, rfl, e4 xs q⟩
end Zm

set_option maxRecDepth 100000
set_option maxHeartbeats 3900000
/-! Methods of own: xs.extend(a tuple), d.update(a dict). -/
namespace Zm
open PySem PySem.Spec PyProof.Rows L2
theorem meets_extT (l : Addr) (xs : Array Value) (n : Nat) (b : Addr) (ys : Array Value) (few : ¬ (!xs.isEmpty && Builtin.List.listTooLong (xs.size + ys.size)) = true) (h1 : xs.size ≤ sizeLine) (h2 : xs.size + ys.size ≤ sizeLine + 1) :
    Meets (Builtin.«list.extend» ⟨[.ref l, .ref b], []⟩) (fun _ R s => s.heap.get? l = some { cls := .type "list", dict := none, data := .seq xs n, slots := #[] } ∧ s.heap.IsTuple b ys ∧
      R (.ok (.ret Value.none)) { s with heap := s.heap.update l (Obj.mapSeq fun x => x ++ ys), toks := s.toks }) := .of_wp fun prog w A R s h => by
    rcases s with ⟨hp, g, d, tk, os⟩
    obtain ⟨hl, ⟨⟨c, dct, dt, sl⟩, hb, hc, n2, hd⟩, h⟩ := h
    replace hc : c = .type "tuple" := hc
    replace hd : dt = .seq ys n2 := hd
    subst hc hd
    have a1 := AutoSeq1.idx_int
    have a2 := AutoSeq1.sub_tuple_tuple
    have a3 := AutoSeq1.sub_list_list
    have a4 := AutoSeq1.sub_tuple_list
    have a5 := AutoSeq1.sub_list_tuple
    have fits : (xs ++ ys).size ≤ sizeLine + 1 := by
      rw [Array.size_append]
      exact h2
    wp_walk using (wpAny_updateSeq hl rfl (hz := h1) (_hz' := fits)), AutoSeq1.wpAny_loadPart' hl, AutoSeq1.wpAny_loadPart' hb
    exact ⟨_, rfl, h⟩
/-- xs.extend(t) -/
def rExtT (K : PySem.W.Frag) : V → List V → Hp → VK → Prop := fun x vs H Q => ∃ l b xs zs, x = .ref l ∧ vs = [.ref b] ∧ H l = some (.lst xs) ∧ SqT K H b zs ∧ xs.length + zs.length ≤ sizeLine ∧ Q .non (upd H l (.lst (xs ++ zs)))
theorem mt_extendT {X : Cx} : MtM X "list.extend" (rExtT X.K) := by
  intro pins s σ H x vs v us Q I rx
  intro rv h
  rcases h with ⟨l, b, xs, zs, rfl, rfl, hH, hB, hz, q⟩
  cases rx
  obtain ⟨u, rfl, ru⟩ := rv.one
  cases ru
  rcases I.lstM hH with ⟨z, its, n, r, hl, e⟩
  obtain ⟨its2, r2, p2, _⟩ := I.tuple hB
  have e2 := r2.length
  have few : its.toArray.size + its2.toArray.size ≤ sizeLine := by
    rw [List.size_toArray]
    rw [List.size_toArray]
    omega
  refine call_meets F.slot_list_extend ⟨_, e, rfl⟩ F.entry_list_extend (F.args_list_extend_2 _ _) (meets_extT l its.toArray n b its2.toArray ?_ (by omega) (by omega)) ⟨e, p2, .non, _, I.lset (its' := its ++ its2) hH e (by simp) (r.append r2) ?_, rfl, q⟩
  · rw [notLongL few, Bool.and_false]
    exact Bool.false_ne_true
  · rw [List.length_append]
    omega
theorem mergeK_len : ∀ (ls ks : List (Key × V)), (mergeK ks ls).length ≤ ks.length + ls.length
  | [], ks => Nat.le_refl _
  | p :: r, ks => by
    have h1 := mergeK_len r (putK ks p.1 p.2)
    have h2 := length_putK ks p.1 p.2
    show (mergeK (putK ks p.1 p.2) r).length ≤ _
    rw [List.length_cons]
    omega
/-- d.update(e) -/
def rUpd : V → List V → Hp → VK → Prop := fun x vs H Q => ∃ d e ks ls, x = .ref d ∧ vs = [.ref e] ∧ H d = some (.dK ks) ∧ H e = some (.dK ls) ∧ d ≠ e ∧ ks.length + ls.length ≤ sizeLine ∧ Q .non (upd H d (.dK (mergeK ks ls)))
theorem mt_update {X : Cx} : MtR X "dict.update" rUpd := by
  intro pins s σ H x vs v us Q I rx
  intro rv h
  obtain ⟨d, e, ks, ls, rfl, rfl, h1, h2, ne, hz, q⟩ := h
  cases rx
  obtain ⟨u, rfl, ru⟩ := rv.one
  cases ru
  obtain ⟨_, lo, ps, rel, dd⟩ := dk_of I.hok h1
  obtain ⟨_, lo2, qs, rel2, dd2⟩ := dk_of I.hok h2
  have e1 := rel.length
  have e2 := rel2.length
  refine call_meetsIn PySem.F.slot_dict_update dd.typeIs PySem.F.entry_dict_update (PySem.F.args_dict_update_2 _ _) (meets_dict_update (mixKind X.prog X.w) d e ne lo2) ⟨ps, qs, dd, dd2, by omega, fun h' dd' _ hs => ?_⟩
  have there : ∃ z, h'.get? d = some z := let ⟨z, _, _, hz, _⟩ := dd'; ⟨z, hz⟩
  refine ⟨.non, _, d_write (t' := s.toks) I (by rw [h1]; exact True.intro) hs there (dk_new ?_ lo (rel2.merge rel) dd'), rfl, q⟩
  exact Nat.le_trans (mergeK_len ls ks) (by omega)
end Zm

set_option maxRecDepth 100000
set_option maxHeartbeats 3900000
namespace Zm
open PySem PySem.Spec PyProof.Rows L2
/-! ### min and max of a tuple of ints -/
section
variable {prog : Program} {w : World} {A : Around} {E : Value → Shared → Prop} {s : Shared} {l : Addr} {its : List Value} {ns : List Int} {Q : Value → Shared →
    Prop}
theorem tup_walk {xs : Array (Int × Tok)} {R : Value → Shared → Prop} (hh : A.handled = none) (hT : s.heap.IsTuple l (intItems xs))
    (h : ∀ (I : Addr) (s2 : Shared), s2 = { s with heap := s2.heap } → (∀ b o, s.heap.get? b = some o → s2.heap.get? b = some o) → s.heap.objs.size ≤ I → (∀ b ∈ [I, l], b < s2.heap.objs.size) →
      (fun (i : Nat) (h : Heap) => h.IsTupleIter I l i ∧ h.IsTuple l (intItems xs)) 0 s2.heap → Walks prog w A.in1 I [I, l] [I] (intItems xs).size (fun i v => (intItems xs)[i]? = some v) (fun i h => h.IsTupleIter I l i ∧ h.IsTuple l (intItems xs)) → R (.ref I) s2) :
    wpAny (model prog w) A.in1 (pyIter (.ref l)) R E s := by
  have hlt : l < s.heap.objs.size := by
    obtain ⟨o, e, _⟩ := hT
    exact Heap.lt_size e
  refine wpAny_pyIter_tuple hT ?_
  refine h s.heap.objs.size _ rfl (fun b o e => Heap.get?_push_of_some _ e) (Nat.le_refl _) (fun b hb => ?_) ⟨⟨_, Heap.get?_push_size _ rfl, rfl, rfl⟩, hT.push _⟩ (Walks.tuple (A := A.in1) hh _ l (Nat.ne_of_lt hlt) (intItems xs))
  show b < (s.heap.push _).objs.size
  rw [Heap.size_push]
  obtain e | e := List.mem_cons.mp hb
  · rw [e]
    exact Nat.lt_succ_self _
  · rw [List.mem_singleton.mp e] <;> skip
    exact Nat.lt_succ_of_lt hlt
theorem min_tup {xs : Array (Int × Tok)} (hh : A.handled = none) (hT : s.heap.IsTuple l (intItems xs)) (hne : 0 < xs.size)
    (h : ∀ h' tk i t, i ∈ xs.toList.map (·.1) → (∀ b o, s.heap.get? b = some o → h'.get? b = some o) → Q (.int i t) { s with heap := h', toks := tk }) : wpAny (model prog w) A (call (.builtin "min") [.ref l]) Q E s := by
  refine call_min_walk (tup_walk hh hT fun I s2 es k1 hI hfp st W => ⟨I, _, _, _, _, _, _, rfl, W, st, hfp, by simpa [intItems] using hne, CmpOf.ints_lt (numAt xs) (fun _ _ => intItems_at), fun v h' tk hP hk => ?_⟩)
  obtain ⟨h1, _⟩ := argBest_lt (numAt xs) ((intItems xs).size - 1)
  obtain ⟨t, rfl⟩ := intItems_at hP
  rw [es]
  refine h h' tk _ t ?_ fun b o e => hk b o (fun m => ?_) (k1 b o e)
  · rw [numAt_eq]
    refine PySem.getD_mem ?_
    rw [List.length_map]
    rw [Array.length_toList]
    have z : (intItems xs).size = xs.size := Array.size_map ..
    have p : 0 < (intItems xs).size := by rw [z]; exact hne
    exact Nat.lt_of_lt_of_le (Nat.lt_of_le_of_lt h1 (Nat.sub_lt p Nat.zero_lt_one)) (Nat.le_of_eq z)
  · have := Heap.lt_size e
    rw [List.mem_singleton.mp m] at this
    exact absurd this (Nat.not_lt.mpr hI)
theorem max_tup {xs : Array (Int × Tok)} (hh : A.handled = none) (hT : s.heap.IsTuple l (intItems xs)) (hne : 0 < xs.size)
    (h : ∀ h' tk i t, i ∈ xs.toList.map (·.1) → (∀ b o, s.heap.get? b = some o → h'.get? b = some o) → Q (.int i t) { s with heap := h', toks := tk }) : wpAny (model prog w) A (call (.builtin "max") [.ref l]) Q E s := by
  refine call_max_walk (tup_walk hh hT fun I s2 es k1 hI hfp st W => ⟨I, _, _, _, _, _, _, rfl, W, st, hfp, by simpa [intItems] using hne, CmpOf.ints_gt (numAt xs) (fun _ _ => intItems_at), fun v h' tk hP hk => ?_⟩)
  obtain ⟨h1, _⟩ := argBest_gt (numAt xs) ((intItems xs).size - 1)
  obtain ⟨t, rfl⟩ := intItems_at hP
  rw [es]
  refine h h' tk _ t ?_ fun b o e => hk b o (fun m => ?_) (k1 b o e)
  · rw [numAt_eq]
    refine PySem.getD_mem ?_
    rw [List.length_map]
    rw [Array.length_toList]
    have z : (intItems xs).size = xs.size := Array.size_map ..
    have p : 0 < (intItems xs).size := by rw [z]; exact hne
    exact Nat.lt_of_lt_of_le (Nat.lt_of_le_of_lt h1 (Nat.sub_lt p Nat.zero_lt_one)) (Nat.le_of_eq z)
  · have := Heap.lt_size e
    rw [List.mem_singleton.mp m] at this
    exact absurd this (Nat.not_lt.mpr hI)
end
section
variable {X : Cx}
/-- min(t), max(t) of a tuple of ints: one of them -/
def rMmT (K : PySem.W.Frag) : List V → Hp → VK → Prop := fun vs H Q => ∃ (a : Addr) (ns : List Int), vs = [V.ref a] ∧ SqT K H a (ns.map V.int) ∧ 0 < ns.length ∧ ∀ m, m ∈ ns → Q (.int m) H
theorem cr_min2 (K : PySem.W.Frag) (e : X.K = K) (hc : X.calm = true) : CallR X (.builtin "min") (rMmT K) := by
  subst e
  intro pins s σ H vs us Q I
  intro r h
  rcases h with ⟨a, ns, rfl, hs, hne, q⟩
  obtain ⟨its, rv, hl, _⟩ := I.tuple hs
  rw [Vals.ref1 r]
  obtain ⟨xs, ex⟩ := rv.ints.allInts.items
  have hn : numsOf (intItems xs).toList = ns := by rw [← ex]; exact rv.ints.numsOf
  rw [nums_intItems] at hn
  subst hn
  rw [ex] at hl
  exact min_tup (I.ok.hd hc) hl (by simpa using hne) fun h' tk m t' hm hk => ⟨.int _, H, I.kept hk, ⟨_, rfl⟩, q m hm⟩
theorem cr_max2 (K : PySem.W.Frag) (e : X.K = K) (hc : X.calm = true) : CallR X (.builtin "max") (rMmT K) := by
  subst e
  intro pins s σ H vs us Q I
  intro r h
  rcases h with ⟨a, ns, rfl, hs, hne, q⟩
  obtain ⟨its, rv, hl, _⟩ := I.tuple hs
  rw [Vals.ref1 r]
  obtain ⟨xs, ex⟩ := rv.ints.allInts.items
  have hn : numsOf (intItems xs).toList = ns := by rw [← ex]; exact rv.ints.numsOf
  rw [nums_intItems] at hn
  subst hn
  rw [ex] at hl
  exact max_tup (I.ok.hd hc) hl (by simpa using hne) fun h' tk m t' hm hk => ⟨.int _, H, I.kept hk, ⟨_, rfl⟩, q m hm⟩
end
end Zm

set_option maxRecDepth 100000
set_option maxHeartbeats 3900000
namespace K
open PySem PySem.Spec PyProof.Rows L2
section
variable {J : It} {n : Nat} {G : Hp → Prop} {Y : Nat → Hp → V → Hp →
    Prop}
/-- a clause, whatever its turn does: F is told what must hold at the next turn -/
theorem lc_out (w : Walk J n G Y) {g : TG} {tt : TT} {vs : List Nat} {σ : L2.St} {H0 : Hp} {Qd : Hp → Prop} (F : L2.St → Hp → (Hp → Prop) → Prop) (Pv : Nat → Hp → Prop) (h0 : Pv 0 H0) (hG : ∀ i H, i ≤ n → Pv i H → G H)
    (hs : ∀ i x H H', i < n → Pv i H → Y i H x H' → g x (wipe σ vs) H' fun σ2 H2 => wipe σ2 vs = wipe σ vs ∧ tt σ2 H2 fun b H3 => if b = true then F σ2 H3 (Pv (i + 1)) else Pv (i + 1) H3) (hd : ∀ H, Pv n H → Qd H) :
    ∃ W : Nat → Nat → Hp → Prop, (∃ m, W 0 m H0) ∧ ∀ i m H, W i m H → (J.stop i H ∧ Qd H) ∨ (J.go i H ∧ ∃ Nx : Hp → Prop, (∀ H', Nx H' → ∃ m', m' < m ∧ W (i + 1) m' H') ∧
      ∀ x H', J.yld i H x H' → g x (wipe σ vs) H' fun σ2 H2 => wipe σ2 vs = wipe σ vs ∧ tt σ2 H2 fun b H3 => if b = true then F σ2 H3 Nx else Nx H3) := by
  refine ⟨fun i m H => m = n - i ∧ i ≤ n ∧ Pv i H, ⟨n, by simp, Nat.zero_le _, h0⟩,
      ?_⟩
  rintro i m H ⟨rfl, hi, p⟩
  have q := hG i H hi p
  rcases Nat.lt_or_ge i n with lt | ge
  · exact .inr ⟨w.goes i H lt q, Pv (i + 1), fun H' p' => ⟨n - (i + 1), by omega, rfl, lt, p'⟩, fun x H' y => hs i x H H' lt p (w.yields i H x H' lt q y)⟩
  · obtain rfl : i = n := by omega
    exact .inl ⟨w.stops H q, hd H
        p⟩
end
end K

set_option maxRecDepth 100000
set_option maxHeartbeats 3900000
namespace K
open PySem PySem.Spec PyProof.Rows L2
/-! ### what is shown in few signs -/
/-- an int of few figures -/
def SmI (i : Int) : Prop := i.natAbs < 1000000000
theorem SmI.weight {i : Int} (h : SmI i) : PyData.weight (.int i) ≤ 40 := by
  unfold SmI at h
  show (if (i == 0) = true then 0 else i.natAbs.log2 + 1) ≤ 40
  split
  · omega
  · rename_i hi
    have hi : i ≠ 0 := fun e => hi (by rw [e]; rfl)
    have : i.natAbs.log2 < 39 := (Nat.log2_lt (by omega)).mpr (Nat.lt_trans h (by decide))
    omega
theorem SmI.short {i : Int} (h : SmI i) : PyData.intsShort 13 (.int i) = true :=
  decide_eq_true (PyData.shown_int_le (Nat.lt_trans h (by decide)))
mutual
theorem sho : ∀ d : PyData, d.hasDict = false → PyData.weight d < 1920 → PyData.showable d = true
  | .none, _, _ => rfl
  | .bool _, _, _ => rfl
  | .str _, _, _ => rfl
  | .int i, _, h => by
    refine decide_eq_true ?_
    have h : (if (i == 0) = true then 0 else i.natAbs.log2 + 1) < 1920 := h
    by_cases e : i = 0
    · rw [e]
      decide
    · rw [if_neg (fun z => e (eq_of_beq z))] at h
      omega
  | .list xs, h, k => shoAll xs h k
  | .tuple xs, h, k => shoAll xs h k
  | .dict _, h, _ => nomatch h
theorem shoAll : ∀ xs : List PyData, PyData.hasDictAll xs = false → PyData.weightAll xs < 1920 → PyData.showableAll xs = true
  | [], _, _ => rfl
  | x :: xs, h, k => by
    have h : (PyData.hasDict x || PyData.hasDictAll xs) = false := h
    rw [Bool.or_eq_false_iff] at h
    have k : PyData.weight x + 1 + PyData.weightAll xs < 1920 := k
    show (PyData.showable x && PyData.showableAll xs) = true
    rw [sho x h.1 (by omega), shoAll xs h.2 (by omega)]
    rfl
end
theorem lay0 {d : PyData} (h : PySem.SeqAt.shaped d = true) (k : PyData.weight d ≤ 2 ^ 20) : PyData.layable0 d = true := by
  unfold PySem.SeqAt.shaped at h
  unfold PyData.layable0
  rw [h, decide_eq_true k]
  rfl
theorem SmI.sho {i : Int} (h : SmI i) : PyData.showable (.int i) = true := K.sho _ rfl (by have := h.weight; omega)
theorem shaped_of {d : PyData} (h : PyData.canLay0 d = true) (k : PyData.depth d ≤ 64) : PySem.SeqAt.shaped d = true := by
  unfold PySem.SeqAt.shaped
  rw [h, decide_eq_true k]
  rfl
theorem same_eq {d : PyData} (h : PySem.SeqAt.shaped d = true) : (!PyData.eqv d d) = false := by
  rw [PySem.SeqAt.eqv_refl d (PySem.SeqAt.canLay_of_shaped h)]
  rfl
/-! ### repr of data -/
section
variable {X : Cx}
def rRepD (K : PySem.W.Frag) : List V → Hp → VK → Prop := fun xs H Q => ∃ (p : Addr) (d : PyData), xs = [.ref p] ∧ Dp K H (.ref p) d ∧ d.hasDict = false ∧ d.showable = true ∧ d.depth ≤ 30 ∧ d.shown.length ≤ sizeLine ∧ Q (.str d.shown) H
theorem call_repD (hg : X.A.guards = some []) (hu : X.A.units + 64 < cLine) : CallR X (.builtin "repr") (rRepD X.K) := by
  rintro pins s σ H xs us Q I r ⟨p, d, rfl, hd, hn, hs, hdep, hz, q⟩
  rcases vals1 r with ⟨u, rfl, rx⟩
  cases (show u = Value.ref p from rx)
  obtain ⟨as, ra⟩ := Dp.reads I d _ _ hd rx
  exact repr_of_reads' ra hs (PyData.noDict_hsm hn) hg (by omega) (fun _ _ e => e) (fun h' u tk hk' => ⟨.str _, H, I.kept (t' := tk) hk', ⟨_, rfl⟩, q⟩) hz
end
/-- data that is shown in few signs -/
def Few (d : PyData) : Prop := PyData.canLay0 d = true ∧ PyData.depth d ≤ 30 ∧ d.hasDict = false ∧ PyData.weight d ≤ 1900 ∧ PyData.intsShort 13 d = true
theorem Few.shaped {d : PyData} (h : Few d) : PySem.SeqAt.shaped d = true := shaped_of h.1 (Nat.le_trans h.2.1 (by decide))
theorem Few.shows {d : PyData} (h : Few d) : d.hasDict = false ∧ d.showable = true ∧ d.depth ≤ 30 ∧ d.shown.length ≤ sizeLine :=
  ⟨h.2.2.1, sho d h.2.2.1 (Nat.lt_of_le_of_lt h.2.2.2.1 (by decide)), h.2.1, PyData.shown_fits_of_layable0 (B := 13) (by decide) (by decide) (lay0 h.shaped (Nat.le_trans h.2.2.2.1 (by decide))) h.2.2.2.2⟩
theorem ints_lay : ∀ ns : List Int, PyData.canLayAll0 (ns.map PyData.int) = true ∧ PyData.depthAll (ns.map PyData.int) = 0
  | [] => ⟨rfl, rfl⟩
  | n :: r => by
    obtain ⟨a, b⟩ := ints_lay r
    refine ⟨?_, ?_⟩
    · show (true && PyData.canLayAll0 (r.map PyData.int)) = true
      rw [a]
      rfl
    · show max 0 (PyData.depthAll (r.map PyData.int)) = 0
      rw [b]
      rfl
theorem ints_shaped (ns : List Int) : PySem.SeqAt.shaped (.list (ns.map PyData.int)) = true := by
  obtain ⟨a, b⟩ := ints_lay ns
  exact shaped_of a (show PyData.depthAll (ns.map PyData.int) + 1 ≤ 64 by omega)
theorem ints_dp {K : PySem.W.Frag} {H : Hp} : ∀ ns : List Int, DpAll K H (ns.map V.int) (ns.map PyData.int)
  | [] => .nil
  | n :: r => .cons (.int n) (ints_dp r)
theorem map_at {α β : Type} {f : α → β} {xs : List α} {i : Nat} {v : β} (h : (xs.map f)[i]? = some v) : ∃ x, xs[i]? = some x ∧ f x = v := by
  rw [List.getElem?_map] at h
  cases e : xs[i]? with
  | none =>
    rw [e] at h
    cases h
  | some k =>
    rw [e] at h
    exact ⟨k, rfl, Option.some.inj h⟩
theorem SmI.of {i w : Int} (hw : w < 1000000) (h : -w ≤ i) (k : i ≤ w) : SmI i := by
  unfold SmI
  omega
end K

set_option maxRecDepth 100000
set_option maxHeartbeats 3900000
namespace K
open PySem PySem.Spec PyProof.Rows L2
/-! ### calls of own defs by keywords -/
structure CalN (P : Program) (w : World) (K : PySem.W.Frag) (mg : Str → Option Value) (base : Heap) (k : Nat) (x : Str) (sp : Sp) (n : Nat) (ks : List Str) (gV : List V → List V → List V) : Prop where
  ex : ∃ (f : Addr) (fd : FuncData) (ps : List Str) (g : List Value → List Value → List Value), FnOk P w K mg base CX0 k f fd ps sp ∧ mg x = some (.ref f) ∧ PySem.W.keepIn K (.ref f) = true ∧ KBn K fd ps n ks g gV
section
variable {X : Cx} {k j n : Nat} {x : Str} {sp : Sp} {p pos : Pos} {e : Expr} {es : List Expr} {kws : List Keyword} {t tk : TA} {ks : List Str} {gV : List V → List V → List V}
theorem pe_cN (c : CalN X.prog X.w X.K X.mg X.base k x sp n ks gV) (hr : Room j X.A) (hk : k ≤ j) (hg : Gl X x) (ha : PA X (e :: es) t) (hkw : PK X kws tk)
    (hall : (backToKw pos (keywordEach kws X.env)).all (·.1.isSome) = true := by rfl) (hks : (backToKw pos (keywordEach kws X.env)).filterMap (·.1) = ks := by rfl)
    (nodb : (x == ("__debug__" : Str)) = false := by decide) (est : starEach (e :: es) X.env = (false, eval e X.env) :: starEach es X.env := by rfl)
    (plain : ((backTo pos (starEach (e :: es) X.env)).any (·.1) || (backToKw pos (keywordEach kws X.env)).any (·.1.isNone)) = false := by rfl) :
    PE X (.Call (.Name x p) (e :: es) kws pos) (tCallN n ks.length sp gV E0 t tk) := by
  obtain ⟨f, fd, ps, g, F, hm, kp, b⟩ := c.ex
  exact pe_callN F (hr.mono hk) hg hm kp b pass0 ha hkw hall hks nodb est plain
theorem pe_cN0 (c : CalN X.prog X.w X.K X.mg X.base k x sp 0 ks gV) (hr : Room j X.A) (hk : k ≤ j) (hg : Gl X x) (hkw : PK X kws tk)
    (hall : (backToKw pos (keywordEach kws X.env)).all (·.1.isSome) = true := by rfl) (hks : (backToKw pos (keywordEach kws X.env)).filterMap (·.1) = ks := by rfl)
    (nodb : (x == ("__debug__" : Str)) = false := by decide)
    (plain : ((backTo pos (starEach [] X.env)).any (·.1) || (backToKw pos (keywordEach kws X.env)).any (·.1.isNone)) = false := by rfl) :
    PE X (.Call (.Name x p) [] kws pos) (tCallN 0 ks.length sp gV E0 tNil tk) := by
  obtain ⟨f, fd, ps, g, F, hm, kp, b⟩ := c.ex
  refine ⟨fun pins s σ H Q I h => ?_⟩
  refine wpAny_Call_Name_kw (ld_glob (x := x) I hg hm ?_ nodb)
  refine PySem.W.callWith_KW0 (h₀ := X.base) I.ok.mod.kin kp hall ?_ plain
  refine thn (hkw.run pos pins s σ H _ I h) fun ws s2 ⟨zs, H2, J, rz, m1, m2, qq⟩ => ⟨J.kIn, ?_⟩
  rw [hks]
  exact run_fnN F (hr.mono hk) b pass0 J .nil rz m1 m2 qq
end
theorem kbn_of {K : PySem.W.Frag} {x qual : Str} {st : Stmt} {f : Addr} {fd : FuncData} {ps : List Str} (F : Fun K x qual st f fd) (n : Nat) (ks : List Str) (g : {α : Type} → List α → List α → List α)
    (hrel : ∀ {vs : List V} {us : List Value} {zs : List V} {ws : List Value}, Vals vs us → Vals zs ws → Vals (g vs zs) (g us ws))
    (h : ∀ (kV doc pm : Value) (an : Option Addr) (cdv ct : Value) (us ws : List Value), us.length = n → ws.length = ks.length → bindArgs (PySem.W.fnOf x qual (defArgs st) (defBody st) (defScope st) .none kV doc pm an cdv ct) ⟨us, ks.zip ws⟩ = pure (ps.zip (g us ws))) :
    KBn K fd ps n ks (fun us ws => g us ws) (fun us ws => g us ws) := by
  obtain ⟨_, _, kV, doc, pm, an, cdv, ct, _, rfl, _, _⟩ := F.ex
  exact ⟨fun s us ws _ l1 l2 => .of_eq (h kV doc pm an cdv ct us ws l1 l2), fun a b => hrel a b⟩
end K

set_option maxRecDepth 100000
set_option maxHeartbeats 3900000
namespace K
open PySem PySem.Spec PyProof.Rows L2
def topS (i : Nat) : Stmt := PySem.Challenge.pw_withinall_k25_whole_pairs_parted_and_tur.main.body.getD i (.Pass ⟨0, 0, 0, 0⟩)
abbrev sTape : Stmt := topS 15
abbrev sDraw : Stmt := topS 16
abbrev sPick : Stmt := topS 17
/-! ### the tape -/
/-- at t the tape of the draws: [own, cell, count], at most n counted -/
def Tp (H : Hp) (t : Addr) (n : Nat) : Prop := ∃ a b c : Int, H t = some (.lst [.int a, .int b, .int c]) ∧ 0 ≤ c ∧ c ≤ (n : Int)
/-- all but t as it was -/
def But (t : Addr) (H H' : Hp) : Prop := ∀ x o, H x = some o → x ≠ t → H' x = some o
theorem But.refl {t : Addr} {H : Hp} : But t H H := fun _ _ h _ => h
theorem But.trans {t : Addr} {H H1 H2 : Hp} (a : But t H H1) (b : But t H1 H2) : But t H H2 := fun x o h n => b x o (a x o h n) n
theorem But.new {t p : Addr} {H : Hp} {o : HO} (h : H p = none) : But t H (upd H p o) := fun x u e _ => by
  rw [upd_ne (ne_of_none e h)]
  exact e
theorem But.set {t : Addr} {H : Hp} {o : HO} : But t H (upd H t o) := fun x u e n => by
  rw [upd_ne n]
  exact e
theorem But.seq {K : PySem.W.Frag} {t a : Addr} {H H' : Hp} {xs : List V} (b : But t H H') (h : SqL K H a xs) (n : a ≠ t) : SqL K H' a xs := by
  rcases h with (⟨h⟩ | ⟨o, h⟩) | ⟨h⟩
  · exact .inl (.inl (b _ _ h n))
  · exact .inl (.inr ⟨o, b _ _ h n⟩)
  · exact .inr h
theorem same_new {H : Hp} {p : Addr} {o : HO} (h : H p = none) : Same H (upd H p o) := fun b x e => by
  rw [upd_ne (ne_of_none e h)]
  exact e
def primes : List Int := [2147483489, 2147483477, 2147483423, 2147483399, 2147483353, 2147483323, 2147483269, 2147483249]
theorem prime_at {i : Int} (h0 : 0 ≤ i) (h1 : i < 8) : ∃ q : Int, atI (primes.map V.int) i = some (.int q) ∧ 0 < q ∧ q < 2147483648 := by
  have : i = 0 ∨ i = 1 ∨ i = 2 ∨ i = 3 ∨ i = 4 ∨ i = 5 ∨ i = 6 ∨ i = 7 := by omega
  rcases this with rfl | rfl | rfl | rfl | rfl | rfl | rfl | rfl
  · exact ⟨2147483489, atI_nat (j := 0) rfl, by decide, by decide⟩
  · exact ⟨2147483477, atI_nat (j := 1) rfl, by decide, by decide⟩
  · exact ⟨2147483423, atI_nat (j := 2) rfl, by decide, by decide⟩
  · exact ⟨2147483399, atI_nat (j := 3) rfl, by decide, by decide⟩
  · exact ⟨2147483353, atI_nat (j := 4) rfl, by decide, by decide⟩
  · exact ⟨2147483323, atI_nat (j := 5) rfl, by decide, by decide⟩
  · exact ⟨2147483269, atI_nat (j := 6) rfl, by decide, by decide⟩
  · exact ⟨2147483249, atI_nat (j := 7) rfl, by decide, by decide⟩
section
variable {P : Program} {w : World} {K : PySem.W.Frag} {mg : Str → Option Value} {base : Heap}
def spTape (K : PySem.W.Frag) : Sp := fun vs H Q _ => ∃ (a : Addr) (ns : List Int) (k : Nat), vs = [.ref a, .int (k : Int)] ∧ SqL K H a (ns.map V.int) ∧ ns.length ≤ 63 ∧ k < 1000 ∧
  ∀ (p : Addr) (H' : Hp), Same H H' → H p = none → Tp H' p 0 → Q (.ref p) H'
theorem scT : FnScope ["script", "k", "cell", "own"] ["script", "k"] (defScope sTape) := ⟨rfl, rfl, rfl, by decide +kernel, rfl, by decide +kernel, by decide +kernel⟩
theorem ok_tape {f : Addr} {fd : FuncData} (F : Fun K "_law_tape" "_law_tape" sTape f fd) (ml : mg "len" = none) : FnOk P w K mg base CX0 1 f fd ["script", "k"] (spTape K) := by
  refine F.ok scT (fun vs H Q E h => ?_) (fun cdv A outer s H vs Q E hr h => ?_)
  · obtain ⟨a, ns, k, rfl, _⟩ := h
    rfl
  · obtain ⟨a, ns, k, rfl, hS, hl, hk, q⟩ := h
    refine ⟨_, pss_cons (ps_set (i := 2) scT.nd rfl (.inl rfl) (pe_op op_add (pe_op op_mul pe_int (pv 1)) pe_int))
      (pss_cons (ps_if (pt_cmpR op_lt (pv 1) (pe_callB call_len_seq (by rfl) ml PySem.boot_len (pa_cons (pv 0) pa_nil)) (nomark _)) (pss_one (ps_set (i := 2) scT.nd rfl (.inl rfl) (pe_ix ix_list (pv 0) (pv 1) (fun _ _ => rfl)))) pss_nil)
      (pss_cons (ps_set (i := 3) scT.nd rfl (.inl rfl) pe_int)
      (pss_cons (ps_if (pt_cmpR op_ge (pv 2) (pe_op op_pow pe_int pe_int) (nomark _)) (pss_one (ps_set (i := 3) scT.nd rfl (.inl rfl) (pe_op op_sub (pv 2) (pe_op op_pow pe_int pe_int)))) pss_nil)
      (pss_one (ps_ret (pe_lst (pa_cons (pv 3) (pa_cons (pe_op op_add (pe_op op_modN (pv 2) pe_int) (pe_op op_mul pe_int (pv 1))) (pa_cons pe_int pa_nil))))))))), ?_⟩
    -- behind the first if: the cell is any number
    have tail : ∀ c : Int, ∀ D : Ends, D.rt = Q → (tSeq (tAsg (tC (.int 0)) (gName 3)) (tSeq (tIfS (tTest (tOp (rI0 fun i j => .bl (decide (j ≤ i))) (tVar 2) (tOp (rI CPow fun i j => .int (i ^ j.toNat)) (tC (.int 10)) (tC (.int 18)))))
        (tAsg (tOp (rI0 fun i j => .int (i - j)) (tVar 2) (tOp (rI CPow fun i j => .int (i ^ j.toNat)) (tC (.int 10)) (tC (.int 18)))) (gName 3)) tNext)
        (tRet (tLst (tCons (tVar 3) (tCons (tOp (rI0 fun i j => .int (i + j)) (tOp (rI (fun _ j => j ≠ 0) fun i j => .int (i.fmod j)) (tVar 2) (tC (.int 4611686018427387847))) (tOp (rI CMul fun i j => .int (i * j)) (tC (.int 59)) (tVar 1))) (tCons (tC (.int 0)) tNil))))))) D [some (.ref a), some (.int (k : Int)), some (.int c), none] H := by
      intro c D hD
      have fin : ∀ own : Int, (tRet (tLst (tCons (tVar 3) (tCons (tOp (rI0 fun i j => .int (i + j)) (tOp (rI (fun _ j => j ≠ 0) fun i j => .int (i.fmod j)) (tVar 2) (tC (.int 4611686018427387847))) (tOp (rI CMul fun i j => .int (i * j)) (tC (.int 59)) (tVar 1))) (tCons (tC (.int 0)) tNil))))) D [some (.ref a), some (.int (k : Int)), some (.int c), some (.int own)] H := by
        intro own
        refine ⟨_, rfl, _, rfl, _, _, rfl, rfl, (by show (4611686018427387847 : Int) ≠ 0; decide), _, rfl, _, _, rfl, rfl, .inl ⟨by decide, by decide⟩, _, _, rfl, rfl, (by show 3 ≤ sizeLine; decide), fun p hp => ?_⟩
        rw [hD]
        exact q p _ (same_new hp) hp ⟨_, _, _, upd_same, Int.le_refl _, Int.le_refl _⟩
      refine ⟨_, rfl, _, _, rfl, rfl, ⟨by decide, by decide, by decide⟩, _, _, rfl, rfl, _, rfl, ?_⟩
      refine ite2 (fun _ => ?_) (fun _ => ?_)
      · exact ⟨_, rfl, _, _, rfl, rfl, ⟨by decide, by decide, by decide⟩, _, _, rfl, rfl, fin _⟩
      · exact fin 0
    refine ⟨_, rfl, _, _, rfl, rfl, .inl ⟨by decide, by decide⟩, _, _, rfl, rfl, ?_⟩
    refine ⟨_, rfl, _, rfl, a, _, rfl, .inl hS, _, _, rfl, rfl, _, rfl, ?_⟩
    refine ite2 (fun hlt => ?_) (fun _ => ?_)
    · have hlt' : k < ns.length := by
        have := of_decide_eq_true hlt
        simp only [List.length_map] at this
        omega
      have g : (ns.map V.int)[k]? = some (.int ns[k]) := by
        rw [List.getElem?_map, List.getElem?_eq_getElem hlt']
        rfl
      refine ⟨_, rfl, _, rfl, a, _, _, _, rfl, rfl, hS, atI_nat g, ?_⟩
      exact tail _ _ rfl
    · exact tail _ _ rfl

/-! ### a draw -/
def spDraw : Sp := fun vs H Q _ => ∃ (t : Addr) (n : Nat) (m : Int), vs = [.ref t, .int m] ∧ Tp H t n ∧ n < 1000000 ∧ 0 < m ∧ m < 1073741824 ∧
  ∀ (r : Int) (H' : Hp), 0 ≤ r → r < m → Tp H' t (n + 1) → But t H H' → Q (.int r) H'
theorem scD : FnScope ["tape", "many", "digit", "primes", "prime", "first", "second"] ["tape", "many"] (defScope sDraw) := ⟨rfl, rfl, rfl, by decide +kernel, rfl, by decide +kernel, by decide +kernel⟩
theorem ok_draw {f : Addr} {fd : FuncData} (F : Fun K "_law_draw" "_law_draw" sDraw f fd) : FnOk P w K mg base CX0 1 f fd ["tape", "many"] spDraw := by
  refine F.ok scD (fun vs H Q E h => ?_) (fun cdv A outer s H vs Q E hr h => ?_)
  · obtain ⟨t, n, m, rfl, _⟩ := h
    rfl
  · obtain ⟨t, n, m, rfl, ⟨a, b, c, hT, c0, c1⟩, hn, m0, m1, q⟩ := h
    have px : ∀ _ _, _ = _ := fun (_ _ : Nat) => (rfl : (0:Nat) = 0)
    refine ⟨_, pss_cons (ps_if (pt_cmpR op_ge (pe_ix ix_list (pv 0) pe_int (fun _ _ => rfl)) (pv 1) (nomark _))
        (pss_cons (ps_set (i := 2) scD.nd rfl (.inl rfl) (pe_op op_mod (pe_ix ix_list (pv 0) pe_int (fun _ _ => rfl)) (pv 1)))
        (pss_cons (ps_asg (pe_op op_fdivN (pe_ix ix_list (pv 0) pe_int (fun _ _ => rfl)) (pv 1)) (pg_sub (pv 0) pe_int set_list))
        (pss_one (ps_ret (pv 2))))) pss_nil)
      (pss_cons (ps_asg (pe_op op_add (pe_ix ix_list (pv 0) pe_int (fun _ _ => rfl)) pe_int) (pg_sub (pv 0) pe_int set_list))
      (pss_cons (ps_set (i := 3) scD.nd rfl (.inl rfl) (pe_lst (pa_cons pe_int (pa_cons pe_int (pa_cons pe_int (pa_cons pe_int (pa_cons pe_int (pa_cons pe_int (pa_cons pe_int (pa_cons pe_int pa_nil)))))))))) 
      (pss_cons (ps_set (i := 4) scD.nd rfl (.inl rfl) (pe_ix ix_list (pv 3) (pe_op op_mod (pe_ix ix_list (pv 0) pe_int (fun _ _ => rfl)) pe_int) (fun _ _ => rfl)))
      (pss_cons (ps_set (i := 5) scD.nd rfl (.inl rfl) (pe_op op_add (pe_op op_mul (pe_op op_mod (pe_ix ix_list (pv 0) pe_int (fun _ _ => rfl)) (pv 4)) (pe_op op_add (pe_op op_mul pe_int (pe_ix ix_list (pv 0) pe_int (fun _ _ => rfl))) pe_int)) (pe_op op_mul pe_int (pe_ix ix_list (pv 0) pe_int (fun _ _ => rfl)))))
      (pss_cons (ps_set (i := 5) scD.nd rfl (.inl rfl) (pe_op op_mod (pe_op op_pow (pv 5) pe_int) (pv 4)))
      (pss_cons (ps_set (i := 6) scD.nd rfl (.inl rfl) (pe_op op_add (pe_op op_add (pe_op op_mul (pv 5) (pv 5)) (pe_op op_mod (pe_ix ix_list (pv 0) pe_int (fun _ _ => rfl)) pe_int)) (pe_ix ix_list (pv 0) pe_int (fun _ _ => rfl))))
      (pss_one (ps_ret (pe_op op_mod (pe_op op_fdivN (pe_op op_mod (pe_op op_pow (pv 6) pe_int) (pe_ix ix_list (pv 3) (pe_op op_mod (pe_op op_add (pe_ix ix_list (pv 0) pe_int (fun _ _ => rfl)) pe_int) pe_int) (fun _ _ => rfl))) pe_int) (pv 1)))))))))), ?_⟩
    have at0 : ∀ x y z : V, atI [x, y, z] (0 : Int) = some x := fun x y z => atI_nat (j := 0) rfl
    have at1 : ∀ x y z : V, atI [x, y, z] (1 : Int) = some y := fun x y z => atI_nat (j := 1) rfl
    have at2 : ∀ x y z : V, atI [x, y, z] (2 : Int) = some z := fun x y z => atI_nat (j := 2) rfl
    refine ⟨_, rfl, t, _, 0, _, rfl, rfl, SqL.of hT, at0 _ _ _, _, rfl, a, m, rfl, rfl, _, rfl, ?_⟩
    refine ite2 (fun _ => ?_) (fun _ => ?_)
    · refine ⟨_, rfl, t, _, 0, _, rfl, rfl, SqL.of hT, at0 _ _ _, _, rfl, a, m, rfl, rfl, m0, ?_⟩
      refine ⟨_, rfl, t, _, 0, _, rfl, rfl, SqL.of hT, at0 _ _ _, _, rfl, a, m, rfl, rfl, ⟨by omega, by omega⟩, ?_⟩
      refine ⟨_, rfl, t, _, 0, 0, rfl, rfl, hT, rfl, ?_⟩
      refine ⟨_, rfl, ?_⟩
      exact q _ _ (Int.emod_nonneg _ (by omega)) (Int.emod_lt_of_pos _ m0) ⟨_, _, _, upd_same, c0, by omega⟩ .set
    · -- tape[2] = tape[2] + 1
      refine ⟨_, rfl, t, _, 2, _, rfl, rfl, SqL.of hT, at2 _ _ _, _, _, rfl, rfl, ?_⟩
      refine ⟨_, rfl, t, _, 2, 2, rfl, rfl, hT, rfl, ?_⟩
      -- primes
      refine ⟨(by show 8 ≤ sizeLine; decide), fun p hp => ?_⟩
      have tp : t ≠ p := ne_of_none (show (upd H t (.lst [.int a, .int b, .int (c + 1)])) t = some (.lst [.int a, .int b, .int (c + 1)]) from upd_same) hp
      have hT2 : (upd (upd H t (.lst [.int a, .int b, .int (c + 1)])) p (.lst (primes.map V.int))) t = some (.lst [.int a, .int b, .int (c + 1)]) := by
        rw [upd_ne tp, upd_same]
      have hP : (upd (upd H t (.lst [.int a, .int b, .int (c + 1)])) p (.lst (primes.map V.int))) p = some (.lst (primes.map V.int)) := upd_same
      have hB : But t H (upd (upd H t (.lst [.int a, .int b, .int (c + 1)])) p (.lst (primes.map V.int))) := But.set.trans (.new hp)
      show (tSeq _ _) _ _ (upd (upd H t (.lst [.int a, .int b, .int (c + 1)])) p (.lst (primes.map V.int)))
      revert hT2 hP hB
      generalize (upd (upd H t (.lst [.int a, .int b, .int (c + 1)])) p (.lst (primes.map V.int))) = H2
      intro hT2 hP hB
      obtain ⟨q1, a1, p1, l1⟩ := prime_at (i := (c + 1) % 8) (Int.emod_nonneg _ (by decide)) (Int.emod_lt_of_pos _ (by decide))
      obtain ⟨q2, a2, p2, l2⟩ := prime_at (i := (c + 1 + 3) % 8) (Int.emod_nonneg _ (by decide)) (Int.emod_lt_of_pos _ (by decide))
      refine ⟨_, rfl, _, rfl, t, _, 2, _, rfl, rfl, SqL.of hT2, at2 _ _ _, _, _, rfl, rfl, (by show (0 : Int) < 8; decide), p, _, _, _, rfl, rfl, SqL.of hP, a1, ?_⟩
      have x0 : 0 ≤ b % q1 := Int.emod_nonneg _ (by omega)
      have x1 : b % q1 < q1 := Int.emod_lt_of_pos _ p1
      have e1 : 0 ≤ b % q1 * (2 * (c + 1) + 7) := Int.mul_nonneg x0 (by omega)
      have e2 : b % q1 * (2 * (c + 1) + 7) ≤ 2147483648 * 3000000 := Int.mul_le_mul (by omega) (by omega) (by omega) (by decide)
      -- first
      refine ⟨_, rfl, t, _, 1, _, rfl, rfl, SqL.of hT2, at1 _ _ _, _, rfl, _, _, rfl, rfl, p1, _, rfl, t, _, 2, _, rfl, rfl, SqL.of hT2, at2 _ _ _, _, _, rfl, rfl, .inl ⟨by decide, by decide⟩, _, _, rfl, rfl, _, _, rfl, rfl, .inl ⟨by omega, by omega⟩,
        _, rfl, t, _, 2, _, rfl, rfl, SqL.of hT2, at2 _ _ _, _, _, rfl, rfl, .inl ⟨by decide, by decide⟩, _, _, rfl, rfl, ?_⟩
      refine ⟨_, rfl, _, _, rfl, rfl, ⟨by decide, by decide, by omega⟩, _, rfl, _, _, rfl, rfl, p1, ?_⟩
      generalize (b % q1 * (2 * (c + 1) + 7) + 7001 * (c + 1)) ^ (3 : Int).toNat = y
      have y0 : 0 ≤ y % q1 := Int.emod_nonneg _ (by omega)
      have y1 : y % q1 < q1 := Int.emod_lt_of_pos _ p1
      have f1 : 0 ≤ y % q1 * (y % q1) := Int.mul_nonneg y0 y0
      have f2 : y % q1 * (y % q1) ≤ 2147483648 * 2147483648 := Int.mul_le_mul (by omega) (by omega) y0 (by decide)
      have z0 : 0 ≤ b % 1000033 := Int.emod_nonneg _ (by decide)
      have z1 : b % 1000033 < 1000033 := Int.emod_lt_of_pos _ (by decide)
      -- second
      refine ⟨_, rfl, _, rfl, _, _, rfl, rfl, .inl ⟨by omega, by omega⟩, _, rfl, t, _, 1, _, rfl, rfl, SqL.of hT2, at1 _ _ _, _, _, rfl, rfl, (by show (0 : Int) < 1000033; decide), _, _, rfl, rfl, _, rfl, t, _, 2, _, rfl, rfl, SqL.of hT2, at2 _ _ _, _, _, rfl, rfl, ?_⟩
      -- return
      refine ⟨_, rfl, _, _, rfl, rfl, ⟨by decide, by decide, by omega⟩, _, rfl, _, rfl, t, _, 2, _, rfl, rfl, SqL.of hT2, at2 _ _ _, _, _, rfl, rfl, _, _, rfl, rfl, (by show (0 : Int) < 8; decide), p, _, _, _, rfl, rfl, SqL.of hP, a2, _, _, rfl, rfl, p2, _, _, rfl, rfl, ⟨by decide, by decide⟩, _, rfl, _, _, rfl, rfl, m0, ?_⟩
      exact q _ _ (Int.emod_nonneg _ (by omega)) (Int.emod_lt_of_pos _ m0) ⟨_, _, _, hT2, by omega, by omega⟩ hB
end
end K

set_option maxRecDepth 100000
set_option maxHeartbeats 3900000
namespace K
open PySem PySem.Spec PyProof.Rows L2
/-- a def that may be called by its name -/
structure Df (K : PySem.W.Frag) (mg : Str → Option Value) (x : Str) (st : Stmt) (f : Addr) (fd : FuncData) (ps : List Str) : Prop where
  fn : Fun K x x st f fd
  mgf : mg x = some (.ref f)
  bd : Binds K fd ps []
/-- names that are read off the built-ins -/
structure Bs (mg : Str → Option Value) : Prop where
  len : mg "len" = none
  range : mg "range" = none
  list : mg "list" = none
  tuple : mg "tuple" = none
  int : mg "int" = none
  str : mg "str" = none
  isinstance : mg "isinstance" = none
  sorted : mg "sorted" = none
  set : mg "set" = none
  zip : mg "zip" = none
  enumerate : mg "enumerate" = none
  repr : mg "repr" = none
  min : mg "min" = none
  max : mg "max" = none
  abs : mg "abs" = none
theorem same_but {t : Addr} {H0 H1 H2 : Hp} (s : Same H0 H1) (n : H0 t = none) (b : But t H1 H2) : Same H0 H2 := fun x o e => b x o (s x o e) (ne_of_none e n)
theorem But.of {H H' : Hp} {t : Addr} (s : Same H H') : But t H H' := fun x o h _ => s x o h
theorem Tp.same {H H' : Hp} {t : Addr} {n : Nat} (h : Tp H t n) (s : Same H H') : Tp H' t n := let ⟨a, b, c, e, x, y⟩ := h; ⟨a, b, c, s _ _ e, x, y⟩
theorem Tp.ne {H : Hp} {t p : Addr} {n : Nat} (h : Tp H t n) (hp : H p = none) : p ≠ t := fun z => by
  obtain ⟨a, b, c, e, _⟩ := h
  rw [z, e] at hp
  cases hp
theorem Tp.new {H : Hp} {t p : Addr} {n : Nat} {o : HO} (h : Tp H t n) (hp : H p = none) : Tp (upd H p o) t n := h.same (same_new hp)
theorem Tp.mono {H : Hp} {t : Addr} {n m : Nat} (h : Tp H t n) (l : n ≤ m) : Tp H t m := let ⟨a, b, c, e, x, y⟩ := h; ⟨a, b, c, e, x, by omega⟩

/-! ### things that never change: tuples of numbers, texts, truths, None, and of such -/
mutual
def Im (H : Hp) : PyData → V → Prop
  | .none, v => v = .non
  | .bool b, v => v = .bl b
  | .int i, v => v = .int i
  | .str x, v => v = .str x
  | .tuple ds, v => ∃ (a : Addr) (xs : List V), v = .ref a ∧ H a = some (.tup xs) ∧ ImAll H ds xs
  | .list _, _ => False
  | .dict _, _ => False
def ImAll (H : Hp) : List PyData → List V → Prop
  | [], vs => vs = []
  | d :: ds, vs => ∃ v r, vs = v :: r ∧ Im H d v ∧ ImAll H ds r
end
mutual
/-- they stand wherever tuples stay -/
theorem Im.keep {H H' : Hp} (k : ∀ a xs, H a = some (.tup xs) → H' a = some (.tup xs)) : ∀ (d : PyData) (v : V), Im H d v → Im H' d v
  | .none, v, h => by unfold Im at h ⊢; exact h
  | .bool b, v, h => by unfold Im at h ⊢; exact h
  | .int i, v, h => by unfold Im at h ⊢; exact h
  | .str x, v, h => by unfold Im at h ⊢; exact h
  | .tuple ds, v, h => by
    unfold Im at h ⊢
    obtain ⟨a, xs, e, h1, h2⟩ := h
    exact ⟨a, xs, e, k a xs h1, ImAll.keep k ds xs h2⟩
  | .list _, v, h => by unfold Im at h; exact h.elim
  | .dict _, v, h => by unfold Im at h; exact h.elim
theorem ImAll.keep {H H' : Hp} (k : ∀ a xs, H a = some (.tup xs) → H' a = some (.tup xs)) : ∀ (ds : List PyData) (vs : List V), ImAll H ds vs → ImAll H' ds vs
  | [], vs, h => by unfold ImAll at h ⊢; exact h
  | d :: ds, vs, h => by
    unfold ImAll at h ⊢
    obtain ⟨v, r, e, h1, h2⟩ := h
    exact ⟨v, r, e, Im.keep k d v h1, ImAll.keep k ds r h2⟩
end
theorem keep_same {H H' : Hp} (s : Same H H') : ∀ a xs, H a = some (HO.tup xs) → H' a = some (HO.tup xs) := fun a xs e => s a _ e
theorem keep_but {H H' : Hp} {t : Addr} {n : Nat} (b : But t H H') (hT : Tp H t n) : ∀ a xs, H a = some (HO.tup xs) → H' a = some (HO.tup xs) := fun a xs e => b a _ e (by
  obtain ⟨x, y, w, hT, _, _⟩ := hT
  exact ne_of e hT (fun z => by cases z))
theorem Im.same {H H' : Hp} {d : PyData} {v : V} (h : Im H d v) (s : Same H H') : Im H' d v := Im.keep (keep_same s) d v h
theorem Im.but {H H' : Hp} {t : Addr} {n : Nat} {d : PyData} {v : V} (h : Im H d v) (b : But t H H') (hT : Tp H t n) : Im H' d v := Im.keep (keep_but b hT) d v h
theorem ImAll.same {H H' : Hp} {d : List PyData} {v : List V} (h : ImAll H d v) (s : Same H H') : ImAll H' d v := ImAll.keep (keep_same s) d v h
theorem ImAll.but {H H' : Hp} {t : Addr} {n : Nat} {d : List PyData} {v : List V} (h : ImAll H d v) (b : But t H H') (hT : Tp H t n) : ImAll H' d v := ImAll.keep (keep_but b hT) d v h
mutual
theorem Im.dp {K : PySem.W.Frag} {H : Hp} : ∀ (d : PyData) (v : V), Im H d v → Dp K H v d
  | .none, v, h => by unfold Im at h; subst h; exact .non
  | .bool b, v, h => by unfold Im at h; subst h; exact .bl b
  | .int i, v, h => by unfold Im at h; subst h; exact .int i
  | .str x, v, h => by unfold Im at h; subst h; exact .str x
  | .tuple ds, v, h => by
    unfold Im at h
    obtain ⟨a, xs, e, h1, h2⟩ := h
    subst e
    exact .tup (SqT.of h1) (ImAll.dp ds xs h2)
  | .list _, v, h => by unfold Im at h; exact h.elim
  | .dict _, v, h => by unfold Im at h; exact h.elim
theorem ImAll.dp {K : PySem.W.Frag} {H : Hp} : ∀ (ds : List PyData) (vs : List V), ImAll H ds vs → DpAll K H vs ds
  | [], vs, h => by unfold ImAll at h; subst h; exact .nil
  | d :: ds, vs, h => by
    unfold ImAll at h
    obtain ⟨v, r, e, h1, h2⟩ := h
    subst e
    exact .cons (Im.dp d v h1) (ImAll.dp ds r h2)
end
theorem ImAll.nil {H : Hp} : ImAll H [] [] := by unfold ImAll; rfl
theorem ImAll.cons {H : Hp} {d : PyData} {ds : List PyData} {v : V} {vs : List V} (h : Im H d v) (t : ImAll H ds vs) : ImAll H (d :: ds) (v :: vs) := by
  unfold ImAll
  exact ⟨v, vs, rfl, h, t⟩
theorem Im.int {H : Hp} {i : Int} : Im H (.int i) (.int i) := by unfold Im; rfl
theorem Im.str {H : Hp} {x : Str} : Im H (.str x) (.str x) := by unfold Im; rfl
theorem Im.tup {H : Hp} {a : Addr} {xs : List V} {ds : List PyData} (e : H a = some (.tup xs)) (h : ImAll H ds xs) : Im H (.tuple ds) (.ref a) := by
  unfold Im
  exact ⟨a, xs, rfl, e, h⟩
theorem ImAll.strs {H : Hp} : ∀ xs : List Str, ImAll H (xs.map PyData.str) (xs.map V.str)
  | [] => .nil
  | x :: r => .cons .str (ImAll.strs r)
theorem ImAll.app {H : Hp} : ∀ {ds es : List PyData} {vs us : List V}, ImAll H ds vs → ImAll H es us → ImAll H (ds ++ es) (vs ++ us)
  | [], es, vs, us, h, k => by
    unfold ImAll at h
    subst h
    exact k
  | d :: ds, es, vs, us, h, k => by
    unfold ImAll at h
    obtain ⟨v, r, e, h1, h2⟩ := h
    subst e
    exact .cons h1 (h2.app k)
theorem ImAll.length {H : Hp} : ∀ {ds : List PyData} {vs : List V}, ImAll H ds vs → vs.length = ds.length
  | [], vs, h => by
    unfold ImAll at h
    subst h
    rfl
  | d :: ds, vs, h => by
    unfold ImAll at h
    obtain ⟨v, r, e, h1, h2⟩ := h
    subst e
    simp [h2.length]
theorem ImAll.get {H : Hp} : ∀ {ds : List PyData} {vs : List V} {i : Nat} {d : PyData}, ImAll H ds vs → ds[i]? = some d → ∃ v, vs[i]? = some v ∧ Im H d v
  | [], vs, i, d, h, k => by cases k
  | c :: ds, vs, i, d, h, k => by
    unfold ImAll at h
    obtain ⟨v, r, e, h1, h2⟩ := h
    subst e
    cases i with
    | zero =>
      cases k
      exact ⟨v, rfl, h1⟩
    | succ i => exact h2.get (i := i) k
theorem ImAll.getv {H : Hp} : ∀ {ds : List PyData} {vs : List V} {i : Nat} {v : V}, ImAll H ds vs → vs[i]? = some v → ∃ d, ds[i]? = some d ∧ Im H d v
  | [], vs, i, d, h, k => by
    unfold ImAll at h
    subst h
    cases k
  | c :: ds, vs, i, d, h, k => by
    unfold ImAll at h
    obtain ⟨v, r, e, h1, h2⟩ := h
    subst e
    cases i with
    | zero =>
      cases k
      exact ⟨c, rfl, h1⟩
    | succ i => exact h2.getv (i := i) k
section
variable {P : Program} {w : World} {K : PySem.W.Frag} {mg : Str → Option Value} {base : Heap}
theorem Df.cal {x : Str} {st : Stmt} {f : Addr} {fd : FuncData} {ps : List Str} {k : Nat} {sp : Sp} (D : Df K mg x st f fd ps) (ok : FnOk P w K mg base CX0 k f fd ps sp) : C8.Cal P w K mg base k x sp [] := ⟨f, fd, ps, [], ok, D.mgf, D.fn.kp, D.bd, .nil⟩
theorem call_lenS {X : Cx} {p : Addr} {ys : List V} {H : Hp} (h : SqL X.K H p ys ∨ SqT X.K H p ys) : SqL X.K H p ys ∨ SqT X.K H p ys := h
/-! ### a pick, a word -/
theorem But.seqT {t a : Addr} {H H' : Hp} {xs : List V} (b : But t H H') (h : SqT K H a xs) (n : a ≠ t) : SqT K H' a xs := by
  rcases h with (⟨h⟩ | ⟨o, h⟩) | ⟨h⟩
  · exact .inl (.inl (b _ _ h n))
  · exact .inl (.inr ⟨o, b _ _ h n⟩)
  · exact .inr h
def spPick (K : PySem.W.Frag) : Sp := fun vs H Q _ => ∃ (t l : Addr) (n : Nat) (xs : List V), vs = [.ref t, .ref l] ∧ Tp H t n ∧ n < 1000000 ∧ (SqL K H l xs ∨ SqT K H l xs) ∧ l ≠ t ∧ 0 < xs.length ∧ xs.length < 100000 ∧
  ∀ (i : Nat) (v : V) (H' : Hp), xs[i]? = some v → Tp H' t (n + 1) → But t H H' → Q v H'
theorem scP : FnScope ["tape", "some"] ["tape", "some"] (defScope sPick) := ⟨rfl, rfl, rfl, by decide +kernel, rfl, by decide +kernel, by decide +kernel⟩
theorem ok_pick (B : Bs mg) (c_draw : C8.Cal P w K mg base 1 "_law_draw" spDraw []) {f : Addr} {fd : FuncData} (F : Fun K "_law_pick" "_law_pick" sPick f fd) : FnOk P w K mg base CX0 2 f fd ["tape", "some"] (spPick K) := by
  refine F.ok scP (fun vs H Q E h => ?_) (fun cdv A outer s H vs Q E hr h => ?_)
  · obtain ⟨t, l, n, xs, rfl, _⟩ := h
    rfl
  · obtain ⟨t, l, n, xs, rfl, hT, hn, hl, hlt, l0, l1, q⟩ := h
    refine ⟨_, pss_one (ps_ret (pe_ix ix_seq (pv 1) (C8.pe_c c_draw hr (by decide) (by rfl) (pa_cons (pv 0) (pa_cons (pe_callB call_len_seq (by rfl) B.len PySem.boot_len (pa_cons (pv 1) pa_nil)) pa_nil))) (fun _ _ => rfl))), ?_⟩
    refine ⟨_, rfl, _, rfl, _, rfl, l, xs, rfl, hl, t, n, _, rfl, hT, hn, by omega, by omega, fun r H' r0 r1 hT' hb => ?_⟩
    have hi : r.toNat < xs.length := by omega
    obtain ⟨v, g⟩ : ∃ v, xs[r.toNat]? = some v := ⟨_, List.getElem?_eq_getElem hi⟩
    have e : atI xs r = some v := by
      have := atI_nat (v := v) g
      rwa [Int.toNat_of_nonneg r0] at this
    rcases hl with hl | hl
    · exact .inl ⟨l, xs, r, v, rfl, rfl, hb.seq hl hlt, e, q r.toNat v H' g hT' hb⟩
    · exact .inr (.inl ⟨l, xs, r, v, rfl, rfl, hb.seqT hl hlt, e, q r.toNat v H' g hT' hb⟩)
abbrev s_law_a_word : Stmt := topS 18
def spWord : Sp := fun vs H Q _ => ∃ (t : Addr) (n : Nat) (m : Int), vs = [.ref t, .int m] ∧ Tp H t n ∧ n < 999000 ∧ 0 < m ∧ m < 1000000 ∧
  ∀ (r : Int) (H' : Hp), -m ≤ r → r ≤ m → Tp H' t (n + 3) → But t H H' → Q (.int r) H'
theorem scW : FnScope ["tape", "wide", "some"] ["tape", "wide"] (defScope s_law_a_word) := ⟨rfl, rfl, rfl, by decide +kernel, rfl, by decide +kernel, by decide +kernel⟩
theorem ok_word (B : Bs mg) (c_draw : C8.Cal P w K mg base 1 "_law_draw" spDraw []) (c_pick : C8.Cal P w K mg base 2 "_law_pick" (spPick K) []) {f : Addr} {fd : FuncData} (F : Fun K "_law_a_word" "_law_a_word" s_law_a_word f fd) : FnOk P w K mg base CX0 3 f fd ["tape", "wide"] spWord := by
  refine F.ok scW (fun vs H Q E h => ?_) (fun cdv A outer s H vs Q E hr h => ?_)
  · obtain ⟨t, n, m, rfl, _⟩ := h
    rfl
  · obtain ⟨t, n, m, rfl, hT, hn, m0, m1, q⟩ := h
    refine ⟨_, (pss_cons (ps_set (i := 2) scW.nd rfl (.inl rfl) (pe_lst (pa_cons pe_int (pa_cons pe_int (pa_cons (pe_op op_sub pe_int pe_int) (pa_cons (pv 1) (pa_cons (pe_op op_sub pe_int (pv 1)) (pa_cons (pe_op op_sub (C8.pe_c c_draw hr (by decide) (by rfl) (pa_cons (pv 0) (pa_cons (pe_op op_add (pe_op op_mul pe_int (pv 1)) pe_int) pa_nil))) (pv 1)) (pa_cons (C8.pe_c c_draw hr (by decide) (by rfl) (pa_cons (pv 0) (pa_cons (pe_op op_add (pv 1) pe_int) pa_nil))) pa_nil)))))))))
      (pss_one (ps_ret (C8.pe_c c_pick hr (by decide) (by rfl) (pa_cons (pv 0) (pa_cons (pv 2) pa_nil)))))), ?_⟩
    refine ⟨_, _, rfl, rfl, _, rfl, _, rfl, _, _, rfl, rfl, _, rfl, _, rfl, _, _, rfl, rfl, .inl ⟨by decide, by decide⟩, _, _, rfl, rfl, t, n, _, rfl, hT, by omega, by omega, by omega, fun r H1 r0 r1 hT1 b1 => ?_⟩
    refine ⟨_, rfl, _, _, rfl, rfl, _, rfl, _, rfl, _, _, rfl, rfl, t, n + 1, _, rfl, hT1, by omega, by omega, by omega, fun r' H2 r0' r1' hT2 b2 => ?_⟩
    refine ⟨(by show 7 ≤ sizeLine; decide), fun p hp => ?_⟩
    have hp' := Tp.ne hT2 hp
    refine ⟨_, rfl, _, rfl, t, p, n + 1 + 1, _, rfl, hT2.new hp, by omega, .inl (SqL.of upd_same), hp', (by show 0 < 7; decide), (by show 7 < 100000; decide), fun i v H3 g hT3 b3 => ?_⟩
    have b : But t H H3 := (b1.trans b2).trans ((But.new hp).trans b3)
    have key : ∀ z : Int, v = .int z → -m ≤ z → z ≤ m → Q v H3 := fun z e h1 h2 => by
      subst e
      exact q z H3 h1 h2 hT3 b
    match i, g with
    | 0, g => exact key _ (Option.some.inj g).symm (by omega) (by omega)
    | 1, g => exact key _ (Option.some.inj g).symm (by omega) (by omega)
    | 2, g => exact key _ (Option.some.inj g).symm (by omega) (by omega)
    | 3, g => exact key _ (Option.some.inj g).symm (by omega) (by omega)
    | 4, g => exact key _ (Option.some.inj g).symm (by omega) (by omega)
    | 5, g => exact key _ (Option.some.inj g).symm (by omega) (by omega)
    | 6, g => exact key _ (Option.some.inj g).symm (by omega) (by omega)
    | (i + 7), g => simp at g
end
end K

set_option maxRecDepth 100000
set_option maxHeartbeats 3900000
namespace K
open PySem PySem.Spec PyProof.Rows L2
/-- all but F's addresses as it was -/
def Bt (F : Addr → Prop) (H H' : Hp) : Prop := ∀ x o, H x = some o → ¬ F x → H' x = some o
theorem Bt.refl {F : Addr → Prop} {H : Hp} : Bt F H H := fun _ _ h _ => h
theorem Bt.trans {F : Addr → Prop} {H H1 H2 : Hp} (a : Bt F H H1) (b : Bt F H1 H2) : Bt F H H2 := fun x o h n => b x o (a x o h n) n
theorem Bt.of {F : Addr → Prop} {H H' : Hp} (s : Same H H') : Bt F H H' := fun x o h _ => s x o h
theorem Bt.same {H H' : Hp} (b : Bt (fun _ => False) H H') : Same H H' := fun x o h => b x o h id
theorem Bt.new {F : Addr → Prop} {p : Addr} {H : Hp} {o : HO} (h : H p = none) : Bt F H (upd H p o) := .of (same_new h)
theorem Bt.set {F : Addr → Prop} {D : Addr} {H H1 : Hp} {o : HO} (b : Bt F H H1) (h : H D = none) : Bt F H (upd H1 D o) := fun x u e n => by
  rw [upd_ne (ne_of_none e h)]
  exact b x u e n
section
variable {J : It} {n : Nat} {G : Hp → Prop} {Y : Nat → Hp → V → Hp →
    Prop}
/-- a comprehension: R of the turn, what is made so far and the heap -/
theorem lc_w (w : Walk J n G Y) {g : TG} {tt : TT} {te : TE} {vs : List Nat} {σ : L2.St} {H1 : Hp} {D : Addr} {Qd : Hp → Prop} (F : Addr → Prop) (R : Nat → List V → Hp → Prop) (hF : ¬ F D) (hD : H1 D = none) (hn : n < sizeLine)
    (st : ∀ i acc H H', R i acc H → But D H H' → R i acc H') (h0 : R 0 [] H1) (hG : ∀ i acc H, i ≤ n → Bt F H1 H → R i acc H → G H)
    (hs : ∀ i acc x H H', i < n → Bt F H1 H → R i acc H → H D = some (.lst acc) → acc.length ≤ i → Y i H x H' → ∀ (N : VK) (N0 : Hp → Prop), (∀ y H4, Bt F H H4 → R (i + 1) (acc ++ [y]) H4 → N y H4) → (∀ H3, Bt F H H3 → R (i + 1) acc H3 → N0 H3) →
      g x (wipe σ vs) H' fun σ2 H2 => wipe σ2 vs = wipe σ vs ∧ tt σ2 H2 fun b H3 => if b = true then te σ2 H3 N else N0 H3)
    (hd : ∀ acc H, Bt F H1 H → H D = some (.lst acc) → acc.length ≤ n → R n acc H → Qd H) :
    ∃ W : Nat → Nat → Hp → Prop, (∃ m, W 0 m (upd H1 D (.lst []))) ∧ ∀ i m H, W i m H
        →
      (J.stop i H ∧ Qd H) ∨ (J.go i H ∧ ∃ Nx : Hp → Prop, (∀ H', Nx H' → ∃ m', m' < m ∧ W (i + 1) m' H') ∧ ∀ x H', J.yld i H x H' → g x (wipe σ vs) H' fun σ2 H2 => wipe σ2 vs = wipe σ vs ∧ tt σ2 H2 fun b H3
          =>
        if b = true then te σ2 H3 fun y H4 => ∃ acc, H4 D = some (.lst acc) ∧ acc.length < sizeLine ∧ Nx (upd H4 D (.lst (acc ++ [y]))) else Nx H3) :=
            by
  refine lc_it w (Qd := Qd) (fun i H => Bt F H1 H ∧ ∃ acc, H D = some (.lst acc) ∧ acc.length ≤ i ∧ R i acc H) ⟨.new hD, [], upd_same, Nat.le_refl _, st _ _ _ _ h0 .set⟩ (fun i H hi ⟨b, acc, _, _, r⟩ => hG i acc H hi b r) (fun i x H H' hi ⟨b, acc, hA, hl, r⟩ y => ?_) fun H ⟨b, acc, hA, hl, r⟩ => hd acc H b hA hl r
  refine hs i acc x H H' hi b r hA hl y _ _ (fun y H4 b4 r4 => ⟨acc, b4 _ _ hA hF, Nat.lt_of_le_of_lt hl (Nat.lt_of_lt_of_le hi (Nat.le_of_lt hn)), (b.trans b4).set hD, acc ++ [y], upd_same, by simp; omega, st _ _ _ _ r4 .set⟩) fun H3 b3 r3 => ⟨b.trans b3, acc, b3 _ _ hA hF, by omega, r3⟩
end
/-! ### rules with their part named (a comprehension's block wants it so) -/
theorem ixL (K : PySem.W.Frag) {X : Cx} (h : X.K = K) : IxR X (rIxL K) := by subst h; exact ix_list
theorem ixT (K : PySem.W.Frag) {X : Cx} (h : X.K = K) : IxR X (rIxT K) := by subst h; exact ix_tup
theorem inS (K : PySem.W.Frag) {X : Cx} (h : X.K = K) : OpR X (compareOp .In) (rIn K false) := by subst h; exact op_in_seq
theorem notInS (K : PySem.W.Frag) {X : Cx} (h : X.K = K) : OpR X (compareOp .NotIn) (rIn K true) := by subst h; exact op_notIn_seq
/-! ### names -/
abbrev Sx := SX.S
/-- a name: a small letter, the h-th, then up to three more -/
def Nm (h : Nat) (x : Str) : Prop := ∃ l : List Nat, x = Sx ((97 + h) :: l) ∧ l.length ≤ 3 ∧ ∀ c ∈ l, 97 ≤ c ∧ c < 123
def abc : Str := "abcdefghijklmnopqrstuvwxyz"
theorem abc_at : ∀ i : Nat, i < 26 → abc.cps.toList[i]? = some (97 + i) := by decide +kernel
theorem abc_len : abc.length ≤ sizeLine := by decide +kernel
theorem main_cps : ("main" : Str) = Sx [109, 97, 105, 110] := by decide +kernel
theorem mane_cps : ("mane" : Str) = Sx [109, 97, 110, 101] := by decide +kernel
theorem Sx_inj {a b : List Nat} (h : Sx a = Sx b) : a = b := by
  have e : (Sx a).cps.toList = (Sx b).cps.toList := by rw [h]
  exact e
theorem Nm.head {h k : Nat} {x : Str} (a : Nm h x) (b : Nm k x) : h = k := by
  obtain ⟨l, e, _⟩ := a
  obtain ⟨m, f, _⟩ := b
  rw [e] at f
  have := Sx_inj f
  injection this with z _
  omega
theorem join_nil (ys : List (List Nat)) : Txt.join ("" : Str) (ys.map Sx) = Sx ys.flatten := by
  have e : ("" : Str) = Sx [] := by decide +kernel
  rw [e]
  refine (SX.join_S [] ys).trans ?_
  congr 1
  induction ys with
  | nil => rfl
  | cons a r ih =>
    cases r with
    | nil => simp [TL.joinL]
    | cons b r => simpa [TL.joinL] using ih
end K

namespace K
/-! ### stretches: the mathematics -/
/-- o is from what to what the numbers of P reach -/
def Hull (P : Int → Prop) : Option (Int × Int) → Prop
  | none => ∀ x, ¬ P x
  | some (a, b) => P a ∧ P b ∧ ∀ x, P x → a ≤ x ∧ x ≤ b
theorem Hull.uniq {P : Int → Prop} : ∀ {o u : Option (Int × Int)}, Hull P o → Hull P u → o = u
  | none, none, _, _ => rfl
  | none, some (a, b), h, k => absurd k.1 (h a)
  | some (a, b), none, h, k => absurd h.1 (k a)
  | some (a, b), some (c, d), h, k => by
    have e1 := h.2.2 c k.1
    have e2 := h.2.2 d k.2.1
    have e3 := k.2.2 a h.1
    have e4 := k.2.2 b h.2.1
    have : a = c := by omega
    have : b = d := by omega
    subst_vars
    rfl
theorem Hull.iff {P R : Int → Prop} (e : ∀ x, P x ↔ R x) {o : Option (Int × Int)} (h : Hull P o) : Hull R o := by
  have : P = R := funext fun x => propext (e x)
  exact this ▸ h
inductive Sg where
  | plus | minus | times | over | rest
deriving DecidableEq
/-- what an act makes of two words, where it has a result -/
def Sg.mk (s : Sg) (a b : Int) : Option Int :=
  match s with
  | .plus => some (a + b)
  | .minus => some (a - b)
  | .times => some (a * b)
  | .over => if b = 0 then none else some (a.fdiv b)
  | .rest => if b = 0 then none else some (a.fmod b)
def cmn (a b : Int × Int) : Option (Int × Int) := if max a.1 b.1 > min a.2 b.2 then none else some (max a.1 b.1, min a.2 b.2)
theorem cmn_hull (a b : Int × Int) : Hull (fun x => a.1 ≤ x ∧ x ≤ a.2 ∧ b.1 ≤ x ∧ x ≤ b.2) (cmn a b) := by
  unfold cmn
  split
  · intro x
    omega
  · refine ⟨?_, ?_, ?_⟩
    · omega
    · omega
    · intro x h
      omega
def wn (a : Int × Int) : Option (Int × Int) := if (if a.1 = 0 then 1 else a.1) > (if a.2 = 0 then -1 else a.2) then none else some (if a.1 = 0 then 1 else a.1, if a.2 = 0 then -1 else a.2)
theorem wn_hull (a : Int × Int) (h : a.1 ≤ a.2) : Hull (fun x => a.1 ≤ x ∧ x ≤ a.2 ∧ x ≠ 0) (wn a) := by
  unfold wn
  by_cases p : a.1 = 0 <;> by_cases q : a.2 = 0
  · rw [if_pos p, if_pos q]
    exact fun x => by omega
  · rw [if_pos p, if_neg q, if_neg (by omega)]
    exact ⟨by omega, by omega, fun x k => by omega⟩
  · rw [if_neg p, if_pos q, if_neg (by omega)]
    exact ⟨by omega, by omega, fun x k => by omega⟩
  · rw [if_neg p, if_neg q, if_neg (by omega)]
    exact ⟨by omega, by omega, fun x k => by omega⟩
def nn (a : Int × Int) : Int := max (max 0 a.1) (-a.2)
def Rt (w r : Int) : Prop := 0 ≤ r ∧ r * r ≤ w ∧ w < (r + 1) * (r + 1)
theorem Rt.iff {w r l : Int} (h : Rt w r) : l * l ≤ w ↔ -r ≤ l ∧ l ≤ r := by
  obtain ⟨h0, h1, h2⟩ := h
  constructor
  · intro hl
    refine ⟨Int.not_lt.mp fun k => ?_, Int.not_lt.mp fun k => ?_⟩
    · have : (r + 1) * (r + 1) ≤ (-l) * (-l) := Int.mul_le_mul (by omega) (by omega) (by omega) (by omega)
      have e : (-l) * (-l) = l * l := Int.neg_mul_neg ..
      omega
    · have : (r + 1) * (r + 1) ≤ l * l := Int.mul_le_mul (by omega) (by omega) (by omega) (by omega)
      omega
  · intro ⟨a, b⟩
    rcases Int.le_total 0 l with p | p
    · have : l * l ≤ r * r := Int.mul_le_mul b b p h0
      omega
    · have : (-l) * (-l) ≤ r * r := Int.mul_le_mul (by omega) (by omega) (by omega) h0
      have e : (-l) * (-l) = l * l := Int.neg_mul_neg ..
      omega
/-- the words of which the act of the word and itself doesn't fault, as the program has it -/
def letO (s : Sg) (w r : Int) (a : Int × Int) : Option (Int × Int) :=
  match s with
  | .minus => some a
  | .over => wn a
  | .rest => wn a
  | .plus => cmn a (-(w.fdiv 2), w.fdiv 2)
  | .times => cmn a (-r, r)
def twR (s : Sg) (b : Int × Int) : Int × Int :=
  match s with
  | .plus => (2 * b.1, 2 * b.2)
  | .times => (nn b ^ 2, max (b.1 ^ 2) (b.2 ^ 2))
  | .over => (1, 1)
  | _ => (0, 0)
def twO (s : Sg) (w r : Int) (a : Int × Int) : Option (Int × Int) × Option (Int × Int) :=
  match letO s w r a with
  | none => (none, none)
  | some b => (some (twR s b), some b)
/-- the words, and what the act makes of them -/
def Wd (s : Sg) (w : Int) (a : Int × Int) (l r : Int) : Prop := a.1 ≤ l ∧ l ≤ a.2 ∧ s.mk l l = some r ∧ -w ≤ r ∧ r ≤ w
theorem fdiv_self {l : Int} (h : l ≠ 0) : l.fdiv l = 1 := by
  exact Int.fdiv_self h
theorem fmod_self {l : Int} : l.fmod l = 0 := by
  exact Int.fmod_self
theorem letO_hull {s : Sg} {w r : Int} {a : Int × Int} (h : a.1 ≤ a.2) (w0 : 1 ≤ w) (hr : Rt w r) : Hull (fun l => ∃ x, Wd s w a l x) (letO s w r a) := by
  have e2 : w.fdiv 2 = w / 2 := Int.fdiv_eq_ediv_of_nonneg w (by decide)
  cases s with
  | plus =>
    refine (cmn_hull a _).iff fun x => ?_
    show _ ↔ ∃ y, a.1 ≤ x ∧ x ≤ a.2 ∧ some (x + x) = some y ∧ -w ≤ y ∧ y ≤ w
    dsimp only
    rw [e2]
    constructor
    · intro k
      exact ⟨x + x, k.1, k.2.1, rfl, by omega, by omega⟩
    · rintro ⟨y, k1, k2, k3, k4, k5⟩
      obtain rfl := Option.some.inj k3
      omega
  | minus =>
    refine ⟨⟨0, Int.le_refl _, h, ?_, by omega, by omega⟩, ⟨0, h, Int.le_refl _, ?_, by omega, by omega⟩, fun x k => ?_⟩
    · show some (a.1 - a.1) = _
      rw [Int.sub_self]
    · show some (a.2 - a.2) = _
      rw [Int.sub_self]
    · obtain ⟨y, k1, k2, _⟩ := k
      exact ⟨k1, k2⟩
  | times =>
    refine (cmn_hull a _).iff fun x => ?_
    show _ ↔ ∃ y, a.1 ≤ x ∧ x ≤ a.2 ∧ some (x * x) = some y ∧ -w ≤ y ∧ y ≤ w
    have sq : 0 ≤ x * x := by
      rcases Int.le_total 0 x with p | p
      · exact Int.mul_nonneg p p
      · exact Int.mul_nonneg_of_nonpos_of_nonpos p p
    constructor
    · intro ⟨k1, k2, k3, k4⟩
      exact ⟨x * x, k1, k2, rfl, by omega, (hr.iff).mpr ⟨k3, k4⟩⟩
    · rintro ⟨y, k1, k2, k3, k4, k5⟩
      obtain rfl := Option.some.inj k3
      exact ⟨k1, k2, (hr.iff).mp k5⟩
  | over =>
    refine (wn_hull a h).iff fun x => ?_
    show _ ↔ ∃ y, a.1 ≤ x ∧ x ≤ a.2 ∧ (if x = 0 then none else some (x.fdiv x)) = some y ∧ -w ≤ y ∧ y ≤ w
    constructor
    · intro ⟨k1, k2, k3⟩
      rw [if_neg k3, fdiv_self k3]
      exact ⟨1, k1, k2, rfl, by omega, by omega⟩
    · rintro ⟨y, k1, k2, k3, _⟩
      refine ⟨k1, k2, fun e => ?_⟩
      rw [if_pos e] at k3
      cases k3
  | rest =>
    refine (wn_hull a h).iff fun x => ?_
    show _ ↔ ∃ y, a.1 ≤ x ∧ x ≤ a.2 ∧ (if x = 0 then none else some (x.fmod x)) = some y ∧ -w ≤ y ∧ y ≤ w
    constructor
    · intro ⟨k1, k2, k3⟩
      rw [if_neg k3, fmod_self]
      exact ⟨0, k1, k2, rfl, by omega, by omega⟩
    · rintro ⟨y, k1, k2, k3, _⟩
      refine ⟨k1, k2, fun e => ?_⟩
      rw [if_pos e] at k3
      cases k3
theorem sq2 (x : Int) : x ^ 2 = x * x := by
  rw [Int.pow_succ, Int.pow_succ, Int.pow_zero, Int.one_mul]
theorem sq_neg (x : Int) : (-x) * (-x) = x * x := Int.neg_mul_neg ..
theorem sq_mono {x y : Int} (h : 0 ≤ x) (k : x ≤ y) : x * x ≤ y * y := Int.mul_le_mul k k h (by omega)
theorem tw_snd {s : Sg} {w r : Int} {a : Int × Int} : (twO s w r a).2 = letO s w r a := by
  unfold twO
  split
  · next e => rw [e]
  · next b e => rw [e]
theorem twO_none {s : Sg} {w r : Int} {a : Int × Int} (e : letO s w r a = none) : (twO s w r a).1 = none := by
  unfold twO
  rw [e]
theorem twO_some {s : Sg} {w r : Int} {a b : Int × Int} (e : letO s w r a = some b) : (twO s w r a).1 = some (twR s b) := by
  unfold twO
  rw [e]
theorem tw_fst {s : Sg} {w r : Int} {a : Int × Int} (h : a.1 ≤ a.2) (w0 : 1 ≤ w) (hr : Rt w r) : Hull (fun x => ∃ l, Wd s w a l x) (twO s w r a).1 := by
  have hl := letO_hull (s := s) h w0 hr
  match e : letO s w r a with
  | none =>
    rw [e] at hl
    rw [twO_none e]
    exact fun x ⟨l, k⟩ => hl l ⟨x, k⟩
  | some (c, d) =>
    rw [e] at hl
    rw [twO_some e]
    obtain ⟨⟨x1, p1⟩, ⟨x2, p2⟩, p3⟩ := hl
    have cd : c ≤ d := (p3 c ⟨x1, p1⟩).2
    cases s with
    | plus =>
      have e1 : x1 = c + c := (Option.some.inj p1.2.2.1).symm
      have e2 : x2 = d + d := (Option.some.inj p2.2.2.1).symm
      refine ⟨⟨c, ?_⟩, ⟨d, ?_⟩, fun x ⟨l, k⟩ => ?_⟩
      · rw [show (2 * c) = x1 by omega]
        exact p1
      · rw [show (2 * d) = x2 by omega]
        exact p2
      · have := p3 l ⟨x, k⟩
        have e3 : x = l + l := (Option.some.inj k.2.2.1).symm
        exact ⟨by show 2 * c ≤ x; omega, by show x ≤ 2 * d; omega⟩
    | minus =>
      have e1 : x1 = 0 := by rw [(Option.some.inj p1.2.2.1).symm, Int.sub_self]
      subst e1
      refine ⟨⟨c, p1⟩, ⟨c, p1⟩, fun x ⟨l, k⟩ => ?_⟩
      have : x = 0 := by rw [(Option.some.inj k.2.2.1).symm, Int.sub_self]
      exact ⟨by show 0 ≤ x; omega, by show x ≤ 0; omega⟩
    | times =>
      have e1 : x1 = c * c := (Option.some.inj p1.2.2.1).symm
      have e2 : x2 = d * d := (Option.some.inj p2.2.2.1).symm
      have mid : ∀ l, c ≤ l → l ≤ d → ∃ y, Wd .times w a l y := fun l k1 k2 => by
        refine ⟨l * l, by have := p1.1; omega, by have := p2.2.1; omega, rfl, ?_, ?_⟩
        · rcases Int.le_total 0 l with p | p
          · have := Int.mul_nonneg p p
            omega
          · have := Int.mul_nonneg_of_nonpos_of_nonpos p p
            omega
        · have a1 := p1.2.2.2.2
          have a2 := p2.2.2.2.2
          rw [e1] at a1
          rw [e2] at a2
          have b1 := hr.iff.mp a1
          have b2 := hr.iff.mp a2
          exact hr.iff.mpr ⟨by omega, by omega⟩
      have sqm : ∀ l, c ≤ l → l ≤ d → nn (c, d) * nn (c, d) ≤ l * l ∧ l * l ≤ max (c * c) (d * d) := fun l k1 k2 => by
        constructor
        · have hn : nn (c, d) = max (max 0 c) (-d) := rfl
          rcases Int.le_total 0 l with p | p
          · exact sq_mono (by rw [hn]; omega) (by rw [hn]; omega)
          · rw [← sq_neg l]
            exact sq_mono (by rw [hn]; omega) (by rw [hn]; omega)
        · rcases Int.le_total 0 l with p | p
          · have := sq_mono p k2
            omega
          · have : (-l) * (-l) ≤ (-c) * (-c) := sq_mono (by omega) (by omega)
            rw [sq_neg, sq_neg] at this
            omega
      refine ⟨?_, ?_, fun x ⟨l, k⟩ => ?_⟩
      · show ∃ l, Wd .times w a l (nn (c, d) ^ 2)
        rw [sq2]
        have hn : nn (c, d) = max (max 0 c) (-d) := rfl
        rcases Int.lt_or_le 0 c with q | q
        · have : nn (c, d) = c := by rw [hn]; omega
          rw [this, ← e1]
          exact ⟨c, p1⟩
        · rcases Int.lt_or_le d 0 with q2 | q2
          · have : nn (c, d) = -d := by rw [hn]; omega
            rw [this, sq_neg, ← e2]
            exact ⟨d, p2⟩
          · have : nn (c, d) = 0 := by rw [hn]; omega
            rw [this]
            obtain ⟨y, hy⟩ := mid 0 q q2
            have : y = 0 := (Option.some.inj hy.2.2.1).symm
            rw [this] at hy
            exact ⟨0, hy⟩
      · show ∃ l, Wd .times w a l (max (c ^ 2) (d ^ 2))
        rw [sq2, sq2]
        rcases Int.le_total (c * c) (d * d) with q | q
        · rw [Int.max_eq_right q, ← e2]
          exact ⟨d, p2⟩
        · rw [Int.max_eq_left q, ← e1]
          exact ⟨c, p1⟩
      · have b := p3 l ⟨x, k⟩
        have e3 : x = l * l := (Option.some.inj k.2.2.1).symm
        have := sqm l b.1 b.2
        rw [← e3] at this
        show nn (c, d) ^ 2 ≤ x ∧ x ≤ max (c ^ 2) (d ^ 2)
        rw [sq2, sq2, sq2]
        exact this
    | over =>
      have one : ∀ {l x}, Wd .over w a l x → x = 1 := fun {l x} k => by
        have k3 := k.2.2.1
        have k4 : (if l = 0 then none else some (l.fdiv l)) = some x := k3
        by_cases z : l = 0
        · rw [if_pos z] at k4
          cases k4
        · rw [if_neg z, fdiv_self z] at k4
          exact (Option.some.inj k4).symm
      have e1 := one p1
      subst e1
      refine ⟨⟨c, p1⟩, ⟨c, p1⟩, fun x ⟨l, k⟩ => ?_⟩
      have := one k
      exact ⟨by show 1 ≤ x; omega, by show x ≤ 1; omega⟩
    | rest =>
      have one : ∀ {l x}, Wd .rest w a l x → x = 0 := fun {l x} k => by
        have k3 := k.2.2.1
        have k4 : (if l = 0 then none else some (l.fmod l)) = some x := k3
        by_cases z : l = 0
        · rw [if_pos z] at k4
          cases k4
        · rw [if_neg z, fmod_self] at k4
          exact (Option.some.inj k4).symm
      have e1 := one p1
      subst e1
      refine ⟨⟨c, p1⟩, ⟨c, p1⟩, fun x ⟨l, k⟩ => ?_⟩
      have := one k
      exact ⟨by show 0 ≤ x; omega, by show x ≤ 0; omega⟩
end K
namespace K
/-- the root of a width -/
def rt (w : Int) : Int := if 25 ≤ w then 5 else if 16 ≤ w then 4 else if 9 ≤ w then 3 else if 4 ≤ w then 2 else 1
theorem rt_ok {w : Int} (h : 1 ≤ w) (k : w ≤ 31) : Rt w (rt w) := by
  unfold rt Rt
  repeat' split
  all_goals omega
/-- what twice tells -/
def twN (s : Sg) (w : Int) : Option (Int × Int) → Option (Int × Int) × Option (Int × Int)
  | none => (none, none)
  | some a => match cmn a (-w, w) with
    | none => (none, none)
    | some b => twO s w (rt w) b
theorem cmn_in {w : Int} {a : Int × Int} (h0 : -w ≤ a.1) (h : a.1 ≤ a.2) (h1 : a.2 ≤ w) : cmn a (-w, w) = some a := by
  unfold cmn
  rw [if_neg (by omega)]
  obtain ⟨x, y⟩ := a
  simp only [Option.some.injEq, Prod.mk.injEq]
  exact ⟨by omega, by omega⟩
end K

namespace K
def ab (i : Int) : Int := if i < 0 then -i else i
def pt0 (a b : Int) : Int := (ab a).fdiv (ab b)
def unl (a b : Int) : Bool := decide (a < 0) != decide (b < 0)
def pt1 (a b : Int) : Int := if unl a b = true ∧ pt0 a b * ab b ≠ ab a then pt0 a b + 1 else pt0 a b
def pt2 (a b : Int) : Int := if unl a b = true then 0 - pt1 a b else pt1 a b
def chkP : Bool := (List.range 63).all fun i => (List.range 63).all fun j => (j == 31) || (decide (pt2 ((i : Int) - 31) ((j : Int) - 31) = ((i : Int) - 31).fdiv ((j : Int) - 31)) && decide (((i : Int) - 31) - pt2 ((i : Int) - 31) ((j : Int) - 31) * ((j : Int) - 31) = ((i : Int) - 31).fmod ((j : Int) - 31)))
set_option maxRecDepth 100000 in
theorem chkP_ok : chkP = true := by decide +kernel
theorem pt2_ok {a b : Int} (a0 : -31 ≤ a) (a1 : a ≤ 31) (b0 : -31 ≤ b) (b1 : b ≤ 31) (h : b ≠ 0) : pt2 a b = a.fdiv b ∧ a - pt2 a b * b = a.fmod b := by
  have c := chkP_ok
  unfold chkP at c
  have c1 := List.all_eq_true.mp c (a + 31).toNat (List.mem_range.mpr (by omega))
  have c2 := List.all_eq_true.mp c1 (b + 31).toNat (List.mem_range.mpr (by omega))
  have e1 : (((a + 31).toNat : Nat) : Int) - 31 = a := by omega
  have e2 : (((b + 31).toNat : Nat) : Int) - 31 = b := by omega
  rw [e1, e2] at c2
  have n : ((b + 31).toNat == 31) = false := by
    rw [beq_eq_false_iff_ne]
    omega
  rw [n, Bool.false_or, Bool.and_eq_true, decide_eq_true_eq, decide_eq_true_eq] at c2
  exact c2
end K

namespace K
/-! ### pairs: the mathematics -/
def Pr (s : Sg) (w : Int) (a b : Int × Int) (r l m : Int) : Prop := a.1 ≤ l ∧ l ≤ a.2 ∧ b.1 ≤ m ∧ m ≤ b.2 ∧ s.mk l m = some r ∧ -w ≤ r ∧ r ≤ w
theorem Hull.of_list {P : Int → Prop} {ns : List Int} {o : Option (Int × Int)} (h : Hull (fun x => x ∈ ns) o) (h1 : ∀ x, x ∈ ns → P x) (h2 : ∀ x, P x → (∃ y, y ∈ ns ∧ y ≤ x) ∧ ∃ y, y ∈ ns ∧ x ≤ y) : Hull P o := by
  match o, h with
  | none, h =>
    intro x p
    obtain ⟨⟨y, hy, _⟩, _⟩ := h2 x p
    exact h y hy
  | some (c, d), h =>
    refine ⟨h1 _ h.1, h1 _ h.2.1, fun x p => ?_⟩
    obtain ⟨⟨y, hy, e1⟩, ⟨z, hz, e2⟩⟩ := h2 x p
    have := (h.2.2 y hy).1
    have := (h.2.2 z hz).2
    exact ⟨by omega, by omega⟩
/-! plus -/
def addO (w : Int) (a b : Int × Int) : Option (Int × Int) × Option (Int × Int) × Option (Int × Int) := (cmn (a.1 + b.1, a.2 + b.2) (-w, w), cmn a (-w - b.2, w - b.1), cmn b (-w - a.2, w - a.1))
theorem add1 {w : Int} {a b : Int × Int} (ha : a.1 ≤ a.2) (hb : b.1 ≤ b.2) : Hull (fun r => ∃ l m, Pr .plus w a b r l m) (addO w a b).1 := by
  refine (cmn_hull _ _).iff fun r => ?_
  dsimp only
  constructor
  · rintro ⟨h1, h2, h3, h4⟩
    refine ⟨max a.1 (r - b.2), r - max a.1 (r - b.2), by omega, by omega, by omega, by omega, ?_, h3, h4⟩
    show some (max a.1 (r - b.2) + (r - max a.1 (r - b.2))) = _
    congr 1
    omega
  · rintro ⟨l, m, h1, h2, h3, h4, h5, h6, h7⟩
    have : l + m = r := Option.some.inj h5
    omega
theorem add2 {w : Int} {a b : Int × Int} (ha : a.1 ≤ a.2) (hb : b.1 ≤ b.2) (w0 : 0 ≤ w) : Hull (fun l => ∃ r m, Pr .plus w a b r l m) (addO w a b).2.1 := by
  refine (cmn_hull _ _).iff fun l => ?_
  dsimp only
  constructor
  · rintro ⟨h1, h2, h3, h4⟩
    exact ⟨l + max b.1 (-w - l), max b.1 (-w - l), h1, h2, by omega, by omega, rfl, by omega, by omega⟩
  · rintro ⟨r, m, h1, h2, h3, h4, h5, h6, h7⟩
    have : l + m = r := Option.some.inj h5
    omega
theorem add3 {w : Int} {a b : Int × Int} (ha : a.1 ≤ a.2) (hb : b.1 ≤ b.2) (w0 : 0 ≤ w) : Hull (fun m => ∃ r l, Pr .plus w a b r l m) (addO w a b).2.2 := by
  refine (cmn_hull _ _).iff fun l => ?_
  dsimp only
  constructor
  · rintro ⟨h1, h2, h3, h4⟩
    exact ⟨max a.1 (-w - l) + l, max a.1 (-w - l), by omega, by omega, h1, h2, rfl, by omega, by omega⟩
  · rintro ⟨r, m, h1, h2, h3, h4, h5, h6, h7⟩
    have : m + l = r := Option.some.inj h5
    omega
/-! minus -/
def trn (a : Int × Int) : Int × Int := (-a.2, -a.1)
theorem minus_iff {w : Int} {a b : Int × Int} {r l m : Int} : Pr .minus w a b r l m ↔ Pr .plus w a (trn b) r l (-m) := by
  unfold Pr trn
  dsimp only
  constructor
  · rintro ⟨h1, h2, h3, h4, h5, h6⟩
    refine ⟨h1, h2, by omega, by omega, ?_, h6⟩
    have : l - m = r := Option.some.inj h5
    show some (l + -m) = some r
    congr 1
  · rintro ⟨h1, h2, h3, h4, h5, h6⟩
    refine ⟨h1, h2, by omega, by omega, ?_, h6⟩
    have : l + -m = r := Option.some.inj h5
    show some (l - m) = some r
    congr 1
theorem Hull.trn {P : Int → Prop} : ∀ {o : Option (Int × Int)}, Hull P o → Hull (fun x => P (-x)) (o.map trn)
  | none, h => fun x p => h _ p
  | some (c, d), h => by
    refine ⟨?_, ?_, fun x p => ?_⟩
    · show P (- -d)
      rw [Int.neg_neg]
      exact h.2.1
    · show P (- -c)
      rw [Int.neg_neg]
      exact h.1
    · have := h.2.2 _ p
      show -d ≤ x ∧ x ≤ -c
      omega
def minO (w : Int) (a b : Int × Int) : Option (Int × Int) × Option (Int × Int) × Option (Int × Int) := ((addO w a (trn b)).1, (addO w a (trn b)).2.1, (addO w a (trn b)).2.2.map trn)
theorem min_hull {w : Int} {a b : Int × Int} (ha : a.1 ≤ a.2) (hb : b.1 ≤ b.2) (w0 : 0 ≤ w) : Hull (fun r => ∃ l m, Pr .minus w a b r l m) (minO w a b).1 ∧ Hull (fun l => ∃ r m, Pr .minus w a b r l m) (minO w a b).2.1 ∧ Hull (fun m => ∃ r l, Pr .minus w a b r l m) (minO w a b).2.2 := by
  have hb' : (trn b).1 ≤ (trn b).2 := by
    show -b.2 ≤ -b.1
    omega
  refine ⟨(add1 ha hb').iff fun r => ?_, (add2 ha hb' w0).iff fun l => ?_, (add3 ha hb' w0).trn.iff fun m => ?_⟩
  · constructor
    · rintro ⟨l, m, h⟩
      exact ⟨l, -m, minus_iff.mpr (by rw [Int.neg_neg]; exact h)⟩
    · rintro ⟨l, m, h⟩
      exact ⟨l, -m, minus_iff.mp h⟩
  · constructor
    · rintro ⟨l, m, h⟩
      exact ⟨l, -m, minus_iff.mpr (by rw [Int.neg_neg]; exact h)⟩
    · rintro ⟨l, m, h⟩
      exact ⟨l, -m, minus_iff.mp h⟩
  · constructor
    · rintro ⟨l, m, h⟩
      exact ⟨l, m, minus_iff.mpr h⟩
    · rintro ⟨l, m, h⟩
      exact ⟨l, m, minus_iff.mp h⟩
/-! times -/
def prt (w x : Int) : Int := if x = 0 then w else w.fdiv (if x < 0 then -x else x)
/-- how far a word may be from 0 so that its product with this one is a word -/
theorem prt_nat {w x : Int} (w0 : 0 ≤ w) : prt w x = ((if x.natAbs = 0 then w.toNat else w.toNat / x.natAbs : Nat) : Int) := by
  unfold prt
  by_cases z : x = 0
  · rw [if_pos z, if_pos (by omega)]
    omega
  · have e : (if x < 0 then -x else x) = (x.natAbs : Int) := by
      split <;> omega
    rw [if_neg z, e, if_neg (by omega), Int.fdiv_eq_ediv_of_nonneg _ (by omega)]
    have : w = (w.toNat : Int) := by omega
    rw [this]
    exact (Int.natCast_ediv ..).symm
theorem fit_iff {w x y : Int} (w0 : 0 ≤ w) (hy : -w ≤ y ∧ y ≤ w) : (-w ≤ x * y ∧ x * y ≤ w) ↔ -(prt w x) ≤ y ∧ y ≤ prt w x := by
  have e := Int.natAbs_mul x y
  have p := prt_nat (x := x) w0
  generalize x * y = z at e
  rw [p]
  by_cases h : x.natAbs = 0
  · rw [if_pos h]
    rw [h, Nat.zero_mul] at e
    omega
  · rw [if_neg h]
    have k := Nat.le_div_iff_mul_le (k := x.natAbs) (x := y.natAbs) (y := w.toNat) (by omega)
    rw [Nat.mul_comm, ← e] at k
    generalize w.toNat / x.natAbs = q at k
    constructor
    · intro hh
      have := k.mpr (by omega)
      omega
    · intro hh
      have := k.mp (by omega)
      omega
theorem nn_near (a : Int × Int) (h : a.1 ≤ a.2) : (∀ x, a.1 ≤ x → x ≤ a.2 → (nn a).natAbs ≤ x.natAbs) ∧ ∃ x, a.1 ≤ x ∧ x ≤ a.2 ∧ x.natAbs = (nn a).natAbs := by
  unfold nn
  refine ⟨fun x h1 h2 => by omega, ?_⟩
  by_cases p : 0 < a.1
  · exact ⟨a.1, by omega, by omega, by omega⟩
  · by_cases q : a.2 < 0
    · exact ⟨a.2, by omega, by omega, by omega⟩
    · exact ⟨0, by omega, by omega, by omega⟩
def facO (w : Int) (a b : Int × Int) : Option (Int × Int) := cmn a (-(prt w (nn b)), prt w (nn b))
theorem mono_fit {w x y u : Int} (w0 : 0 ≤ w) (h : -w ≤ u * y ∧ u * y ≤ w) (k : x.natAbs ≤ u.natAbs) : -w ≤ x * y ∧ x * y ≤ w := by
  have e1 := Int.natAbs_mul x y
  have e2 := Int.natAbs_mul u y
  have := Nat.mul_le_mul_right y.natAbs k
  rw [← e1, ← e2] at this
  generalize x * y = z1 at *
  generalize u * y = z2 at *
  omega
theorem fac_hull {w : Int} {a b : Int × Int} (hb : b.1 ≤ b.2) (w0 : 0 ≤ w) (a0 : -w ≤ a.1) (a1 : a.2 ≤ w) : Hull (fun l => ∃ r m, Pr .times w a b r l m) (facO w a b) := by
  obtain ⟨n1, x, n2, n3, n4⟩ := nn_near b hb
  refine (cmn_hull _ _).iff fun l => ?_
  dsimp only
  constructor
  · rintro ⟨h1, h2, h3, h4⟩
    have k := (fit_iff (x := nn b) (y := l) w0 ⟨by omega, by omega⟩).mpr ⟨h3, h4⟩
    have k2 := mono_fit (x := x) w0 k (Nat.le_of_eq n4)
    rw [Int.mul_comm] at k2
    exact ⟨l * x, x, h1, h2, n2, n3, rfl, k2⟩
  · rintro ⟨r, m, h1, h2, h3, h4, h5, h6⟩
    have e : l * m = r := Option.some.inj h5
    rw [← e, Int.mul_comm] at h6
    have k := mono_fit (x := nn b) w0 h6 (n1 m h3 h4)
    exact ⟨h1, h2, (fit_iff w0 ⟨by omega, by omega⟩).mp k⟩
theorem fac_all {w : Int} {a b f : Int × Int} (hb : b.1 ≤ b.2) (w0 : 0 ≤ w) (a0 : -w ≤ a.1) (a1 : a.2 ≤ w) (hf : facO w a b = some f) : ∀ l, f.1 ≤ l → l ≤ f.2 → ∃ r m, Pr .times w a b r l m := by
  intro l h1 h2
  obtain ⟨n1, x, n2, n3, n4⟩ := nn_near b hb
  have k := cmn_hull a (-(prt w (nn b)), prt w (nn b))
  rw [show cmn a (-(prt w (nn b)), prt w (nn b)) = some f from hf] at k
  have c1 := k.1
  have c2 := k.2.1
  dsimp only at c1 c2
  have k := (fit_iff (x := nn b) (y := l) w0 ⟨by omega, by omega⟩).mpr ⟨by omega, by omega⟩
  have k2 := mono_fit (x := x) w0 k (Nat.le_of_eq n4)
  rw [Int.mul_comm] at k2
  exact ⟨l * x, x, by omega, by omega, n2, n3, rfl, k2⟩
theorem times_comm {w : Int} {a b : Int × Int} {r l m : Int} : Pr .times w a b r l m ↔ Pr .times w b a r m l := by
  unfold Pr
  constructor
  · rintro ⟨h1, h2, h3, h4, h5, h6⟩
    exact ⟨h3, h4, h1, h2, by rw [← h5]; show some (m * l) = some (l * m); rw [Int.mul_comm], h6⟩
  · rintro ⟨h1, h2, h3, h4, h5, h6⟩
    exact ⟨h3, h4, h1, h2, by rw [← h5]; show some (l * m) = some (m * l); rw [Int.mul_comm], h6⟩
theorem fac_hull2 {w : Int} {a b : Int × Int} (ha : a.1 ≤ a.2) (w0 : 0 ≤ w) (b0 : -w ≤ b.1) (b1 : b.2 ≤ w) : Hull (fun m => ∃ r l, Pr .times w a b r l m) (facO w b a) :=
  (fac_hull ha w0 b0 b1).iff fun m => ⟨fun ⟨r, l, h⟩ => ⟨r, l, times_comm.mpr h⟩, fun ⟨r, l, h⟩ => ⟨r, l, times_comm.mp h⟩⟩
/-- both sides have words or neither -/
theorem fac_none {w : Int} {a b : Int × Int} (ha : a.1 ≤ a.2) (hb : b.1 ≤ b.2) (w0 : 0 ≤ w) (a0 : -w ≤ a.1) (a1 : a.2 ≤ w) (b0 : -w ≤ b.1) (b1 : b.2 ≤ w) (h : facO w a b = none) : ∀ r l m, ¬ Pr .times w a b r l m := by
  have k := fac_hull hb w0 a0 a1
  rw [h] at k
  exact fun r l m p => k l ⟨r, m, p⟩
/-- the second ones that go with a first one -/
theorem row_hull {w : Int} {a b g : Int × Int} (ha : a.1 ≤ a.2) (hb : b.1 ≤ b.2) (w0 : 0 ≤ w) (b0 : -w ≤ b.1) (b1 : b.2 ≤ w) (hg : facO w b a = some g) (l : Int) (h1 : a.1 ≤ l) (h2 : l ≤ a.2) :
    Hull (fun m => ∃ r, Pr .times w a b r l m) (cmn g (-(prt w l), prt w l)) := by
  have k := fac_hull2 (b := b) ha w0 b0 b1
  rw [hg] at k
  have kb := cmn_hull b (-(prt w (nn a)), prt w (nn a))
  rw [show cmn b (-(prt w (nn a)), prt w (nn a)) = some g from hg] at kb
  have c1 := kb.1
  have c2 := kb.2.1
  dsimp only at c1 c2
  refine (cmn_hull _ _).iff fun m => ?_
  dsimp only
  constructor
  · rintro ⟨k1, k2, k3, k4⟩
    have f := (fit_iff (x := l) (y := m) w0 ⟨by omega, by omega⟩).mpr ⟨k3, k4⟩
    exact ⟨l * m, h1, h2, by omega, by omega, rfl, f⟩
  · rintro ⟨r, p⟩
    have q := k.2.2 m ⟨r, l, p⟩
    obtain ⟨_, _, p3, p4, p5, p6⟩ := p
    have e : l * m = r := Option.some.inj p5
    rw [← e] at p6
    have f := (fit_iff (x := l) (y := m) w0 ⟨by omega, by omega⟩).mp p6
    exact ⟨q.1, q.2, f⟩
/-- the results, by the ends of each row -/
theorem times_hull {w : Int} {a b f g : Int × Int} (ha : a.1 ≤ a.2) (hb : b.1 ≤ b.2) (w0 : 0 ≤ w) (a0 : -w ≤ a.1) (a1 : a.2 ≤ w) (b0 : -w ≤ b.1) (b1 : b.2 ≤ w) (hf : facO w a b = some f) (hg : facO w b a = some g)
    {ns : List Int} (hns : ∀ x, x ∈ ns ↔ ∃ l c, f.1 ≤ l ∧ l ≤ f.2 ∧ cmn g (-(prt w l), prt w l) = some c ∧ (x = l * c.1 ∨ x = l * c.2)) {o : Option (Int × Int)} (ho : Hull (fun x => x ∈ ns) o) : Hull (fun r => ∃ l m, Pr .times w a b r l m) o := by
  have kf := fac_hull (a := a) hb w0 a0 a1
  rw [hf] at kf
  have inA : ∀ l, f.1 ≤ l → l ≤ f.2 → a.1 ≤ l ∧ l ≤ a.2 := fun l h1 h2 => by
    obtain ⟨_, _, p1, p2, _⟩ := kf.1
    obtain ⟨_, _, q1, q2, _⟩ := kf.2.1
    exact ⟨by omega, by omega⟩
  refine ho.of_list (fun x hx => ?_) (fun r ⟨l, m, p⟩ => ?_)
  · obtain ⟨l, c, h1, h2, h3, h4⟩ := (hns x).mp hx
    have hl := inA l h1 h2
    have k := row_hull ha hb w0 b0 b1 hg l hl.1 hl.2
    rw [h3] at k
    rcases h4 with rfl | rfl
    · obtain ⟨r, p⟩ := k.1
      have e : l * c.1 = r := Option.some.inj p.2.2.2.2.1
      exact ⟨l, c.1, e ▸ p⟩
    · obtain ⟨r, p⟩ := k.2.1
      have e : l * c.2 = r := Option.some.inj p.2.2.2.2.1
      exact ⟨l, c.2, e ▸ p⟩
  · have hl := kf.2.2 l ⟨r, m, p⟩
    have k := row_hull ha hb w0 b0 b1 hg l p.1 p.2.1
    have e : l * m = r := Option.some.inj p.2.2.2.2.1
    match hc : cmn g (-(prt w l), prt w l) with
    | none =>
      rw [hc] at k
      exact (k m ⟨r, p⟩).elim
    | some c =>
      rw [hc] at k
      have kk := k.2.2 m ⟨r, p⟩
      have i1 : l * c.1 ∈ ns := (hns _).mpr ⟨l, c, hl.1, hl.2, hc, .inl rfl⟩
      have i2 : l * c.2 ∈ ns := (hns _).mpr ⟨l, c, hl.1, hl.2, hc, .inr rfl⟩
      rw [← e]
      rcases Int.le_total 0 l with z | z
      · exact ⟨⟨_, i1, Int.mul_le_mul_of_nonneg_left kk.1 z⟩, ⟨_, i2, Int.mul_le_mul_of_nonneg_left kk.2 z⟩⟩
      · exact ⟨⟨_, i2, Int.mul_le_mul_of_nonpos_left z kk.2⟩, ⟨_, i1, Int.mul_le_mul_of_nonpos_left z kk.1⟩⟩
end K

namespace K
/-! over, rest -/
theorem fdP {l m : Int} (h : 0 < m) : l.fdiv m = l / m := Int.fdiv_eq_ediv_of_nonneg l (Int.le_of_lt h)
theorem fdN {l m : Int} (h : m < 0) : l.fdiv m = (-l) / (-m) := by
  rw [← Int.neg_fdiv_neg, fdP (by omega)]
theorem fd_up {l k m : Int} (h : 0 < m) (e : l ≤ k) : l.fdiv m ≤ k.fdiv m := by
  rw [fdP h, fdP h]
  exact Int.ediv_le_ediv h e
theorem fd_down {l k m : Int} (h : m < 0) (e : l ≤ k) : k.fdiv m ≤ l.fdiv m := by
  rw [fdN h, fdN h]
  exact Int.ediv_le_ediv (by omega) (by omega)
theorem ed_fit {w l m : Int} (h : 0 < m) (h0 : -w ≤ l) (h1 : l ≤ w) (w0 : 0 ≤ w) : -w ≤ l / m ∧ l / m ≤ w := by
  constructor
  · rw [Int.le_ediv_iff_mul_le h]
    have : w * 1 ≤ w * m := Int.mul_le_mul_of_nonneg_left (by omega) w0
    rw [Int.neg_mul]
    omega
  · refine Int.le_of_lt_add_one ((Int.ediv_lt_iff_lt_mul h).mpr ?_)
    have : (w + 1) * 1 ≤ (w + 1) * m := Int.mul_le_mul_of_nonneg_left (by omega) (by omega)
    omega
theorem fd_fit {w l m : Int} (h : m ≠ 0) (h0 : -w ≤ l) (h1 : l ≤ w) (w0 : 0 ≤ w) : -w ≤ l.fdiv m ∧ l.fdiv m ≤ w := by
  rcases Int.lt_or_gt_of_ne h with n | p
  · rw [fdN n]
    exact ed_fit (by omega) (by omega) (by omega) w0
  · rw [fdP p]
    exact ed_fit p h0 h1 w0
theorem ed_far {l m q : Int} (h : 0 < m) (k : m ≤ q) : (0 ≤ l → l / q ≤ l / m) ∧ (l < 0 → l / m ≤ l / q) := by
  have hq : 0 < q := by omega
  constructor
  · intro z
    rw [Int.le_ediv_iff_mul_le h]
    have n : 0 ≤ l / q := Int.ediv_nonneg z (by omega)
    have := Int.mul_le_mul_of_nonneg_left k n
    have := Int.ediv_mul_le l (b := q) (by omega)
    omega
  · intro z
    rw [Int.le_ediv_iff_mul_le hq]
    have n : l / m ≤ 0 := by
      refine Int.le_of_lt_add_one ((Int.ediv_lt_iff_lt_mul h).mpr ?_)
      omega
    have := Int.mul_le_mul_of_nonpos_left n k
    have := Int.ediv_mul_le l (b := m) (by omega)
    omega
/-- between two divisors of one sign -/
theorem ed_mid {l p m q : Int} (h : 0 < p) (k1 : p ≤ m) (k2 : m ≤ q) : (l / p ≤ l / m ∨ l / q ≤ l / m) ∧ (l / m ≤ l / p ∨ l / m ≤ l / q) := by
  have a := ed_far (l := l) h k1
  have b := ed_far (l := l) (m := m) (q := q) (by omega) k2
  rcases Int.lt_or_le l 0 with z | z
  · exact ⟨.inl (a.2 z), .inr (b.2 z)⟩
  · exact ⟨.inr (b.1 z), .inl (a.1 z)⟩
theorem fd_midP {l p m q : Int} (h : 0 < p) (k1 : p ≤ m) (k2 : m ≤ q) : (l.fdiv p ≤ l.fdiv m ∨ l.fdiv q ≤ l.fdiv m) ∧ (l.fdiv m ≤ l.fdiv p ∨ l.fdiv m ≤ l.fdiv q) := by
  rw [fdP h, fdP (m := m) (by omega), fdP (m := q) (by omega)]
  exact ed_mid h k1 k2
theorem fd_midN {l p m q : Int} (h : q < 0) (k1 : p ≤ m) (k2 : m ≤ q) : (l.fdiv p ≤ l.fdiv m ∨ l.fdiv q ≤ l.fdiv m) ∧ (l.fdiv m ≤ l.fdiv p ∨ l.fdiv m ≤ l.fdiv q) := by
  rw [fdN h, fdN (m := m) (by omega), fdN (m := p) (by omega)]
  have := ed_mid (l := -l) (p := -q) (m := -m) (q := -p) (by omega) (by omega) (by omega)
  exact ⟨this.1.symm, this.2.symm⟩
/-- the divisors that are looked at -/
def Ends (d : Int × Int) (e : Int) : Prop := e = d.1 ∨ e = d.2 ∨ (d.1 < 0 ∧ 0 < d.2 ∧ (e = -1 ∨ e = 1))
theorem over_iff {w : Int} {a b : Int × Int} {r l m : Int} (w0 : 0 ≤ w) (a0 : -w ≤ a.1) (a1 : a.2 ≤ w) : Pr .over w a b r l m ↔ a.1 ≤ l ∧ l ≤ a.2 ∧ b.1 ≤ m ∧ m ≤ b.2 ∧ m ≠ 0 ∧ r = l.fdiv m := by
  unfold Pr
  constructor
  · rintro ⟨h1, h2, h3, h4, h5, h6⟩
    have h5 : (if m = 0 then none else some (l.fdiv m)) = some r := h5
    by_cases z : m = 0
    · rw [if_pos z] at h5
      cases h5
    · rw [if_neg z] at h5
      exact ⟨h1, h2, h3, h4, z, (Option.some.inj h5).symm⟩
  · rintro ⟨h1, h2, h3, h4, z, rfl⟩
    refine ⟨h1, h2, h3, h4, ?_, fd_fit z (by omega) (by omega) w0⟩
    show (if m = 0 then none else some (l.fdiv m)) = _
    rw [if_neg z]
theorem wn_in {b d : Int × Int} (hb : b.1 ≤ b.2) (h : wn b = some d) : b.1 ≤ d.1 ∧ d.1 ≤ d.2 ∧ d.2 ≤ b.2 ∧ d.1 ≠ 0 ∧ d.2 ≠ 0 ∧ ∀ m, b.1 ≤ m → m ≤ b.2 → m ≠ 0 → d.1 ≤ m ∧ m ≤ d.2 := by
  have k := wn_hull b hb
  rw [h] at k
  obtain ⟨k1, k2, k3⟩ := k
  have := k3 _ k1
  exact ⟨k1.1, this.2, k2.2.1, k1.2.2, k2.2.2, fun m h1 h2 h3 => k3 m ⟨h1, h2, h3⟩⟩
theorem over_hull {w : Int} {a b d : Int × Int} (ha : a.1 ≤ a.2) (hb : b.1 ≤ b.2) (w0 : 0 ≤ w) (a0 : -w ≤ a.1) (a1 : a.2 ≤ w) (hd : wn b = some d) {ns : List Int} (hns : ∀ x, x ∈ ns ↔ ∃ u e, (u = a.1 ∨ u = a.2) ∧ Ends d e ∧ x = u.fdiv e)
    {o : Option (Int × Int)} (ho : Hull (fun x => x ∈ ns) o) : Hull (fun r => ∃ l m, Pr .over w a b r l m) o := by
  obtain ⟨d1, d2, d3, d4, d5, d6⟩ := wn_in hb hd
  have inE : ∀ e, Ends d e → b.1 ≤ e ∧ e ≤ b.2 ∧ e ≠ 0 := fun e h => by
    rcases h with rfl | rfl | ⟨h1, h2, rfl | rfl⟩
    · exact ⟨by omega, by omega, d4⟩
    · exact ⟨by omega, by omega, d5⟩
    · exact ⟨by omega, by omega, by omega⟩
    · exact ⟨by omega, by omega, by omega⟩
  refine ho.of_list (fun x hx => ?_) (fun r ⟨l, m, p⟩ => ?_)
  · obtain ⟨u, e, h1, h2, rfl⟩ := (hns x).mp hx
    obtain ⟨i1, i2, i3⟩ := inE e h2
    refine ⟨u, e, (over_iff w0 a0 a1).mpr ⟨?_, ?_, i1, i2, i3, rfl⟩⟩
    · rcases h1 with rfl | rfl <;> omega
    · rcases h1 with rfl | rfl <;> omega
  · obtain ⟨h1, h2, h3, h4, z, rfl⟩ := (over_iff w0 a0 a1).mp p
    obtain ⟨k1, k2⟩ := d6 m h3 h4 z
    have mem : ∀ u e, (u = a.1 ∨ u = a.2) → Ends d e → u.fdiv e ∈ ns := fun u e x y => (hns _).mpr ⟨u, e, x, y, rfl⟩
    rcases Int.lt_or_gt_of_ne z with n | p
    · -- below 0
      obtain ⟨q, e1, e2, e3, e4⟩ : ∃ q, Ends d q ∧ m ≤ q ∧ q < 0 ∧ True := by
        by_cases y : d.2 < 0
        · exact ⟨d.2, .inr (.inl rfl), k2, y, trivial⟩
        · exact ⟨-1, .inr (.inr ⟨by omega, by omega, .inl rfl⟩), by omega, by omega, trivial⟩
      have lo := fd_down n h2
      have hi := fd_down n h1
      have m1 := (fd_midN (l := a.2) e3 k1 e2).1
      have m2 := (fd_midN (l := a.1) e3 k1 e2).2
      refine ⟨?_, ?_⟩
      · rcases m1 with m1 | m1
        · exact ⟨_, mem a.2 d.1 (.inr rfl) (.inl rfl), by omega⟩
        · exact ⟨_, mem a.2 q (.inr rfl) e1, by omega⟩
      · rcases m2 with m2 | m2
        · exact ⟨_, mem a.1 d.1 (.inl rfl) (.inl rfl), by omega⟩
        · exact ⟨_, mem a.1 q (.inl rfl) e1, by omega⟩
    · obtain ⟨q, e1, e2, e3⟩ : ∃ q, Ends d q ∧ q ≤ m ∧ 0 < q := by
        by_cases y : 0 < d.1
        · exact ⟨d.1, .inl rfl, k1, y⟩
        · exact ⟨1, .inr (.inr ⟨by omega, by omega, .inr rfl⟩), by omega, by omega⟩
      have lo := fd_up p h1
      have hi := fd_up p h2
      have m1 := (fd_midP (l := a.1) e3 e2 k2).1
      have m2 := (fd_midP (l := a.2) e3 e2 k2).2
      refine ⟨?_, ?_⟩
      · rcases m1 with m1 | m1
        · exact ⟨_, mem a.1 q (.inl rfl) e1, by omega⟩
        · exact ⟨_, mem a.1 d.2 (.inl rfl) (.inr (.inl rfl)), by omega⟩
      · rcases m2 with m2 | m2
        · exact ⟨_, mem a.2 q (.inr rfl) e1, by omega⟩
        · exact ⟨_, mem a.2 d.2 (.inr rfl) (.inr (.inl rfl)), by omega⟩
theorem over_firsts {w : Int} {a b d : Int × Int} (ha : a.1 ≤ a.2) (hb : b.1 ≤ b.2) (w0 : 0 ≤ w) (a0 : -w ≤ a.1) (a1 : a.2 ≤ w) (hd : wn b = some d) : Hull (fun l => ∃ r m, Pr .over w a b r l m) (some a) := by
  obtain ⟨d1, d2, d3, d4, d5, d6⟩ := wn_in hb hd
  refine ⟨⟨_, d.1, (over_iff w0 a0 a1).mpr ⟨Int.le_refl _, ha, d1, by omega, d4, rfl⟩⟩, ⟨_, d.1, (over_iff w0 a0 a1).mpr ⟨ha, Int.le_refl _, d1, by omega, d4, rfl⟩⟩, fun l ⟨r, m, p⟩ => ⟨p.1, p.2.1⟩⟩
theorem over_seconds {w : Int} {a b d : Int × Int} (ha : a.1 ≤ a.2) (hb : b.1 ≤ b.2) (w0 : 0 ≤ w) (a0 : -w ≤ a.1) (a1 : a.2 ≤ w) (hd : wn b = some d) : Hull (fun m => ∃ r l, Pr .over w a b r l m) (some d) := by
  obtain ⟨d1, d2, d3, d4, d5, d6⟩ := wn_in hb hd
  refine ⟨⟨_, a.1, (over_iff w0 a0 a1).mpr ⟨Int.le_refl _, ha, d1, by omega, d4, rfl⟩⟩, ⟨_, a.1, (over_iff w0 a0 a1).mpr ⟨Int.le_refl _, ha, by omega, d3, d5, rfl⟩⟩, fun m ⟨r, l, p⟩ => ?_⟩
  obtain ⟨h1, h2, h3, h4, z, _⟩ := (over_iff w0 a0 a1).mp p
  exact d6 m h3 h4 z
theorem wn_none {s : Sg} {w : Int} {a b : Int × Int} (hb : b.1 ≤ b.2) (hs : s = .over ∨ s = .rest) (hd : wn b = none) : ∀ r l m, ¬ Pr s w a b r l m := by
  have k := wn_hull b hb
  rw [hd] at k
  intro r l m p
  have h5 := p.2.2.2.2.1
  by_cases z : m = 0
  · rcases hs with rfl | rfl
    · have h5 : (if m = 0 then none else some (l.fdiv m)) = some r := h5
      rw [if_pos z] at h5
      cases h5
    · have h5 : (if m = 0 then none else some (l.fmod m)) = some r := h5
      rw [if_pos z] at h5
      cases h5
  · exact k m ⟨p.2.2.1, p.2.2.2.1, z⟩
/-! rests -/
def rsb (a : Int × Int) (d : Int) : Int × Int := if a.1.fdiv d = a.2.fdiv d then (a.1.fmod d, a.2.fmod d) else if d > 0 then (0, d - 1) else (d + 1, 0)
theorem fm_posb {l d : Int} (h : 0 < d) : 0 ≤ l.fmod d ∧ l.fmod d < d := by
  rw [Int.fmod_eq_emod_of_nonneg l (by omega)]
  exact ⟨Int.emod_nonneg _ (by omega), Int.emod_lt_of_pos _ h⟩
theorem fm_neg (l d : Int) : l.fmod d = -((-l).fmod (-d)) := by
  rw [Int.fmod_def, Int.fmod_def, Int.neg_fdiv_neg, Int.neg_mul]
  omega
theorem fm_negb {l d : Int} (h : d < 0) : d < l.fmod d ∧ l.fmod d ≤ 0 := by
  have := fm_posb (l := -l) (d := -d) (by omega)
  rw [fm_neg]
  omega
theorem fm_fit {w l d : Int} (h : d ≠ 0) (h0 : -w ≤ d) (h1 : d ≤ w) : -w ≤ l.fmod d ∧ l.fmod d ≤ w := by
  rcases Int.lt_or_gt_of_ne h with n | p
  · have := fm_negb (l := l) n
    omega
  · have := fm_posb (l := l) p
    omega
theorem rsb_hull {a : Int × Int} (ha : a.1 ≤ a.2) {d : Int} (h : d ≠ 0) : Hull (fun r => ∃ l, a.1 ≤ l ∧ l ≤ a.2 ∧ r = l.fmod d) (some (rsb a d)) := by
  unfold rsb
  by_cases e : a.1.fdiv d = a.2.fdiv d
  · rw [if_pos e]
    have all : ∀ l, a.1 ≤ l → l ≤ a.2 → l.fmod d = l - d * a.1.fdiv d := fun l h1 h2 => by
      rw [Int.fmod_def]
      have : l.fdiv d = a.1.fdiv d := by
        rcases Int.lt_or_gt_of_ne h with n | p
        · have := fd_down n h1
          have := fd_down n h2
          omega
        · have := fd_up p h1
          have := fd_up p h2
          omega
      rw [this]
    refine ⟨⟨a.1, Int.le_refl _, ha, rfl⟩, ⟨a.2, ha, Int.le_refl _, rfl⟩, fun r ⟨l, h1, h2, h3⟩ => ?_⟩
    have e1 := all a.1 (Int.le_refl _) ha
    have e2 := all a.2 ha (Int.le_refl _)
    have e3 := all l h1 h2
    generalize d * a.1.fdiv d = z at *
    constructor
    · show a.1.fmod d ≤ r
      omega
    · show r ≤ a.2.fmod d
      omega
  · rw [if_neg e]
    -- a multiple of d lies between
    have mult : ∀ {x y k : Int}, 0 < k → x ≤ y → x / k ≠ y / k → x < y / k * k ∧ y / k * k ≤ y := fun {x y k} hk hxy hne => by
      have h1 := Int.ediv_le_ediv hk hxy
      have h2 := Int.lt_ediv_add_one_mul_self x hk
      have h3 := Int.ediv_mul_le y (b := k) (by omega)
      have h4 : (x / k + 1) * k ≤ y / k * k := Int.mul_le_mul_of_nonneg_right (by omega) (by omega)
      omega
    have em : ∀ q k : Int, 0 < k → (q * k).fmod k = 0 ∧ (q * k - 1).fmod k = k - 1 := fun q k hk => by
      rw [Int.fmod_eq_emod_of_nonneg _ (by omega), Int.fmod_eq_emod_of_nonneg _ (by omega)]
      refine ⟨Int.mul_emod_left _ _, ?_⟩
      refine ((Int.ediv_emod_unique (q := q - 1) (r := k - 1) hk).mpr ⟨?_, by omega, by omega⟩).2
      rw [Int.mul_sub, Int.mul_comm k q]
      omega
    rcases Int.lt_or_gt_of_ne h with n | p
    · rw [if_neg (by omega)]
      rw [fdN n, fdN n] at e
      obtain ⟨m1, m2⟩ := mult (x := -a.2) (y := -a.1) (k := -d) (by omega) (by omega) (fun z => e z.symm)
      obtain ⟨f1, f2⟩ := em (-a.1 / -d) (-d) (by omega)
      generalize -a.1 / -d * -d = t at *
      refine ⟨⟨-(t - 1), by omega, by omega, ?_⟩, ⟨-t, by omega, by omega, ?_⟩, fun r ⟨l, h1, h2, h3⟩ => ?_⟩
      · rw [fm_neg, Int.neg_neg, f2]
        show d + 1 = _
        omega
      · rw [fm_neg, Int.neg_neg, f1]
        rfl
      · have := fm_negb (l := l) n
        show d + 1 ≤ r ∧ r ≤ 0
        omega
    · rw [if_pos p]
      rw [fdP p, fdP p] at e
      obtain ⟨m1, m2⟩ := mult (x := a.1) (y := a.2) (k := d) p ha e
      obtain ⟨f1, f2⟩ := em (a.2 / d) d p
      generalize a.2 / d * d = t at *
      refine ⟨⟨t, by omega, by omega, f1.symm⟩, ⟨t - 1, by omega, by omega, f2.symm⟩, fun r ⟨l, h1, h2, h3⟩ => ?_⟩
      have := fm_posb (l := l) p
      show 0 ≤ r ∧ r ≤ d - 1
      omega
theorem rest_iff {w : Int} {a b : Int × Int} {r l m : Int} (b0 : -w ≤ b.1) (b1 : b.2 ≤ w) : Pr .rest w a b r l m ↔ a.1 ≤ l ∧ l ≤ a.2 ∧ b.1 ≤ m ∧ m ≤ b.2 ∧ m ≠ 0 ∧ r = l.fmod m := by
  unfold Pr
  constructor
  · rintro ⟨h1, h2, h3, h4, h5, h6⟩
    have h5 : (if m = 0 then none else some (l.fmod m)) = some r := h5
    by_cases z : m = 0
    · rw [if_pos z] at h5
      cases h5
    · rw [if_neg z] at h5
      exact ⟨h1, h2, h3, h4, z, (Option.some.inj h5).symm⟩
  · rintro ⟨h1, h2, h3, h4, z, rfl⟩
    refine ⟨h1, h2, h3, h4, ?_, fm_fit z (by omega) (by omega)⟩
    show (if m = 0 then none else some (l.fmod m)) = _
    rw [if_neg z]
theorem rest_hull {w : Int} {a b d : Int × Int} (ha : a.1 ≤ a.2) (hb : b.1 ≤ b.2) (b0 : -w ≤ b.1) (b1 : b.2 ≤ w) (hd : wn b = some d) {ns : List Int} (hns : ∀ x, x ∈ ns ↔ ∃ m, d.1 ≤ m ∧ m ≤ d.2 ∧ m ≠ 0 ∧ (x = (rsb a m).1 ∨ x = (rsb a m).2))
    {o : Option (Int × Int)} (ho : Hull (fun x => x ∈ ns) o) : Hull (fun r => ∃ l m, Pr .rest w a b r l m) o := by
  obtain ⟨d1, d2, d3, d4, d5, d6⟩ := wn_in hb hd
  refine ho.of_list (fun x hx => ?_) (fun r ⟨l, m, p⟩ => ?_)
  · obtain ⟨m, h1, h2, h3, h4⟩ := (hns x).mp hx
    have k := rsb_hull ha h3
    rcases h4 with rfl | rfl
    · obtain ⟨l, e1, e2, e3⟩ := k.1
      exact ⟨l, m, (rest_iff b0 b1).mpr ⟨e1, e2, by omega, by omega, h3, e3⟩⟩
    · obtain ⟨l, e1, e2, e3⟩ := k.2.1
      exact ⟨l, m, (rest_iff b0 b1).mpr ⟨e1, e2, by omega, by omega, h3, e3⟩⟩
  · obtain ⟨h1, h2, h3, h4, z, e⟩ := (rest_iff b0 b1).mp p
    obtain ⟨k1, k2⟩ := d6 m h3 h4 z
    have k := (rsb_hull ha z).2.2 r ⟨l, h1, h2, e⟩
    exact ⟨⟨_, (hns _).mpr ⟨m, k1, k2, z, .inl rfl⟩, k.1⟩, ⟨_, (hns _).mpr ⟨m, k1, k2, z, .inr rfl⟩, k.2⟩⟩
theorem rest_firsts {w : Int} {a b d : Int × Int} (ha : a.1 ≤ a.2) (hb : b.1 ≤ b.2) (b0 : -w ≤ b.1) (b1 : b.2 ≤ w) (hd : wn b = some d) : Hull (fun l => ∃ r m, Pr .rest w a b r l m) (some a) := by
  obtain ⟨d1, d2, d3, d4, d5, d6⟩ := wn_in hb hd
  exact ⟨⟨_, d.1, (rest_iff b0 b1).mpr ⟨Int.le_refl _, ha, d1, by omega, d4, rfl⟩⟩, ⟨_, d.1, (rest_iff b0 b1).mpr ⟨ha, Int.le_refl _, d1, by omega, d4, rfl⟩⟩, fun l ⟨r, m, p⟩ => ⟨p.1, p.2.1⟩⟩
theorem rest_seconds {w : Int} {a b d : Int × Int} (ha : a.1 ≤ a.2) (hb : b.1 ≤ b.2) (b0 : -w ≤ b.1) (b1 : b.2 ≤ w) (hd : wn b = some d) : Hull (fun m => ∃ r l, Pr .rest w a b r l m) (some d) := by
  obtain ⟨d1, d2, d3, d4, d5, d6⟩ := wn_in hb hd
  refine ⟨⟨_, a.1, (rest_iff b0 b1).mpr ⟨Int.le_refl _, ha, d1, by omega, d4, rfl⟩⟩, ⟨_, a.1, (rest_iff b0 b1).mpr ⟨Int.le_refl _, ha, by omega, d3, d5, rfl⟩⟩, fun m ⟨r, l, p⟩ => ?_⟩
  obtain ⟨h1, h2, h3, h4, z, _⟩ := (rest_iff b0 b1).mp p
  exact d6 m h3 h4 z
end K

set_option maxRecDepth 100000
set_option maxHeartbeats 3900000
namespace K
open PySem PySem.Spec PyProof.Rows L2
/-! ### stretches in the heap -/
def St (H : Hp) : Option (Int × Int) → V → Prop
  | none, v => v = .non
  | some a, v => ∃ p : Addr, v = .ref p ∧ H p = some (.tup [.int a.1, .int a.2])
theorem St.keep {H H' : Hp} (k : ∀ a xs, H a = some (HO.tup xs) → H' a = some (.tup xs)) : ∀ {o : Option (Int × Int)} {v : V}, St H o v → St H' o v
  | none, v, h => h
  | some a, v, ⟨p, e, h⟩ => ⟨p, e, k _ _ h⟩
theorem St.same {H H' : Hp} {o : Option (Int × Int)} {v : V} (h : St H o v) (s : Same H H') : St H' o v := h.keep fun _ _ e => s _ _ e
def stD : Option (Int × Int) → PyData
  | none => .none
  | some a => .tuple [.int a.1, .int a.2]
theorem St.im {H : Hp} : ∀ {o : Option (Int × Int)} {v : V}, St H o v → Im H (stD o) v
  | none, v, h => by
    unfold stD Im
    exact h
  | some a, v, ⟨p, e, h⟩ => by
    rw [e]
    exact .tup h (.cons .int (.cons .int .nil))
theorem ifI {i j : Int} {A B : Prop} (h1 : i = j → A) (h2 : i ≠ j → B) : if decide (V.int i = V.int j) = true then A else B :=
  ite2 (fun h => h1 (V.int.inj (of_decide_eq_true h))) (fun h => h2 fun e => h (decide_eq_true (congrArg V.int e)))
theorem ifNN {A B : Prop} (h : A) : if decide (V.non = V.non) = true then A else B := ite2 (fun _ => h) (fun n => absurd (decide_eq_true rfl) n)
theorem ifRN {p : Addr} {A B : Prop} (h : B) : if decide (V.ref p = V.non) = true then A else B := ite2 (fun e => nomatch of_decide_eq_true e) (fun _ => h)
theorem ifmax (i j : Int) : (if j > i then j else i) = max i j := by
  split <;> omega
theorem ifmin (i j : Int) : (if j < i then j else i) = min i j := by
  split <;> omega
section
variable {P : Program} {w : World} {K : PySem.W.Frag} {mg : Str → Option Value} {base : Heap}
abbrev s_nn : Stmt := topS 6
abbrev s_wn : Stmt := topS 5
abbrev s_cmn : Stmt := topS 3
abbrev s_win : Stmt := topS 2
abbrev s_trn : Stmt := topS 4
abbrev s_add : Stmt := topS 7
abbrev s_mul : Stmt := topS 8
abbrev s_fac : Stmt := topS 9
abbrev s_prt : Stmt := topS 10
abbrev s_quo : Stmt := topS 11
abbrev s_rst : Stmt := topS 12
abbrev s_rsb : Stmt := topS 13
abbrev s_pairs : Stmt := topS 1
def spNn : Sp := fun vs H Q _ => ∃ (p : Addr) (a : Int × Int), vs = [.ref p] ∧ H p = some (.tup [.int a.1, .int a.2]) ∧ Q (.int (nn a)) H
theorem scNn : FnScope ["stretch"] ["stretch"] (defScope s_nn) := ⟨rfl, rfl, rfl, by decide +kernel, rfl, by decide +kernel, by decide +kernel⟩
theorem ok_nn (B : Bs mg) {f : Addr} {fd : FuncData} (F : Fun K "_nearest_to_nought" "_nearest_to_nought" s_nn f fd) : FnOk P w K mg base CX0 1 f fd ["stretch"] spNn := by
  refine F.ok scNn (fun vs H Q E h => ?_) (fun cdv A outer s H vs Q E hr h => ?_)
  · obtain ⟨p, a, rfl, _⟩ := h
    rfl
  · obtain ⟨p, a, rfl, hp, q⟩ := h
    refine ⟨_, (pss_one (ps_ret (pe_callB (call_max3Nu rfl) (by rfl) B.max PyProof.Rows.boot_max (pa_cons pe_int (pa_cons (pe_ix (ixT K rfl) (pv 0) pe_int (fun _ _ => rfl)) (pa_cons (pe_un un_neg (pe_ix (ixT K rfl) (pv 0) pe_int (fun _ _ => rfl))) pa_nil)))))), ?_⟩
    refine ⟨_, rfl, p, _, 0, _, rfl, rfl, SqT.of hp, atI_nat (j := 0) rfl, _, rfl, p, _, 1, _, rfl, rfl, SqT.of hp, atI_nat (j := 1) rfl, _, rfl, _, _, _, .int (nn a), rfl, ?_, q⟩
    have mx : ∀ i j : Int, nuMax2 (.int i) (.int j) = some (.int (max i j)) := fun i j => by
      show some (if decide (i < j) = true then V.int j else V.int i) = _
      by_cases h : i < j
      · rw [if_pos (decide_eq_true h), Int.max_eq_right (by omega)]
      · rw [if_neg (by simpa using h), Int.max_eq_left (by omega)]
    unfold nuMax3
    rw [mx]
    exact mx _ _
def spWn : Sp := fun vs H Q _ => ∃ (p : Addr) (a : Int × Int), vs = [.ref p] ∧ H p = some (.tup [.int a.1, .int a.2]) ∧ ∀ v H', Same H H' → St H' (wn a) v → Q v H'
theorem scWn : FnScope ["stretch", "least", "greatest"] ["stretch"] (defScope s_wn) := ⟨rfl, rfl, rfl, by decide +kernel, rfl, by decide +kernel, by decide +kernel⟩
theorem ok_wn {f : Addr} {fd : FuncData} (F : Fun K "_without_nought" "_without_nought" s_wn f fd) : FnOk P w K mg base CX0 1 f fd ["stretch"] spWn := by
  refine F.ok scWn (fun vs H Q E h => ?_) (fun cdv A outer s H vs Q E hr h => ?_)
  · obtain ⟨p, a, rfl, _⟩ := h
    rfl
  · obtain ⟨p, a, rfl, hp, q⟩ := h
    refine ⟨_, (pss_cons (ps_set (i := 1) scWn.nd rfl (.inl rfl) (pe_ifExp (pt_cmpR op_eq (pe_ix (ixT K rfl) (pv 0) pe_int (fun _ _ => rfl)) pe_int (nomark _)) pe_int (pe_ix (ixT K rfl) (pv 0) pe_int (fun _ _ => rfl))))
      (pss_cons (ps_set (i := 2) scWn.nd rfl (.inl rfl) (pe_ifExp (pt_cmpR op_eq (pe_ix (ixT K rfl) (pv 0) pe_int (fun _ _ => rfl)) pe_int (nomark _)) (pe_un un_neg pe_int) (pe_ix (ixT K rfl) (pv 0) pe_int (fun _ _ => rfl))))
      (pss_one (ps_ret (pe_ifExp (pt_cmpR op_gt (pv 1) (pv 2) (nomark _)) pe_non (pe_tup (pa_cons (pv 1) (pa_cons (pv 2) pa_nil)))))))), ?_⟩
    have fin : ∀ c d : Int, wn a = (if c > d then none else some (c, d)) → (tRet (tIf (tTest (tOp (rI0 fun i j => V.bl (decide (j < i))) (tVar 1) (tVar 2))) (tC V.non) (tTup (tCons (tVar 1) (tCons (tVar 2) tNil))))) { nx := fun _ H' => Q .non H', rt := Q } [some (.ref p), some (.int c), some (.int d)] H := fun c d e => by
      refine ⟨_, rfl, _, rfl, _, _, rfl, rfl, _, rfl, ite2 (fun h => ?_) (fun h => ?_)⟩
      · refine q _ _ (fun _ _ h => h) ?_
        rw [e, if_pos (of_decide_eq_true h)]
        rfl
      · refine ⟨_, rfl, _, rfl, (by show 2 ≤ sizeLine; decide), fun u hu => q _ _ (same_new hu) ?_⟩
        rw [e, if_neg (by simpa using h)]
        exact ⟨u, rfl, upd_same⟩
    refine ⟨_, rfl, p, _, 0, _, rfl, rfl, SqT.of hp, atI_nat (j := 0) rfl, rfl, _, rfl, ifI (fun h1 => ?_) (fun h1 => ?_)⟩
    · refine ⟨_, rfl, p, _, 1, _, rfl, rfl, SqT.of hp, atI_nat (j := 1) rfl, rfl, _, rfl, ifI (fun h2 => ?_) (fun h2 => ?_)⟩
      · exact ⟨_, rfl, fin 1 (-1) (by unfold wn; rw [if_pos h1, if_pos h2])⟩
      · exact ⟨_, rfl, p, _, 1, _, rfl, rfl, SqT.of hp, atI_nat (j := 1) rfl, fin 1 a.2 (by unfold wn; rw [if_pos h1, if_neg h2])⟩
    · refine ⟨_, rfl, p, _, 0, _, rfl, rfl, SqT.of hp, atI_nat (j := 0) rfl, ?_⟩
      refine ⟨_, rfl, p, _, 1, _, rfl, rfl, SqT.of hp, atI_nat (j := 1) rfl, rfl, _, rfl, ifI (fun h2 => ?_) (fun h2 => ?_)⟩
      · exact ⟨_, rfl, fin a.1 (-1) (by unfold wn; rw [if_neg h1, if_pos h2])⟩
      · exact ⟨_, rfl, p, _, 1, _, rfl, rfl, SqT.of hp, atI_nat (j := 1) rfl, fin a.1 a.2 (by unfold wn; rw [if_neg h1, if_neg h2])⟩
def spCmn : Sp := fun vs H Q _ => ∃ (p r : Addr) (a b : Int × Int), vs = [.ref p, .ref r] ∧ H p = some (.tup [.int a.1, .int a.2]) ∧ H r = some (.tup [.int b.1, .int b.2]) ∧ ∀ v H', Same H H' → St H' (cmn a b) v → Q v H'
theorem scCm : FnScope ["one", "other", "least", "greatest"] ["one", "other"] (defScope s_cmn) := ⟨rfl, rfl, rfl, by decide +kernel, rfl, by decide +kernel, by decide +kernel⟩
theorem ok_cmn (B : Bs mg) {f : Addr} {fd : FuncData} (F : Fun K "_common" "_common" s_cmn f fd) : FnOk P w K mg base CX0 1 f fd ["one", "other"] spCmn := by
  refine F.ok scCm (fun vs H Q E h => ?_) (fun cdv A outer s H vs Q E hr h => ?_)
  · obtain ⟨p, r, a, b, rfl, _⟩ := h
    rfl
  · obtain ⟨p, r, a, b, rfl, hp, hr', q⟩ := h
    refine ⟨_, (pss_cons (ps_par (i := 2) (j := 3) rfl scCm.nd rfl rfl (by decide) rfl rfl (pa_cons (pe_callB (call_max2 rfl) (by rfl) B.max PyProof.Rows.boot_max (pa_cons (pe_ix (ixT K rfl) (pv 0) pe_int (fun _ _ => rfl)) (pa_cons (pe_ix (ixT K rfl) (pv 1) pe_int (fun _ _ => rfl)) pa_nil))) (pa_cons (pe_callB (call_min2 rfl) (by rfl) B.min PyProof.Rows.boot_min (pa_cons (pe_ix (ixT K rfl) (pv 0) pe_int (fun _ _ => rfl)) (pa_cons (pe_ix (ixT K rfl) (pv 1) pe_int (fun _ _ => rfl)) pa_nil))) pa_nil)) (by rfl))
      (pss_one (ps_ret (pe_ifExp (pt_cmpR op_gt (pv 2) (pv 3) (nomark _)) pe_non (pe_tup (pa_cons (pv 2) (pa_cons (pv 3) pa_nil))))))), ?_⟩
    refine ⟨_, rfl, p, _, 0, _, rfl, rfl, SqT.of hp, atI_nat (j := 0) rfl, _, rfl, r, _, 0, _, rfl, rfl, SqT.of hr', atI_nat (j := 0) rfl, _, _, rfl, _, rfl, p, _, 1, _, rfl, rfl, SqT.of hp, atI_nat (j := 1) rfl, _, rfl, r, _, 1, _, rfl, rfl, SqT.of hr', atI_nat (j := 1) rfl, _, _, rfl, _, _, rfl, ?_⟩
    rw [ifmax, ifmin]
    refine ⟨_, rfl, _, rfl, _, _, rfl, rfl, _, rfl, ite2 (fun h => ?_) (fun h => ?_)⟩
    · refine q _ _ (fun _ _ h => h) ?_
      unfold cmn
      rw [if_pos (of_decide_eq_true h)]
      rfl
    · refine ⟨_, rfl, _, rfl, (by show 2 ≤ sizeLine; decide), fun u hu => q _ _ (same_new hu) ?_⟩
      unfold cmn
      rw [if_neg (by simpa using h)]
      exact ⟨u, rfl, upd_same⟩
def spWin : Sp := fun vs H Q _ => ∃ (v0 : V) (o : Option (Int × Int)) (w : Int), vs = [v0, .int w] ∧ St H o v0 ∧ ∀ v H', Same H H' → St H' (o.bind fun a => cmn a (-w, w)) v → Q v H'
theorem scWi : FnScope ["stretch", "width"] ["stretch", "width"] (defScope s_win) := ⟨rfl, rfl, rfl, by decide +kernel, rfl, by decide +kernel, by decide +kernel⟩
theorem ok_win (c_common : C8.Cal P w K mg base 1 "_common" spCmn []) {f : Addr} {fd : FuncData} (F : Fun K "_words_in" "_words_in" s_win f fd) : FnOk P w K mg base CX0 2 f fd ["stretch", "width"] spWin := by
  refine F.ok scWi (fun vs H Q E h => ?_) (fun cdv A outer s H vs Q E hr h => ?_)
  · obtain ⟨v0, o, w, rfl, _⟩ := h
    rfl
  · obtain ⟨v0, o, w, rfl, hv, q⟩ := h
    refine ⟨_, (pss_one (ps_ret (pe_ifExp (pt_cmpR op_isN (pv 0) pe_non (nomark _)) pe_non (C8.pe_c c_common hr (by decide) (by rfl) (pa_cons (pv 0) (pa_cons (pe_tup (pa_cons (pe_un un_neg (pv 1)) (pa_cons (pv 1) pa_nil))) pa_nil)))))), ?_⟩
    match o, hv with
    | none, hv =>
      obtain rfl : v0 = .non := hv
      exact ⟨_, rfl, rfl, _, rfl, ifNN (q _ _ (fun _ _ h => h) rfl)⟩
    | some a, ⟨p, e, hp⟩ =>
      subst e
      refine ⟨_, rfl, rfl, _, rfl, ifRN ?_⟩
      refine ⟨_, rfl, _, rfl, _, rfl, _, rfl, (by show 2 ≤ sizeLine; decide), fun u hu => ?_⟩
      have s1 := same_new (o := .tup [.int (-w), .int w]) hu
      exact ⟨p, u, a, (-w, w), rfl, s1 _ _ hp, upd_same, fun v H' s2 h => q v H' (s1.trans s2) h⟩
def spTrn : Sp := fun vs H Q _ => ∃ (v0 : V) (o : Option (Int × Int)), vs = [v0] ∧ St H o v0 ∧ ∀ v H', Same H H' → St H' (o.map trn) v → Q v H'
theorem scTr : FnScope ["stretch"] ["stretch"] (defScope s_trn) := ⟨rfl, rfl, rfl, by decide +kernel, rfl, by decide +kernel, by decide +kernel⟩
theorem ok_trn {f : Addr} {fd : FuncData} (F : Fun K "_turned" "_turned" s_trn f fd) : FnOk P w K mg base CX0 1 f fd ["stretch"] spTrn := by
  refine F.ok scTr (fun vs H Q E h => ?_) (fun cdv A outer s H vs Q E hr h => ?_)
  · obtain ⟨v0, o, rfl, _⟩ := h
    rfl
  · obtain ⟨v0, o, rfl, hv, q⟩ := h
    refine ⟨_, (pss_one (ps_ret (pe_ifExp (pt_cmpR op_isN (pv 0) pe_non (nomark _)) pe_non (pe_tup (pa_cons (pe_un un_neg (pe_ix (ixT K rfl) (pv 0) pe_int (fun _ _ => rfl))) (pa_cons (pe_un un_neg (pe_ix (ixT K rfl) (pv 0) pe_int (fun _ _ => rfl))) pa_nil)))))), ?_⟩
    match o, hv with
    | none, hv =>
      obtain rfl : v0 = .non := hv
      exact ⟨_, rfl, rfl, _, rfl, ifNN (q _ _ (fun _ _ h => h) rfl)⟩
    | some a, ⟨p, e, hp⟩ =>
      subst e
      refine ⟨_, rfl, rfl, _, rfl, ifRN ?_⟩
      refine ⟨_, rfl, p, _, 1, _, rfl, rfl, SqT.of hp, atI_nat (j := 1) rfl, _, rfl, _, rfl, p, _, 0, _, rfl, rfl, SqT.of hp, atI_nat (j := 0) rfl, _, rfl, (by show 2 ≤ sizeLine; decide), fun u hu => ?_⟩
      exact q _ _ (same_new hu) ⟨u, rfl, upd_same⟩
/-- three stretches, told -/
def Tri (H : Hp) (o : Option (Int × Int) × Option (Int × Int) × Option (Int × Int)) (v : V) : Prop := ∃ (p : Addr) (v1 v2 v3 : V), v = .ref p ∧ H p = some (.tup [v1, v2, v3]) ∧ St H o.1 v1 ∧ St H o.2.1 v2 ∧ St H o.2.2 v3
def spAdd : Sp := fun vs H Q _ => ∃ (p r : Addr) (w : Int) (a b : Int × Int), vs = [.ref p, .ref r, .int w] ∧ H p = some (.tup [.int a.1, .int a.2]) ∧ H r = some (.tup [.int b.1, .int b.2]) ∧ ∀ v H', Same H H' → Tri H' (addO w a b) v → Q v H'
theorem scAd : FnScope ["one", "other", "width", "results", "firsts", "seconds"] ["one", "other", "width"] (defScope s_add) := ⟨rfl, rfl, rfl, by decide +kernel, rfl, by decide +kernel, by decide +kernel⟩
theorem ok_add (c_common : C8.Cal P w K mg base 1 "_common" spCmn []) {f : Addr} {fd : FuncData} (F : Fun K "_added" "_added" s_add f fd) : FnOk P w K mg base CX0 2 f fd ["one", "other", "width"] spAdd := by
  refine F.ok scAd (fun vs H Q E h => ?_) (fun cdv A outer s H vs Q E hr h => ?_)
  · obtain ⟨p, r, w, a, b, rfl, _⟩ := h
    rfl
  · obtain ⟨p, r, w, a, b, rfl, hp, hq, q⟩ := h
    refine ⟨_, (pss_cons (ps_set (i := 3) scAd.nd rfl (.inl rfl) (C8.pe_c c_common hr (by decide) (by rfl) (pa_cons (pe_tup (pa_cons (pe_op op_add (pe_ix (ixT K rfl) (pv 0) pe_int (fun _ _ => rfl)) (pe_ix (ixT K rfl) (pv 1) pe_int (fun _ _ => rfl))) (pa_cons (pe_op op_add (pe_ix (ixT K rfl) (pv 0) pe_int (fun _ _ => rfl)) (pe_ix (ixT K rfl) (pv 1) pe_int (fun _ _ => rfl))) pa_nil))) (pa_cons (pe_tup (pa_cons (pe_un un_neg (pv 2)) (pa_cons (pv 2) pa_nil))) pa_nil))))
      (pss_cons (ps_set (i := 4) scAd.nd rfl (.inl rfl) (C8.pe_c c_common hr (by decide) (by rfl) (pa_cons (pv 0) (pa_cons (pe_tup (pa_cons (pe_op op_sub (pe_un un_neg (pv 2)) (pe_ix (ixT K rfl) (pv 1) pe_int (fun _ _ => rfl))) (pa_cons (pe_op op_sub (pv 2) (pe_ix (ixT K rfl) (pv 1) pe_int (fun _ _ => rfl))) pa_nil))) pa_nil))))
      (pss_cons (ps_set (i := 5) scAd.nd rfl (.inl rfl) (C8.pe_c c_common hr (by decide) (by rfl) (pa_cons (pv 1) (pa_cons (pe_tup (pa_cons (pe_op op_sub (pe_un un_neg (pv 2)) (pe_ix (ixT K rfl) (pv 0) pe_int (fun _ _ => rfl))) (pa_cons (pe_op op_sub (pv 2) (pe_ix (ixT K rfl) (pv 0) pe_int (fun _ _ => rfl))) pa_nil))) pa_nil))))
      (pss_one (ps_ret (pe_tup (pa_cons (pv 3) (pa_cons (pv 4) (pa_cons (pv 5) pa_nil))))))))), ?_⟩
    refine ⟨_, rfl, p, _, 0, _, rfl, rfl, SqT.of hp, atI_nat (j := 0) rfl, _, rfl, r, _, 0, _, rfl, rfl, SqT.of hq, atI_nat (j := 0) rfl, _, _, rfl, rfl, _, rfl, p, _, 1, _, rfl, rfl, SqT.of hp, atI_nat (j := 1) rfl, _, rfl, r, _, 1, _, rfl, rfl, SqT.of hq, atI_nat (j := 1) rfl, _, _, rfl, rfl, (by show 2 ≤ sizeLine; decide), fun u1 n1 => ?_⟩
    have s1 := same_new (o := .tup [.int (a.1 + b.1), .int (a.2 + b.2)]) n1
    refine ⟨_, rfl, _, rfl, _, rfl, (by show 2 ≤ sizeLine; decide), fun u2 n2 => ?_⟩
    have s2 := same_new (o := .tup [.int (-w), .int w]) n2
    refine ⟨u1, u2, (a.1 + b.1, a.2 + b.2), (-w, w), rfl, s2 _ _ upd_same, upd_same, fun v1 H1 t1 h1 => ?_⟩
    have S1 := (s1.trans s2).trans t1
    clear s1 s2 t1 n1 n2
    have hp1 := S1 _ _ hp
    have hq1 := S1 _ _ hq
    refine ⟨_, rfl, _, rfl, _, rfl, _, rfl, r, _, 1, _, rfl, rfl, SqT.of hq1, atI_nat (j := 1) rfl, _, _, rfl, rfl, _, rfl, _, rfl, r, _, 0, _, rfl, rfl, SqT.of hq1, atI_nat (j := 0) rfl, _, _, rfl, rfl, (by show 2 ≤ sizeLine; decide), fun u1 n1 => ?_⟩
    have s1 := same_new (o := .tup [.int (-w - b.2), .int (w - b.1)]) n1
    refine ⟨p, u1, a, (-w - b.2, w - b.1), rfl, s1 _ _ hp1, upd_same, fun v2 H2 t2 h2 => ?_⟩
    have S2 := s1.trans t2
    clear s1 t2 n1
    have hp2 := S2 _ _ hp1
    have hq2 := S2 _ _ hq1
    refine ⟨_, rfl, _, rfl, _, rfl, _, rfl, p, _, 1, _, rfl, rfl, SqT.of hp2, atI_nat (j := 1) rfl, _, _, rfl, rfl, _, rfl, _, rfl, p, _, 0, _, rfl, rfl, SqT.of hp2, atI_nat (j := 0) rfl, _, _, rfl, rfl, (by show 2 ≤ sizeLine; decide), fun u1 n1 => ?_⟩
    have s1 := same_new (o := .tup [.int (-w - a.2), .int (w - a.1)]) n1
    refine ⟨r, u1, b, (-w - a.2, w - a.1), rfl, s1 _ _ hq2, upd_same, fun v3 H3 t3 h3 => ?_⟩
    have S3 := s1.trans t3
    clear s1 t3 n1
    refine ⟨_, rfl, _, rfl, _, rfl, (by show 3 ≤ sizeLine; decide), fun u n => ?_⟩
    have s4 := same_new (o := .tup [v1, v2, v3]) n
    exact q _ _ (((S1.trans S2).trans S3).trans s4) ⟨u, v1, v2, v3, rfl, upd_same, ((h1.same S2).same S3).same s4, (h2.same S3).same s4, h3.same s4⟩
def spPrt : Sp := fun vs H Q _ => ∃ x w : Int, vs = [.int x, .int w] ∧ -1000 ≤ x ∧ x ≤ 1000 ∧ ∀ (u : Addr) H', Same H H' → H' u = some (.tup [.int (-(prt w x)), .int (prt w x)]) → Q (.ref u) H'
theorem scPr : FnScope ["word", "width", "most"] ["word", "width"] (defScope s_prt) := ⟨rfl, rfl, rfl, by decide +kernel, rfl, by decide +kernel, by decide +kernel⟩
theorem ok_prt (B : Bs mg) {f : Addr} {fd : FuncData} (F : Fun K "_partners" "_partners" s_prt f fd) : FnOk P w K mg base CX0 1 f fd ["word", "width"] spPrt := by
  refine F.ok scPr (fun vs H Q E h => ?_) (fun cdv A outer s H vs Q E hr h => ?_)
  · obtain ⟨x, w, rfl, _⟩ := h
    rfl
  · obtain ⟨x, w, rfl, x0, x1, q⟩ := h
    refine ⟨_, (pss_cons (ps_set (i := 2) scPr.nd rfl (.inl rfl) (pe_ifExp (pt_cmpR op_eq (pv 0) pe_int (nomark _)) (pv 1) (pe_op op_fdivN (pv 1) (pe_callB call_abs (by rfl) B.abs (by decide +kernel) (pa_cons (pv 0) pa_nil)))))
      (pss_one (ps_ret (pe_tup (pa_cons (pe_un un_neg (pv 2)) (pa_cons (pv 2) pa_nil)))))), ?_⟩
    refine ⟨_, rfl, rfl, _, rfl, ifI (fun z => ?_) (fun z => ?_)⟩
    · refine ⟨_, rfl, ?_⟩
      refine ⟨_, rfl, _, rfl, _, rfl, (by show 2 ≤ sizeLine; decide), fun u n => q u _ (same_new n) ?_⟩
      rw [upd_same]
      unfold prt
      rw [if_pos z]
    · refine ⟨_, rfl, _, rfl, _, rfl, _, _, rfl, rfl, ⟨?_, ?_⟩, ?_⟩
      · show (if x < 0 then -x else x) ≠ 0
        split <;> omega
      · show (if x < 0 then -x else x).natAbs < 1073741824
        split <;> omega
      refine ⟨_, rfl, _, rfl, _, rfl, (by show 2 ≤ sizeLine; decide), fun u n => q u _ (same_new n) ?_⟩
      rw [upd_same]
      unfold prt
      rw [if_neg z]
def spFac : Sp := fun vs H Q _ => ∃ (p r : Addr) (w : Int) (a b : Int × Int), vs = [.ref p, .ref r, .int w] ∧ H p = some (.tup [.int a.1, .int a.2]) ∧ H r = some (.tup [.int b.1, .int b.2]) ∧ -31 ≤ b.2 ∧ b.1 ≤ 31 ∧ ∀ v H', Same H H' → St H' (facO w a b) v → Q v H'
theorem scFa : FnScope ["stretch", "other", "width"] ["stretch", "other", "width"] (defScope s_fac) := ⟨rfl, rfl, rfl, by decide +kernel, rfl, by decide +kernel, by decide +kernel⟩
theorem ok_fac (c_common : C8.Cal P w K mg base 1 "_common" spCmn []) (c_partners : C8.Cal P w K mg base 1 "_partners" spPrt []) (c_nearest_to_nought : C8.Cal P w K mg base 1 "_nearest_to_nought" spNn []) {f : Addr} {fd : FuncData} (F : Fun K "_factors" "_factors" s_fac f fd) : FnOk P w K mg base CX0 2 f fd ["stretch", "other", "width"] spFac := by
  refine F.ok scFa (fun vs H Q E h => ?_) (fun cdv A outer s H vs Q E hr h => ?_)
  · obtain ⟨p, r, w, a, b, rfl, _⟩ := h
    rfl
  · obtain ⟨p, r, w, a, b, rfl, hp, hq, b0, b1, q⟩ := h
    refine ⟨_, (pss_one (ps_ret (C8.pe_c c_common hr (by decide) (by rfl) (pa_cons (pv 0) (pa_cons (C8.pe_c c_partners hr (by decide) (by rfl) (pa_cons (C8.pe_c c_nearest_to_nought hr (by decide) (by rfl) (pa_cons (pv 1) pa_nil)) (pa_cons (pv 2) pa_nil))) pa_nil))))), ?_⟩
    have hn : 0 ≤ nn b ∧ nn b ≤ 31 := by
      unfold nn
      omega
    refine ⟨_, rfl, _, rfl, r, b, rfl, hq, ?_⟩
    refine ⟨_, rfl, nn b, w, rfl, by omega, by omega, fun u H1 s1 hu => ?_⟩
    exact ⟨p, u, a, (-(prt w (nn b)), prt w (nn b)), rfl, s1 _ _ hp, hu, fun v H' s2 h => q v H' (s1.trans s2) h⟩
theorem same_put {H H' : Hp} {p : Addr} {o : HO} (s : Same H H') (h : H p = none) : Same H (upd H' p o) := fun b u e => by
  rw [upd_ne (ne_of_none e h)]
  exact s b u e
/-- a range from one number to another -/
theorem rng_ok {x y : Int} (h0 : -1000 ≤ x) (h1 : x ≤ 1000) (k0 : -1000 ≤ y) (k1 : y ≤ 1000) : -(2 ^ 62) ≤ x ∧ x < 2 ^ 62 ∧ -(2 ^ 62) ≤ y + 1 ∧ y + 1 < 2 ^ 62 := ⟨by omega, by omega, by omega, by omega⟩
def spMul : Sp := fun vs H Q _ => ∃ (p r : Addr) (w : Int) (a b : Int × Int), vs = [.ref p, .ref r, .int w] ∧ H p = some (.tup [.int a.1, .int a.2]) ∧ H r = some (.tup [.int b.1, .int b.2]) ∧ 0 ≤ w ∧ w ≤ 31 ∧ -w ≤ a.1 ∧ a.1 ≤ a.2 ∧ a.2 ≤ w ∧ -w ≤ b.1 ∧ b.1 ≤ b.2 ∧ b.2 ≤ w ∧
  ∀ o v H', Hull (fun x => ∃ l m, Pr .times w a b x l m) o.1 → Hull (fun l => ∃ x m, Pr .times w a b x l m) o.2.1 → Hull (fun m => ∃ x l, Pr .times w a b x l m) o.2.2 → Same H H' → Tri H' o v → Q v H'
theorem scMu : FnScope ["one", "other", "width", "firsts", "seconds", "products", "first", "least", "greatest"] ["one", "other", "width"] (defScope s_mul) := ⟨rfl, rfl, rfl, by decide +kernel, rfl, by decide +kernel, by decide +kernel⟩
theorem ok_mul (B : Bs mg) (c_common : C8.Cal P w K mg base 1 "_common" spCmn []) (c_partners : C8.Cal P w K mg base 1 "_partners" spPrt []) (c_factors : C8.Cal P w K mg base 2 "_factors" spFac []) {f : Addr} {fd : FuncData} (F : Fun K "_multiplied" "_multiplied" s_mul f fd) : FnOk P w K mg base CX0 3 f fd ["one", "other", "width"] spMul := by
  refine F.ok scMu (fun vs H Q E h => ?_) (fun cdv A outer s H vs Q E hr h => ?_)
  · obtain ⟨p, r, w, a, b, rfl, _⟩ := h
    rfl
  · obtain ⟨p, r, w, a, b, rfl, hp, hq, w0, w1, a0, a01, a1, b0, b01, b1, q⟩ := h
    refine ⟨_, (pss_cons (ps_set (i := 3) scMu.nd rfl (.inl rfl) (C8.pe_c c_factors hr (by decide) (by rfl) (pa_cons (pv 0) (pa_cons (pv 1) (pa_cons (pv 2) pa_nil)))))
      (pss_cons (ps_set (i := 4) scMu.nd rfl (.inl rfl) (C8.pe_c c_factors hr (by decide) (by rfl) (pa_cons (pv 1) (pa_cons (pv 0) (pa_cons (pv 2) pa_nil)))))
      (pss_cons (ps_if (pt_cmpR op_isN (pv 3) pe_non (nomark _)) (pss_one (ps_ret (pe_tup (pa_cons pe_non (pa_cons pe_non (pa_cons pe_non pa_nil)))))) pss_nil)
      (pss_cons (ps_set (i := 5) scMu.nd rfl (.inl rfl) (pe_lst pa_nil))
      (pss_cons (ps_for PassesOwn.never rfl (pi_range2 (by rfl) B.range (pa_cons (pe_ix (ixT K rfl) (pv 3) pe_int (fun _ _ => rfl)) (pa_cons (pe_op op_add (pe_ix (ixT K rfl) (pv 3) pe_int (fun _ _ => rfl)) pe_int) pa_nil))) (pg_name (i := 6) scMu.nd rfl (.inl rfl))
      (pss_cons (ps_asg (C8.pe_c c_common hr (by decide) (by rfl) (pa_cons (pv 4) (pa_cons (C8.pe_c c_partners hr (by decide) (by rfl) (pa_cons (pv 6) (pa_cons (pv 2) pa_nil))) pa_nil))) (pg_tup (n := 2) rfl (pgs_cons (pg_name (i := 7) scMu.nd rfl (.inl rfl)) (pgs_cons (pg_name (i := 8) scMu.nd rfl (.inl rfl)) pgs_nil))))
      (pss_one (ps_expr (pe_bm PySem.F.plainAttrs_list PySem.F.slot_list_extend PySem.F.type_list_extend mt_extend (pv 5) (pa_cons (pe_lst (pa_cons (pe_op op_mul (pv 6) (pv 7)) (pa_cons (pe_op op_mul (pv 6) (pv 8)) pa_nil))) pa_nil))))))
      (pss_one (ps_ret (pe_tup (pa_cons (pe_tup (pa_cons (pe_callB (cr_min rfl) (by rfl) B.min PyProof.Rows.boot_min (pa_cons (pv 5) pa_nil)) (pa_cons (pe_callB (cr_max rfl) (by rfl) B.max PyProof.Rows.boot_max (pa_cons (pv 5) pa_nil)) pa_nil))) (pa_cons (pv 3) (pa_cons (pv 4) pa_nil))))))))))), ?_⟩
    refine ⟨_, rfl, _, rfl, _, rfl, p, r, w, a, b, rfl, hp, hq, by omega, by omega, fun v1 H1 s1 h1 => ?_⟩
    dsimp only [gName]
    refine ⟨_, rfl, _, rfl, _, rfl, r, p, w, b, a, rfl, s1 _ _ hq, s1 _ _ hp, by omega, by omega, fun v2 H2 s2 h2 => ?_⟩
    dsimp only [gName]
    have S := s1.trans s2
    have h1 := h1.same s2
    have hf2 := fac_hull2 (a := a) (b := b) a01 w0 b0 b1
    have hf1 := fac_hull (a := a) (b := b) b01 w0 a0 a1
    cases ef : facO w a b with
    | none =>
      rw [ef] at h1
      obtain rfl : v1 = .non := h1
      have no := fac_none a01 b01 w0 a0 a1 b0 b1 ef
      refine ⟨_, rfl, rfl, _, rfl, ifNN ?_⟩
      refine ⟨(by show 3 ≤ sizeLine; decide), fun u n => ?_⟩
      exact q (none, none, none) _ _ (fun x ⟨l, m, h⟩ => no _ _ _ h) (fun x ⟨l, m, h⟩ => no _ _ _ h) (fun x ⟨l, m, h⟩ => no _ _ _ h) (S.trans (same_new n)) ⟨u, _, _, _, rfl, upd_same, rfl, rfl, rfl⟩
    | some ff =>
      rw [ef] at h1 hf1
      obtain ⟨pf, rfl, hpf⟩ := h1
      cases eg : facO w b a with
      | none =>
        rw [eg] at hf2
        obtain ⟨x, m, h⟩ := hf1.1
        exact (hf2 m ⟨x, _, h⟩).elim
      | some gg =>
        rw [eg] at h2 hf2
        obtain ⟨pg, rfl, hpg⟩ := h2
        have fb : a.1 ≤ ff.1 ∧ ff.1 ≤ ff.2 ∧ ff.2 ≤ a.2 := by
          have k := (hf1.2.2 _ hf1.1).2
          obtain ⟨_, _, x1, x2, _⟩ := hf1.1
          obtain ⟨_, _, y1, y2, _⟩ := hf1.2.1
          exact ⟨x1, k, y2⟩
        refine ⟨_, rfl, rfl, _, rfl, ifRN ?_⟩
        refine ⟨(by show 0 ≤ sizeLine; decide), fun pr npr => ?_⟩
        have s3 := same_new (o := .lst []) npr
        have hpr : (upd H2 pr (.lst [])) pr = some (.lst []) := upd_same
        revert s3 hpr
        generalize (upd H2 pr (.lst [])) = H3
        intro s3 hpr
        dsimp only [gName]
        refine ⟨_, rfl, pf, _, 0, _, rfl, rfl, SqT.of (s3 _ _ hpf), atI_nat (j := 0) rfl, _, rfl, pf, _, 1, _, rfl, rfl, SqT.of (s3 _ _ hpf), atI_nat (j := 1) rfl, _, _, rfl, rfl, _, _, rfl, rng_ok (by omega) (by omega) (by omega) (by omega), ?_⟩
        have nl : ((ff.2 + 1 - ff.1).toNat : Int) = ff.2 + 1 - ff.1 := by omega
        refine for_range (lo := ff.1) (n := (ff.2 + 1 - ff.1).toNat) (fun j σ G => ∃ (z6 z7 z8 : Option V) (ns : List Int), σ = [some (.ref p), some (.ref r), some (.int w), some (.ref pf), some (.ref pg), some (.ref pr), z6, z7, z8] ∧ Same H2 G ∧ G pr = some (.lst (ns.map V.int)) ∧ ns.length = 2 * j ∧ ∀ x, x ∈ ns ↔ ∃ l c, ff.1 ≤ l ∧ l < ff.1 + j ∧ cmn gg (-(prt w l), prt w l) = some c ∧ (x = l * c.1 ∨ x = l * c.2))
          ⟨_, _, _, [], rfl, s3, hpr, rfl, fun x => ⟨fun h => (nomatch h), fun ⟨l, c, e1, e2, _⟩ => by omega⟩⟩ ?_ ?_
        · rintro j σ G hj ⟨z6, z7, z8, ns, rfl, sG, hG, nsl, hns⟩
          have lb : ff.1 + (j : Int) ≤ ff.2 := by omega
          have hrow := row_hull (a := a) (b := b) a01 b01 w0 b0 b1 eg (ff.1 + j) (by omega) (by omega)
          refine ⟨_, rfl, _, rfl, _, rfl, ff.1 + j, w, rfl, by omega, by omega, fun u G1 t1 hu => ?_⟩
          refine ⟨pg, u, gg, (-(prt w (ff.1 + j)), prt w (ff.1 + j)), rfl, t1 _ _ (sG _ _ hpg), hu, fun v G2 t2 hv => ?_⟩
          obtain ⟨x0, m0, hx0⟩ := fac_all b01 w0 a0 a1 ef (ff.1 + j) (by omega) lb
          cases ec : cmn gg (-(prt w (ff.1 + j)), prt w (ff.1 + j)) with
          | none =>
            rw [ec] at hrow
            exact (hrow m0 ⟨x0, hx0⟩).elim
          | some c =>
            rw [ec] at hv hrow
            obtain ⟨pc, rfl, hpc⟩ := hv
            have cb : b.1 ≤ c.1 ∧ c.2 ≤ b.2 ∧ c.1 ≤ c.2 := by
              have k := (hrow.2.2 _ hrow.1).2
              obtain ⟨_, _, _, x1, _⟩ := hrow.1
              obtain ⟨_, _, _, _, y1, _⟩ := hrow.2.1
              exact ⟨x1, y1, k⟩
            refine ⟨pc, _, rfl, SqT.of hpc, rfl, _, _, rfl, _, _, rfl, rfl, ?_⟩
            have sG2 := (sG.trans t1).trans t2
            have hG2 := t2 _ _ (t1 _ _ hG)
            refine ⟨_, rfl, .inl ⟨rfl, _, SqL.of hG2⟩, _, rfl, _, rfl, _, _, rfl, rfl, .inl ⟨by show (-2 ^ 64 : Int) < ff.1 + (j : Int); omega, by show ff.1 + (j : Int) < (2 ^ 64 : Int); omega⟩, _, rfl, _, rfl, _, _, rfl, rfl, .inl ⟨by show (-2 ^ 64 : Int) < ff.1 + (j : Int); omega, by show ff.1 + (j : Int) < (2 ^ 64 : Int); omega⟩, (by show 2 ≤ sizeLine; decide), fun e ne => ?_⟩
            have s5 := same_new (o := .lst [.int ((ff.1 + (j : Int)) * c.1), .int ((ff.1 + (j : Int)) * c.2)]) ne
            refine ⟨pr, e, _, _, rfl, rfl, s5 _ _ hG2, upd_same, ?_, ?_⟩
            · rw [List.length_map, nsl]
              exact Nat.le_trans (show 2 * j + 2 ≤ 1000 by omega) (by decide)
            refine ⟨_, _, _, ns ++ [(ff.1 + (j : Int)) * c.1, (ff.1 + (j : Int)) * c.2], rfl, same_put (sG2.trans s5) npr, ?_, ?_, fun x => ?_⟩
            · rw [upd_same, List.map_append]
              rfl
            · rw [List.length_append, nsl]
              rfl
            · rw [List.mem_append, hns]
              simp only [List.mem_cons, List.not_mem_nil, or_false]
              constructor
              · rintro (⟨l, c', e1, e2, e3, e4⟩ | h)
                · exact ⟨l, c', e1, by omega, e3, e4⟩
                · exact ⟨ff.1 + j, c, by omega, by omega, ec, h⟩
              · rintro ⟨l, c', e1, e2, e3, e4⟩
                by_cases z : l = ff.1 + (j : Int)
                · subst z
                  rw [ec] at e3
                  obtain rfl := Option.some.inj e3
                  exact .inr e4
                · exact .inl ⟨l, c', e1, by omega, e3, e4⟩
        · rintro σ G ⟨z6, z7, z8, ns, rfl, sG, hG, nsl, hns⟩
          rw [nl] at hns
          have pos : 0 < ns.length := by omega
          refine ⟨_, rfl, pr, ns, rfl, SqL.of hG, pos, fun m1 k1 k2 => ?_⟩
          refine ⟨_, rfl, pr, ns, rfl, SqL.of hG, pos, fun m2 k3 k4 => ?_⟩
          refine ⟨(by show 2 ≤ sizeLine; decide), fun u n => ?_⟩
          have s5 := same_new (o := .tup [.int m1, .int m2]) n
          refine ⟨_, rfl, _, rfl, (by show 3 ≤ sizeLine; decide), fun u2 n2 => ?_⟩
          have s6 := same_new (o := .tup [.ref u, .ref pf, .ref pg]) n2
          have hull : Hull (fun x => x ∈ ns) (some (m1, m2)) := ⟨k1, k3, fun x h => ⟨k2 x h, k4 x h⟩⟩
          have res := times_hull a01 b01 w0 a0 a1 b0 b1 ef eg (ns := ns) (fun x => (hns x).trans ⟨fun ⟨l, c, e1, e2, e3⟩ => ⟨l, c, e1, by omega, e3⟩, fun ⟨l, c, e1, e2, e3⟩ => ⟨l, c, e1, by omega, e3⟩⟩) hull
          exact q (some (m1, m2), some ff, some gg) _ _ res hf1 hf2 (((S.trans sG).trans s5).trans s6) ⟨u2, _, _, _, rfl, upd_same, ⟨u, rfl, s6 _ _ upd_same⟩, ⟨pf, rfl, s6 _ _ (s5 _ _ (sG _ _ hpf))⟩, ⟨pg, rfl, s6 _ _ (s5 _ _ (sG _ _ hpg))⟩⟩
def spQuo : Sp := fun vs H Q _ => ∃ (p r : Addr) (a d : Int × Int), vs = [.ref p, .ref r] ∧ H p = some (.tup [.int a.1, .int a.2]) ∧ H r = some (.tup [.int d.1, .int d.2]) ∧ d.1 ≠ 0 ∧ d.2 ≠ 0 ∧ -31 ≤ d.1 ∧ d.1 ≤ 31 ∧ -31 ≤ d.2 ∧ d.2 ≤ 31 ∧
  ∀ (ns : List Int) o v H', (∀ x, x ∈ ns ↔ ∃ u e, (u = a.1 ∨ u = a.2) ∧ Ends d e ∧ x = u.fdiv e) → Hull (fun x => x ∈ ns) o → Same H H' → St H' o v → Q v H'
theorem scQu : FnScope ["one", "divisors", "ends", "found", "word", "divisor"] ["one", "divisors"] (defScope s_quo) := ⟨rfl, rfl, rfl, by decide +kernel, rfl, by decide +kernel, by decide +kernel⟩
theorem ok_quo (B : Bs mg) {f : Addr} {fd : FuncData} (F : Fun K "_quotients" "_quotients" s_quo f fd) : FnOk P w K mg base CX0 1 f fd ["one", "divisors"] spQuo := by
  refine F.ok scQu (fun vs H Q E h => ?_) (fun cdv A outer s H vs Q E hr h => ?_)
  · obtain ⟨p, r, a, d, rfl, _⟩ := h
    rfl
  · obtain ⟨p, r, a, d, rfl, hp, hq, d1, d2, l1, u1, l2, u2, q⟩ := h
    refine ⟨_, (pss_cons (ps_set (i := 2) scQu.nd rfl (.inr rfl) (pe_lst (pa_cons (pe_ix (ixT K rfl) (pv 1) pe_int (fun _ _ => rfl)) (pa_cons (pe_ix (ixT K rfl) (pv 1) pe_int (fun _ _ => rfl)) pa_nil))))
      (C8.pss_cut (ps_if (pt_chain op_lt op_lt (pe_ix (ixT K rfl) (pv 1) pe_int (fun _ _ => rfl)) pe_int (pe_ix (ixT K rfl) (pv 1) pe_int (fun _ _ => rfl))) (pss_one (ps_expr (pe_bm PySem.F.plainAttrs_list PySem.F.slot_list_extend PySem.F.type_list_extend mt_extend (pv 2) (pa_cons (pe_lst (pa_cons (pe_un un_neg pe_int) (pa_cons pe_int pa_nil))) pa_nil)))) pss_nil)
      (pss_cons (ps_setLc2 (i := 3) (own := [("word", 4), ("divisor", 5)]) (vs1 := [5]) (g := gName 4) (g1 := gName 5) (tt := tYes) (tt1 := tYes) (wi1 := iList K (tVar 2)) (by rfl) scQu.nd rfl rfl (sw_true rfl rfl rfl (by decide +kernel)) (pi_tup (pv 0)) (blkOk_by (own := [("word", 4), ("divisor", 5)]) (N := ["one", "divisors", "ends", "found", "word", "divisor"]) (sc := defScope s_quo) (by decide +kernel)) (by decide) (fun _ _ _ _ _ => (pg_name (i := 4) scQu.nd rfl (.inl rfl) (hf := .inr rfl))) (fun _ _ _ _ _ => pts_nil) (fun _ _ _ _ _ => pi_list (pv 2)) (fun _ _ _ _ _ => (pg_name (i := 5) scQu.nd rfl (.inl rfl) (hf := .inr rfl))) (fun _ _ _ _ _ => pts_nil) (fun _ _ _ _ _ => pe_op op_fdivN (pv 4) (pv 5)))
      (pss_one (ps_ret (pe_tup (pa_cons (pe_callB (cr_min rfl) (by rfl) B.min PyProof.Rows.boot_min (pa_cons (pv 3) pa_nil)) (pa_cons (pe_callB (cr_max rfl) (by rfl) B.max PyProof.Rows.boot_max (pa_cons (pv 3) pa_nil)) pa_nil)))))))), ?_⟩
    refine ⟨_, rfl, r, _, 0, _, rfl, rfl, SqT.of hq, atI_nat (j := 0) rfl, _, rfl, r, _, 1, _, rfl, rfl, SqT.of hq, atI_nat (j := 1) rfl, (by show 2 ≤ sizeLine; decide), fun le nle => ?_⟩
    dsimp only [gName]
    have s1 := same_new (o := .lst [.int d.1, .int d.2]) nle
    refine ⟨fun σ G => ∃ es : List Int, σ = [some (.ref p), some (.ref r), some (.ref le), none, none, none] ∧ Same H G ∧ G le = some (.lst (es.map V.int)) ∧ es.length ≤ 4 ∧ ∀ e, e ∈ es ↔ Ends d e, ?_, ?_⟩
    · have two : ∀ e, e ∈ [d.1, d.2] ↔ e = d.1 ∨ e = d.2 := fun e => by simp
      refine ⟨_, rfl, r, _, 0, _, rfl, rfl, SqT.of (s1 _ _ hq), atI_nat (j := 0) rfl, _, _, rfl, rfl, _, rfl, ite2 (fun h1 => ?_) (fun h1 => ?_)⟩
      · refine ⟨_, rfl, r, _, 1, _, rfl, rfl, SqT.of (s1 _ _ hq), atI_nat (j := 1) rfl, _, _, rfl, rfl, _, rfl, ite2 (fun h2 => ?_) (fun h2 => ?_)⟩
        · have h1 : d.1 < 0 := of_decide_eq_true h1
          have h2 : 0 < d.2 := of_decide_eq_true h2
          refine ⟨_, rfl, .inl ⟨rfl, _, SqL.of upd_same⟩, _, rfl, (by show 2 ≤ sizeLine; decide), fun x nx => ?_⟩
          have s2 := same_new (o := .lst [.int (-1), .int 1]) nx
          refine ⟨le, x, _, _, rfl, rfl, s2 _ _ upd_same, upd_same, (by show 4 ≤ sizeLine; decide), ?_⟩
          refine ⟨[d.1, d.2, -1, 1], rfl, same_put (s1.trans s2) nle, upd_same, by show 4 ≤ 4; decide, fun e => ?_⟩
          simp only [List.mem_cons, List.not_mem_nil, or_false]
          unfold Ends
          exact ⟨fun h => h.imp id fun h => h.imp id fun h => ⟨h1, h2, h⟩, fun h => h.imp id fun h => h.imp id fun h => h.2.2⟩
        · exact ⟨[d.1, d.2], rfl, s1, upd_same, by show 2 ≤ 4; decide, fun e => (two e).trans ⟨fun h => h.imp id .inl, fun h => h.imp id fun h => h.elim id fun h => absurd (decide_eq_true h.2.1) h2⟩⟩
      · exact ⟨_, rfl, iteF ⟨[d.1, d.2], rfl, s1, upd_same, by show 2 ≤ 4; decide, fun e => (two e).trans ⟨fun h => h.imp id .inl, fun h => h.imp id fun h => h.elim id fun h => absurd (decide_eq_true h.1) h1⟩⟩⟩
    · rintro σ G ⟨es, rfl, sG, hle, esl, hes⟩
      have e0 : ∀ e, e ∈ es → e ≠ 0 ∧ -31 ≤ e ∧ e ≤ 31 := fun e he => by
        rcases (hes e).mp he with rfl | rfl | ⟨_, _, rfl | rfl⟩
        · exact ⟨d1, l1, u1⟩
        · exact ⟨d2, l2, u2⟩
        · exact ⟨by decide, by decide, by decide⟩
        · exact ⟨by decide, by decide, by decide⟩
      have hpG := sG _ _ hp
      refine ⟨_, rfl, p, rfl, ⟨_, SqT.of hpG⟩, fun D hD => ?_⟩
      refine lc_out (walk_tup (K := K) (a := p) (xs := [.int a.1, .int a.2])) _ (fun i G2 => Same G G2 ∧ ∃ ns : List Int, G2 D = some (.lst (ns.map V.int)) ∧ ns.length = es.length * i ∧ ns = (([a.1, a.2].take i).map fun u => es.map fun e => u.fdiv e).flatten) ⟨same_new hD, [], upd_same, rfl, rfl⟩ (fun i G2 _ ⟨s, _⟩ => SqT.of (s _ _ hpG)) ?_ ?_
      · rintro i x G2 G3 hi ⟨s2, ns, hA, nl, hn⟩ ⟨rfl, hx⟩
        obtain ⟨u, hu, rfl⟩ : ∃ u : Int, [a.1, a.2][i]? = some u ∧ x = .int u := by
          match i, hx with
          | 0, hx => exact ⟨a.1, rfl, (Option.some.inj hx).symm⟩
          | 1, hx => exact ⟨a.2, rfl, (Option.some.inj hx).symm⟩
          | (i + 2), hx => simp at hx
        have hi2 : i < 2 := hi
        refine ⟨rfl, ?_⟩
        refine ⟨_, rfl, le, rfl, ⟨_, SqL.of (s2 _ _ hle)⟩, ?_⟩
        refine lc_out (walk_list (K := K) (a := le) (xs := es.map V.int)) _ (fun j G4 => Same G G4 ∧ ∃ ms : List Int, G4 D = some (.lst ((ns ++ ms).map V.int)) ∧ ms = (es.take j).map fun e => u.fdiv e) ⟨s2, [], by rw [List.append_nil]; exact hA, rfl⟩ (fun j G4 _ ⟨s, _⟩ => SqL.of (s _ _ hle)) ?_ ?_
        · rintro j y G4 G5 hj ⟨s4, ms, hB, hm⟩ ⟨rfl, hy⟩
          obtain ⟨e, he, rfl⟩ := map_at hy
          have em := e0 e (List.mem_of_getElem? he)
          have ml : ms.length ≤ 4 := by
            rw [hm, List.length_map]
            exact Nat.le_trans (List.length_take_le' _ _) esl
          refine ⟨rfl, ?_⟩
          refine ⟨_, rfl, _, rfl, _, _, rfl, rfl, ⟨em.1, by show e.natAbs < _; omega⟩, ?_⟩
          refine ⟨_, hB, Nat.lt_of_le_of_lt (show _ ≤ 100 by
            rw [List.length_map, List.length_append, nl]
            have : es.length * i ≤ 4 * 1 := Nat.mul_le_mul esl (by omega)
            omega) (by decide), ?_⟩
          refine ⟨same_put s4 hD, ms ++ [u.fdiv e], ?_, ?_⟩
          · rw [upd_same]
            simp
          · rw [hm, List.take_add_one, he]
            simp
        · rintro G4 ⟨s4, ms, hB, hm⟩
          rw [List.length_map, List.take_length] at hm
          refine ⟨s4, ns ++ ms, hB, ?_, ?_⟩
          · rw [List.length_append, nl, hm, List.length_map, Nat.mul_succ]
          · rw [List.take_add_one, hu, hn, hm]
            simp
      · rintro G2 ⟨s2, ns, hA, nl, hn⟩
        have ch : ∀ x, x ∈ ns ↔ ∃ u e, (u = a.1 ∨ u = a.2) ∧ Ends d e ∧ x = u.fdiv e := fun x => by
          rw [hn]
          simp only [List.mem_flatten, List.mem_map]
          constructor
          · rintro ⟨l, ⟨u, hu, rfl⟩, hx⟩
            obtain ⟨e, he, rfl⟩ := List.mem_map.mp hx
            have hu : u ∈ [a.1, a.2] := hu
            simp only [List.mem_cons, List.not_mem_nil, or_false] at hu
            exact ⟨u, e, hu, (hes e).mp he, rfl⟩
          · rintro ⟨u, e, hu, he, rfl⟩
            refine ⟨_, ⟨u, ?_, rfl⟩, List.mem_map.mpr ⟨e, (hes e).mpr he, rfl⟩⟩
            show u ∈ [a.1, a.2]
            simp only [List.mem_cons, List.not_mem_nil, or_false]
            exact hu
        have pos : 0 < ns.length := List.length_pos_of_mem ((ch _).mpr ⟨a.1, d.1, .inl rfl, .inl rfl, rfl⟩)
        refine ⟨_, rfl, D, ns, rfl, SqL.of hA, pos, fun m1 k1 k2 => ?_⟩
        refine ⟨_, rfl, D, ns, rfl, SqL.of hA, pos, fun m2 k3 k4 => ?_⟩
        refine ⟨(by show 2 ≤ sizeLine; decide), fun u n => ?_⟩
        exact q ns (some (m1, m2)) _ _ ch ⟨k1, k3, fun x h => ⟨k2 x h, k4 x h⟩⟩ ((sG.trans s2).trans (same_new n)) ⟨u, rfl, upd_same⟩
def spRsb : Sp := fun vs H Q _ => ∃ (p : Addr) (a : Int × Int) (d : Int), vs = [.ref p, .int d] ∧ H p = some (.tup [.int a.1, .int a.2]) ∧ d ≠ 0 ∧ -31 ≤ d ∧ d ≤ 31 ∧ ∀ (u : Addr) H', Same H H' → H' u = some (.tup [.int (rsb a d).1, .int (rsb a d).2]) → Q (.ref u) H'
theorem scRb : FnScope ["one", "divisor"] ["one", "divisor"] (defScope s_rsb) := ⟨rfl, rfl, rfl, by decide +kernel, rfl, by decide +kernel, by decide +kernel⟩
theorem ok_rsb {f : Addr} {fd : FuncData} (F : Fun K "_rests_by" "_rests_by" s_rsb f fd) : FnOk P w K mg base CX0 1 f fd ["one", "divisor"] spRsb := by
  refine F.ok scRb (fun vs H Q E h => ?_) (fun cdv A outer s H vs Q E hr h => ?_)
  · obtain ⟨p, a, d, rfl, _⟩ := h
    rfl
  · obtain ⟨p, a, d, rfl, hp, d0, l1, u1, q⟩ := h
    refine ⟨_, (pss_cons (ps_if (pt_cmpR op_eq (pe_op op_fdivN (pe_ix (ixT K rfl) (pv 0) pe_int (fun _ _ => rfl)) (pv 1)) (pe_op op_fdivN (pe_ix (ixT K rfl) (pv 0) pe_int (fun _ _ => rfl)) (pv 1)) (nomark _)) (pss_one (ps_ret (pe_tup (pa_cons (pe_op op_modN (pe_ix (ixT K rfl) (pv 0) pe_int (fun _ _ => rfl)) (pv 1)) (pa_cons (pe_op op_modN (pe_ix (ixT K rfl) (pv 0) pe_int (fun _ _ => rfl)) (pv 1)) pa_nil))))) pss_nil)
      (pss_one (ps_ret (pe_ifExp (pt_cmpR op_gt (pv 1) pe_int (nomark _)) (pe_tup (pa_cons pe_int (pa_cons (pe_op op_sub (pv 1) pe_int) pa_nil))) (pe_tup (pa_cons (pe_op op_add (pv 1) pe_int) (pa_cons pe_int pa_nil))))))), ?_⟩
    have cd : CDivN a.1 d ∧ CDivN a.2 d := ⟨⟨d0, by omega⟩, ⟨d0, by omega⟩⟩
    refine ⟨_, rfl, p, _, 0, _, rfl, rfl, SqT.of hp, atI_nat (j := 0) rfl, _, rfl, _, _, rfl, rfl, cd.1, _, rfl, p, _, 1, _, rfl, rfl, SqT.of hp, atI_nat (j := 1) rfl, _, rfl, _, _, rfl, rfl, cd.2, rfl, _, rfl, ifI (fun h => ?_) (fun h => ?_)⟩
    · refine ⟨_, rfl, p, _, 0, _, rfl, rfl, SqT.of hp, atI_nat (j := 0) rfl, _, rfl, _, _, rfl, rfl, d0, _, rfl, p, _, 1, _, rfl, rfl, SqT.of hp, atI_nat (j := 1) rfl, _, rfl, _, _, rfl, rfl, d0, (by show 2 ≤ sizeLine; decide), fun u n => q u _ (same_new n) ?_⟩
      rw [upd_same]
      unfold rsb
      rw [if_pos h]
    · refine ⟨_, rfl, _, _, rfl, rfl, _, rfl, ite2 (fun h2 => ?_) (fun h2 => ?_)⟩
      · refine ⟨_, rfl, _, _, rfl, rfl, (by show 2 ≤ sizeLine; decide), fun u n => q u _ (same_new n) ?_⟩
        rw [upd_same]
        unfold rsb
        rw [if_neg h, if_pos (of_decide_eq_true h2)]
      · refine ⟨_, rfl, _, _, rfl, rfl, (by show 2 ≤ sizeLine; decide), fun u n => q u _ (same_new n) ?_⟩
        rw [upd_same]
        unfold rsb
        rw [if_neg h, if_neg (fun z => h2 (decide_eq_true z))]
def spRst : Sp := fun vs H Q _ => ∃ (p r : Addr) (a d : Int × Int), vs = [.ref p, .ref r] ∧ H p = some (.tup [.int a.1, .int a.2]) ∧ H r = some (.tup [.int d.1, .int d.2]) ∧ d.1 ≠ 0 ∧ d.1 ≤ d.2 ∧ -31 ≤ d.1 ∧ d.2 ≤ 31 ∧
  ∀ (ns : List Int) o v H', (∀ x, x ∈ ns ↔ ∃ m, d.1 ≤ m ∧ m ≤ d.2 ∧ m ≠ 0 ∧ (x = (rsb a m).1 ∨ x = (rsb a m).2)) → Hull (fun x => x ∈ ns) o → Same H H' → St H' o v → Q v H'
theorem scRs : FnScope ["one", "divisors", "found", "divisor"] ["one", "divisors"] (defScope s_rst) := ⟨rfl, rfl, rfl, by decide +kernel, rfl, by decide +kernel, by decide +kernel⟩
theorem ok_rst (B : Bs mg) (c_rests_by : C8.Cal P w K mg base 1 "_rests_by" spRsb []) {f : Addr} {fd : FuncData} (F : Fun K "_rests" "_rests" s_rst f fd) : FnOk P w K mg base CX0 2 f fd ["one", "divisors"] spRst := by
  refine F.ok scRs (fun vs H Q E h => ?_) (fun cdv A outer s H vs Q E hr h => ?_)
  · obtain ⟨p, r, a, d, rfl, _⟩ := h
    rfl
  · obtain ⟨p, r, a, d, rfl, hp, hq, d1, d12, l1, u1, q⟩ := h
    refine ⟨_, (pss_cons (ps_set (i := 2) scRs.nd rfl (.inl rfl) (pe_lst pa_nil))
      (pss_cons (ps_for PassesOwn.never rfl (pi_range2 (by rfl) B.range (pa_cons (pe_ix (ixT K rfl) (pv 1) pe_int (fun _ _ => rfl)) (pa_cons (pe_op op_add (pe_ix (ixT K rfl) (pv 1) pe_int (fun _ _ => rfl)) pe_int) pa_nil))) (pg_name (i := 3) scRs.nd rfl (.inl rfl))
      (pss_one (ps_if (pt_cmpR op_ne (pv 3) pe_int (nomark _)) (pss_one (ps_expr (pe_bm PySem.F.plainAttrs_list PySem.F.slot_list_extend PySem.F.type_list_extend Zm.mt_extendT (pv 2) (pa_cons (C8.pe_c c_rests_by hr (by decide) (by rfl) (pa_cons (pv 0) (pa_cons (pv 3) pa_nil))) pa_nil)))) pss_nil)))
      (pss_one (ps_ret (pe_tup (pa_cons (pe_callB (cr_min rfl) (by rfl) B.min PyProof.Rows.boot_min (pa_cons (pv 2) pa_nil)) (pa_cons (pe_callB (cr_max rfl) (by rfl) B.max PyProof.Rows.boot_max (pa_cons (pv 2) pa_nil)) pa_nil))))))), ?_⟩
    refine ⟨(by show 0 ≤ sizeLine; decide), fun l nl => ?_⟩
    have s1 := same_new (o := .lst []) nl
    have hl : (upd H l (.lst [])) l = some (.lst []) := upd_same
    revert s1 hl
    generalize (upd H l (.lst [])) = H1
    intro s1 hl
    dsimp only [gName]
    refine ⟨_, rfl, r, _, 0, _, rfl, rfl, SqT.of (s1 _ _ hq), atI_nat (j := 0) rfl, _, rfl, r, _, 1, _, rfl, rfl, SqT.of (s1 _ _ hq), atI_nat (j := 1) rfl, _, _, rfl, rfl, _, _, rfl, rng_ok (by omega) (by omega) (by omega) (by omega), ?_⟩
    have nn' : ((d.2 + 1 - d.1).toNat : Int) = d.2 + 1 - d.1 := by omega
    refine for_range (lo := d.1) (n := (d.2 + 1 - d.1).toNat) (fun j σ G => ∃ (z3 : Option V) (ns : List Int), σ = [some (.ref p), some (.ref r), some (.ref l), z3] ∧ Same H G ∧ G l = some (.lst (ns.map V.int)) ∧ ns.length ≤ 2 * j ∧ ∀ x, x ∈ ns ↔ ∃ m, d.1 ≤ m ∧ m < d.1 + j ∧ m ≠ 0 ∧ (x = (rsb a m).1 ∨ x = (rsb a m).2))
      ⟨_, [], rfl, s1, hl, Nat.le_refl _, fun x => ⟨fun h => (nomatch h), fun ⟨m, e1, e2, _⟩ => by omega⟩⟩ ?_ ?_
    · rintro j σ G hj ⟨z3, ns, rfl, sG, hG, nsl, hns⟩
      refine ⟨_, rfl, rfl, _, rfl, ?_⟩
      by_cases z : d.1 + (j : Int) = 0
      · rw [show (V.int (d.1 + (j : Int))) = V.int 0 by rw [z]]
        refine iteNS rfl ?_
        refine ⟨_, ns, rfl, sG, hG, by omega, fun x => (hns x).trans ⟨fun ⟨m, e1, e2, e3⟩ => ⟨m, e1, by omega, e3⟩, fun ⟨m, e1, e2, e3, e4⟩ => ⟨m, e1, by omega, e3, e4⟩⟩⟩
      · refine ite2 (fun _ => ?_) (fun h => absurd ?_ h)
        · refine ⟨_, rfl, .inl ⟨rfl, _, SqL.of hG⟩, _, rfl, _, rfl, p, a, d.1 + j, rfl, sG _ _ hp, z, by omega, by omega, fun u G1 t1 hu => ?_⟩
          refine ⟨l, u, _, _, rfl, rfl, t1 _ _ hG, SqT.of hu, ?_, ?_⟩
          · rw [List.length_map]
            exact Nat.le_trans (show ns.length + 2 ≤ 1000 by omega) (by decide)
          refine ⟨_, ns ++ [(rsb a (d.1 + (j : Int))).1, (rsb a (d.1 + (j : Int))).2], rfl, same_put (sG.trans t1) nl, ?_, ?_, fun x => ?_⟩
          · rw [upd_same]
            simp
          · rw [List.length_append]
            show ns.length + 2 ≤ _
            omega
          · rw [List.mem_append, hns]
            simp only [List.mem_cons, List.not_mem_nil, or_false]
            constructor
            · rintro (⟨m, e1, e2, e3, e4⟩ | h)
              · exact ⟨m, e1, by omega, e3, e4⟩
              · exact ⟨d.1 + j, by omega, by omega, z, h⟩
            · rintro ⟨m, e1, e2, e3, e4⟩
              by_cases y : m = d.1 + (j : Int)
              · subst y
                exact .inr e4
              · exact .inl ⟨m, e1, by omega, e3, e4⟩
        · rw [decide_eq_false fun e => z (V.int.inj e)]
          rfl
    · rintro σ G ⟨z3, ns, rfl, sG, hG, nsl, hns⟩
      rw [nn'] at hns
      have ch : ∀ x, x ∈ ns ↔ ∃ m, d.1 ≤ m ∧ m ≤ d.2 ∧ m ≠ 0 ∧ (x = (rsb a m).1 ∨ x = (rsb a m).2) := fun x => (hns x).trans ⟨fun ⟨m, e1, e2, e3⟩ => ⟨m, e1, by omega, e3⟩, fun ⟨m, e1, e2, e3⟩ => ⟨m, e1, by omega, e3⟩⟩
      have pos : 0 < ns.length := List.length_pos_of_mem ((ch _).mpr ⟨d.1, Int.le_refl _, d12, d1, .inl rfl⟩)
      refine ⟨_, rfl, l, ns, rfl, SqL.of hG, pos, fun m1 k1 k2 => ?_⟩
      refine ⟨_, rfl, l, ns, rfl, SqL.of hG, pos, fun m2 k3 k4 => ?_⟩
      refine ⟨(by show 2 ≤ sizeLine; decide), fun u n => ?_⟩
      exact q ns (some (m1, m2)) _ _ ch ⟨k1, k3, fun x h => ⟨k2 x h, k4 x h⟩⟩ (sG.trans (same_new n)) ⟨u, rfl, upd_same⟩
def Sg.str : Sg → Str
  | .plus => "plus" | .minus => "minus" | .times => "times" | .over => "over" | .rest => "rest"
/-- a stretch of words, or none -/
def InW (w : Int) (o : Option (Int × Int)) : Prop := ∀ a, o = some a → -w ≤ a.1 ∧ a.1 ≤ a.2 ∧ a.2 ≤ w
def PrO (s : Sg) (w : Int) (oa ob : Option (Int × Int)) (r l m : Int) : Prop := ∃ a b, oa = some a ∧ ob = some b ∧ Pr s w a b r l m
/-- what is told of the pairs -/
def PH (s : Sg) (w : Int) (oa ob : Option (Int × Int)) (o : Option (Int × Int) × Option (Int × Int) × Option (Int × Int)) : Prop :=
  Hull (fun r => ∃ l m, PrO s w oa ob r l m) o.1 ∧ Hull (fun l => ∃ r m, PrO s w oa ob r l m) o.2.1 ∧ Hull (fun m => ∃ r l, PrO s w oa ob r l m) o.2.2
theorem PH.uniq {s : Sg} {w : Int} {oa ob : Option (Int × Int)} {o u : Option (Int × Int) × Option (Int × Int) × Option (Int × Int)} (h : PH s w oa ob o) (k : PH s w oa ob u) : o = u := by
  obtain ⟨o1, o2, o3⟩ := o
  obtain ⟨u1, u2, u3⟩ := u
  have e1 : o1 = u1 := h.1.uniq k.1
  have e2 : o2 = u2 := h.2.1.uniq k.2.1
  have e3 : o3 = u3 := h.2.2.uniq k.2.2
  rw [e1, e2, e3]
theorem PH.none {s : Sg} {w : Int} {oa ob : Option (Int × Int)} (h : ∀ r l m, ¬ PrO s w oa ob r l m) : PH s w oa ob (none, none, none) := ⟨fun x ⟨l, m, k⟩ => h _ _ _ k, fun x ⟨l, m, k⟩ => h _ _ _ k, fun x ⟨l, m, k⟩ => h _ _ _ k⟩
theorem PrO.iff {s : Sg} {w : Int} {a b : Int × Int} {r l m : Int} : Pr s w a b r l m ↔ PrO s w (some a) (some b) r l m := ⟨fun h => ⟨a, b, rfl, rfl, h⟩, fun ⟨_, _, e1, e2, h⟩ => by
  rcases Option.some.inj e1 with rfl
  rcases Option.some.inj e2 with rfl
  exact h⟩
theorem PH.mk {s : Sg} {w : Int} {a b : Int × Int} {o : Option (Int × Int) × Option (Int × Int) × Option (Int × Int)} (h1 : Hull (fun r => ∃ l m, Pr s w a b r l m) o.1) (h2 : Hull (fun l => ∃ r m, Pr s w a b r l m) o.2.1) (h3 : Hull (fun m => ∃ r l, Pr s w a b r l m) o.2.2) : PH s w (some a) (some b) o := by
  have e : ∀ r l m, Pr s w a b r l m ↔ PrO s w (some a) (some b) r l m := fun _ _ _ => PrO.iff
  refine ⟨h1.iff fun x => ?_, h2.iff fun x => ?_, h3.iff fun x => ?_⟩ <;> simp only [e]
def spPairs : Sp := fun vs H Q _ => ∃ (s : Sg) (v1 v2 : V) (oa ob : Option (Int × Int)) (w : Int), vs = [.str s.str, v1, v2, .int w] ∧ St H oa v1 ∧ St H ob v2 ∧ 1 ≤ w ∧ w ≤ 31 ∧ InW w oa ∧ InW w ob ∧ ∀ o v H', PH s w oa ob o → Same H H' → Tri H' o v → Q v H'
theorem scPa : FnScope ["word", "one", "other", "width", "first", "second", "results", "firsts", "seconds", "divisors"] ["word", "one", "other", "width"] (defScope s_pairs) := ⟨rfl, rfl, rfl, by decide +kernel, rfl, by decide +kernel, by decide +kernel⟩
theorem ok_pairs (c_words_in : C8.Cal P w K mg base 2 "_words_in" spWin []) (c_added : C8.Cal P w K mg base 2 "_added" spAdd []) (c_turned : C8.Cal P w K mg base 1 "_turned" spTrn []) (c_multiplied : C8.Cal P w K mg base 3 "_multiplied" spMul [])
    (c_without_nought : C8.Cal P w K mg base 1 "_without_nought" spWn []) (c_quotients : C8.Cal P w K mg base 1 "_quotients" spQuo []) (c_rests : C8.Cal P w K mg base 2 "_rests" spRst []) {f : Addr} {fd : FuncData} (F : Fun K "pairs" "pairs" s_pairs f fd) : FnOk P w K mg base CX0 4 f fd ["word", "one", "other", "width"] spPairs := by
  refine F.ok scPa (fun vs H Q E h => ?_) (fun cdv A outer s H vs Q E hr h => ?_)
  · obtain ⟨s, v1, v2, oa, ob, w, rfl, _⟩ := h
    rfl
  · obtain ⟨s, v1, v2, oa, ob, w, rfl, hv1, hv2, w0, w1, ia, ib, q⟩ := h
    refine ⟨_, (pss_cons (ps_set (i := 4) scPa.nd rfl (.inl rfl) (C8.pe_c c_words_in hr (by decide) (by rfl) (pa_cons (pv 1) (pa_cons (pv 3) pa_nil))))
      (pss_cons (ps_set (i := 5) scPa.nd rfl (.inl rfl) (C8.pe_c c_words_in hr (by decide) (by rfl) (pa_cons (pv 2) (pa_cons (pv 3) pa_nil))))
      (pss_cons (ps_if (PW.pt (pw_or (pt_cmpR op_isN (pv 4) pe_non (nomark _)) (pw_or1 (pt_cmpR op_isN (pv 5) pe_non (nomark _))))) (pss_one (ps_ret (pe_tup (pa_cons pe_non (pa_cons pe_non (pa_cons pe_non pa_nil)))))) pss_nil)
      (pss_cons (ps_if (pt_cmpR op_eq (pv 0) pe_str (nomark _)) (pss_one (ps_ret (C8.pe_c c_added hr (by decide) (by rfl) (pa_cons (pv 4) (pa_cons (pv 5) (pa_cons (pv 3) pa_nil)))))) pss_nil)
      (pss_cons (ps_if (pt_cmpR op_eq (pv 0) pe_str (nomark _)) (pss_cons (ps_asg (C8.pe_c c_added hr (by decide) (by rfl) (pa_cons (pv 4) (pa_cons (C8.pe_c c_turned hr (by decide) (by rfl) (pa_cons (pv 5) pa_nil)) (pa_cons (pv 3) pa_nil)))) (pg_tup (n := 3) rfl (pgs_cons (pg_name (i := 6) scPa.nd rfl (.inl rfl)) (pgs_cons (pg_name (i := 7) scPa.nd rfl (.inl rfl)) (pgs_cons (pg_name (i := 8) scPa.nd rfl (.inl rfl)) pgs_nil)))))
      (pss_one (ps_ret (pe_tup (pa_cons (pv 6) (pa_cons (pv 7) (pa_cons (C8.pe_c c_turned hr (by decide) (by rfl) (pa_cons (pv 8) pa_nil)) pa_nil))))))) pss_nil)
      (pss_cons (ps_if (pt_cmpR op_eq (pv 0) pe_str (nomark _)) (pss_one (ps_ret (C8.pe_c c_multiplied hr (by decide) (by rfl) (pa_cons (pv 4) (pa_cons (pv 5) (pa_cons (pv 3) pa_nil)))))) pss_nil)
      (pss_cons (ps_set (i := 9) scPa.nd rfl (.inl rfl) (C8.pe_c c_without_nought hr (by decide) (by rfl) (pa_cons (pv 5) pa_nil)))
      (pss_cons (ps_if (pt_cmpR op_isN (pv 9) pe_non (nomark _)) (pss_one (ps_ret (pe_tup (pa_cons pe_non (pa_cons pe_non (pa_cons pe_non pa_nil)))))) pss_nil)
      (pss_one (ps_ret (pe_tup (pa_cons (pe_ifExp (pt_cmpR op_eq (pv 0) pe_str (nomark _)) (C8.pe_c c_quotients hr (by decide) (by rfl) (pa_cons (pv 4) (pa_cons (pv 9) pa_nil))) (C8.pe_c c_rests hr (by decide) (by rfl) (pa_cons (pv 4) (pa_cons (pv 9) pa_nil)))) (pa_cons (pv 4) (pa_cons (pv 9) pa_nil)))))))))))))), ?_⟩
    have cut : ∀ o : Option (Int × Int), InW w o → (o.bind fun a => cmn a (-w, w)) = o := fun o h => by
      match o, h with
      | none, _ => rfl
      | some a, h =>
        obtain ⟨h0, h1, h2⟩ := h a rfl
        exact cmn_in h0 h1 h2
    refine ⟨_, rfl, _, rfl, v1, oa, w, rfl, hv1, fun u1 H1 s1 h1 => ?_⟩
    rw [cut oa ia] at h1
    dsimp only [gName]
    refine ⟨_, rfl, _, rfl, v2, ob, w, rfl, hv2.same s1, fun u2 H2 s2 h2 => ?_⟩
    rw [cut ob ib] at h2
    have S := s1.trans s2
    have h1 := h1.same s2
    dsimp only [gName]
    have nones : ∀ (G : Hp), Same H G → (∀ r l m, ¬ PrO s w oa ob r l m) → (tTup (tCons (tC V.non) (tCons (tC V.non) (tCons (tC V.non) tNil)))) [] G Q := fun G sG no =>
      ⟨(by show 3 ≤ sizeLine; decide), fun u n => q (none, none, none) _ _ (PH.none no) (sG.trans (same_new n)) ⟨u, _, _, _, rfl, upd_same, rfl, rfl, rfl⟩⟩
    match oa, h1, ia with
    | none, h1, _ =>
      obtain rfl : u1 = .non := h1
      refine ⟨_, rfl, rfl, _, rfl, ?_⟩
      refine iteT (iteT ?_)
      exact nones H2 S fun r l m ⟨_, _, e, _⟩ => nomatch e
    | some a, ⟨pa, e1, hpa⟩, ia =>
      subst e1
      obtain ⟨a0, a01, a1⟩ := ia a rfl
      refine ⟨_, rfl, rfl, _, rfl, ?_⟩
      refine iteF ?_
      match ob, h2, ib with
      | none, h2, _ =>
        obtain rfl : u2 = .non := h2
        refine ⟨_, rfl, rfl, _, rfl, ?_⟩
        refine iteT ?_
        exact nones H2 S fun r l m ⟨_, _, _, e, _⟩ => nomatch e
      | some b, ⟨pb, e2, hpb⟩, ib =>
        subst e2
        obtain ⟨b0, b01, b1⟩ := ib b rfl
        refine ⟨_, rfl, rfl, _, rfl, ?_⟩
        refine iteF ?_
        refine ⟨_, rfl, rfl, _, rfl, ?_⟩
        by_cases z1 : s = .plus
        · subst z1
          refine ite2 (fun _ => ?_) (fun h => absurd (by decide +kernel) h)
          exact ⟨_, rfl, _, rfl, _, rfl, pa, pb, w, a, b, rfl, hpa, hpb, fun v H' s3 h => q _ v H' (PH.mk (add1 a01 b01) (add2 a01 b01 (by omega)) (add3 a01 b01 (by omega))) (S.trans s3) h⟩
        refine ite2 (fun h => absurd h (by cases s <;> first | exact absurd rfl z1 | decide +kernel)) (fun _ => ?_)
        refine ⟨_, rfl, rfl, _, rfl, ?_⟩
        by_cases z2 : s = .minus
        · subst z2
          refine ite2 (fun _ => ?_) (fun h => absurd (by decide +kernel) h)
          refine ⟨_, rfl, _, rfl, .ref pb, some b, rfl, ⟨pb, rfl, hpb⟩, fun v3 H3 s3 h3 => ?_⟩
          obtain ⟨pt, rfl, hpt⟩ := h3
          refine ⟨_, rfl, pa, pt, w, a, trn b, rfl, s3 _ _ hpa, hpt, fun v4 H4 s4 h4 => ?_⟩
          obtain ⟨pv', x1, x2, x3, rfl, hpv, k1, k2, k3⟩ := h4
          refine ⟨pv', _, rfl, SqT.of hpv, rfl, _, _, rfl, _, _, rfl, _, _, rfl, rfl, ?_⟩
          refine ⟨_, rfl, _, rfl, _, rfl, x3, _, rfl, k3, fun v5 H5 s5 h5 => ?_⟩
          refine ⟨(by show 3 ≤ sizeLine; decide), fun u n => ?_⟩
          have s6 := same_new (o := .tup [x1, x2, v5]) n
          obtain ⟨m1, m2, m3⟩ := min_hull (w := w) a01 b01 (by omega)
          exact q (minO w a b) _ _ (PH.mk m1 m2 m3) ((((S.trans s3).trans s4).trans s5).trans s6) ⟨u, _, _, _, rfl, upd_same, (k1.same s5).same s6, (k2.same s5).same s6, h5.same s6⟩
        refine ite2 (fun h => absurd h (by cases s <;> first | exact absurd rfl z2 | decide +kernel)) (fun _ => ?_)
        refine ⟨_, rfl, rfl, _, rfl, ?_⟩
        by_cases z3 : s = .times
        · subst z3
          refine ite2 (fun _ => ?_) (fun h => absurd (by decide +kernel) h)
          exact ⟨_, rfl, _, rfl, _, rfl, pa, pb, w, a, b, rfl, hpa, hpb, by omega, w1, a0, a01, a1, b0, b01, b1, fun o v H' m1 m2 m3 s3 h => q o v H' (PH.mk m1 m2 m3) (S.trans s3) h⟩
        refine ite2 (fun h => absurd h (by cases s <;> first | exact absurd rfl z3 | decide +kernel)) (fun _ => ?_)
        have hs : s = .over ∨ s = .rest := by
          cases s <;> simp_all
        refine ⟨_, rfl, pb, b, rfl, hpb, fun v3 H3 s3 h3 => ?_⟩
        dsimp only [gName]
        cases ed : wn b with
        | none =>
          rw [ed] at h3
          obtain rfl : v3 = .non := h3
          refine ⟨_, rfl, rfl, _, rfl, ifNN ?_⟩
          exact nones H3 (S.trans s3) fun r l m h => wn_none b01 hs ed r l m (PrO.iff.mpr h)
        | some d =>
          rw [ed] at h3
          obtain ⟨pd, rfl, hpd⟩ := h3
          obtain ⟨d1, d2, d3, d4, d5, d6⟩ := wn_in b01 ed
          refine ⟨_, rfl, rfl, _, rfl, ifRN ?_⟩
          refine ⟨_, rfl, rfl, _, rfl, ?_⟩
          have fin : ∀ (o : Option (Int × Int)) (v : V) (G : Hp), Hull (fun r => ∃ l m, Pr s w a b r l m) o → Same H3 G → St G o v → (tCons (tVar 4) (tCons (tVar 9) tNil)) [some (.str s.str), some v1, some v2, some (.int w), some (.ref pa), some (.ref pb), none, none, none, some (.ref pd)] G (fun xs H1 => (v :: xs).length ≤ sizeLine ∧ ∀ p, H1 p = none → Q (.ref p) (upd H1 p (.tup (v :: xs)))) := fun o v G hh sG hv => by
            refine ⟨_, rfl, _, rfl, (by show 3 ≤ sizeLine; decide), fun u n => ?_⟩
            have s6 := same_new (o := .tup [v, .ref pa, .ref pd]) n
            refine q (o, some a, some d) _ _ ?_ (((S.trans s3).trans sG).trans s6) ⟨u, _, _, _, rfl, upd_same, hv.same s6, ⟨pa, rfl, s6 _ _ (sG _ _ (s3 _ _ hpa))⟩, ⟨pd, rfl, s6 _ _ (sG _ _ hpd)⟩⟩
            rcases hs with rfl | rfl
            · exact PH.mk hh (over_firsts a01 b01 (by omega) a0 a1 ed) (over_seconds a01 b01 (by omega) a0 a1 ed)
            · exact PH.mk hh (rest_firsts a01 b01 b0 b1 ed) (rest_seconds a01 b01 b0 b1 ed)
          rcases hs with rfl | rfl
          · refine ite2 (fun _ => ?_) (fun h => absurd (by decide +kernel) h)
            exact ⟨_, rfl, _, rfl, pa, pd, a, d, rfl, s3 _ _ hpa, hpd, d4, d5, by omega, by omega, by omega, by omega, fun ns o v G ch ho sG hv => fin o v G (over_hull a01 b01 (by omega) a0 a1 ed ch ho) sG hv⟩
          · refine ite2 (fun h => absurd h (by decide +kernel)) (fun _ => ?_)
            exact ⟨_, rfl, _, rfl, pa, pd, a, d, rfl, s3 _ _ hpa, hpd, d4, d2, by omega, by omega, fun ns o v G ch ho sG hv => fin o v G (rest_hull a01 b01 b0 b1 ed ch ho) sG hv⟩
end
end K

namespace K
/-! ### stretches parted, turned -/
def jn : Option (Int × Int) → Option (Int × Int) → Option (Int × Int)
  | none, o => o
  | some a, none => some a
  | some a, some b => some (min a.1 b.1, max a.2 b.2)
theorem jn_hull {P R : Int → Prop} : ∀ {o u : Option (Int × Int)}, Hull P o → Hull R u → Hull (fun x => P x ∨ R x) (jn o u)
  | none, none, h, k => fun x p => p.elim (h x) (k x)
  | none, some b, h, k => ⟨.inr k.1, .inr k.2.1, fun x p => p.elim (fun p => (h x p).elim) (k.2.2 x)⟩
  | some a, none, h, k => ⟨.inl h.1, .inl h.2.1, fun x p => p.elim (h.2.2 x) (fun p => (k x p).elim)⟩
  | some a, some b, h, k => by
    refine ⟨?_, ?_, fun x p => ?_⟩
    · rcases Int.le_total a.1 b.1 with z | z
      · rw [Int.min_eq_left z]
        exact .inl h.1
      · rw [Int.min_eq_right z]
        exact .inr k.1
    · rcases Int.le_total a.2 b.2 with z | z
      · rw [Int.max_eq_right z]
        exact .inr k.2.1
      · rw [Int.max_eq_left z]
        exact .inl h.2.1
    · rcases p with p | p
      · have := h.2.2 x p
        omega
      · have := k.2.2 x p
        omega
/-- what holds less is within -/
theorem jn_within {P R : Int → Prop} {o u : Option (Int × Int)} (h : Hull P o) (k : Hull R u) (w : ∀ x, P x → R x) : jn o u = u :=
  ((jn_hull h k).iff fun x => ⟨fun p => p.elim (w x) id, .inr⟩).uniq k
theorem trn_trn (b : Int × Int) : trn (trn b) = b := by
  unfold trn
  simp
theorem plus_comm {w : Int} {a b : Int × Int} {r l m : Int} : Pr .plus w a b r l m ↔ Pr .plus w b a r m l := by
  unfold Pr
  constructor
  · rintro ⟨h1, h2, h3, h4, h5, h6⟩
    exact ⟨h3, h4, h1, h2, by rw [← h5]; show some (m + l) = some (l + m); rw [Int.add_comm], h6⟩
  · rintro ⟨h1, h2, h3, h4, h5, h6⟩
    exact ⟨h3, h4, h1, h2, by rw [← h5]; show some (l + m) = some (m + l); rw [Int.add_comm], h6⟩
theorem minus_far {w : Int} {a b : Int × Int} {r l m : Int} : Pr .minus w a (trn b) r l m ↔ Pr .plus w a b r l (-m) := by
  rw [minus_iff, trn_trn]
theorem trn_in {a : Int × Int} {x : Int} : ((trn a).1 ≤ x ∧ x ≤ (trn a).2) ↔ (a.1 ≤ -x ∧ -x ≤ a.2) := by
  unfold trn
  dsimp only
  omega
theorem times_back {w : Int} {a b : Int × Int} {r l m : Int} : Pr .times w (trn a) b r l m ↔ Pr .times w a b (-r) (-l) m := by
  unfold Pr
  have e := trn_in (a := a) (x := l)
  have s : Sg.times.mk l m = some r ↔ Sg.times.mk (-l) m = some (-r) := by
    show some (l * m) = some r ↔ some (-l * m) = some (-r)
    rw [Int.neg_mul]
    constructor
    · intro h
      rw [Option.some.inj h]
    · intro h
      have := Option.some.inj h
      congr 1
      omega
  constructor
  · rintro ⟨h1, h2, h3, h4, h5, h6, h7⟩
    exact ⟨(e.mp ⟨h1, h2⟩).1, (e.mp ⟨h1, h2⟩).2, h3, h4, s.mp h5, by omega, by omega⟩
  · rintro ⟨h1, h2, h3, h4, h5, h6, h7⟩
    exact ⟨(e.mpr ⟨h1, h2⟩).1, (e.mpr ⟨h1, h2⟩).2, h3, h4, s.mpr h5, by omega, by omega⟩
theorem over_turned {w : Int} {a b : Int × Int} {r l m : Int} : Pr .over w (trn a) (trn b) r l m ↔ Pr .over w a b r (-l) (-m) := by
  unfold Pr
  have e := trn_in (a := a) (x := l)
  have f := trn_in (a := b) (x := m)
  have s : Sg.over.mk l m = Sg.over.mk (-l) (-m) := by
    show (if m = 0 then none else some (l.fdiv m)) = (if -m = 0 then none else some ((-l).fdiv (-m)))
    rw [Int.neg_fdiv_neg]
    by_cases z : m = 0
    · rw [if_pos z, if_pos (by omega)]
    · rw [if_neg z, if_neg (by omega)]
  rw [s]
  constructor
  · rintro ⟨h1, h2, h3, h4, h5⟩
    exact ⟨(e.mp ⟨h1, h2⟩).1, (e.mp ⟨h1, h2⟩).2, (f.mp ⟨h3, h4⟩).1, (f.mp ⟨h3, h4⟩).2, h5⟩
  · rintro ⟨h1, h2, h3, h4, h5⟩
    exact ⟨(e.mpr ⟨h1, h2⟩).1, (e.mpr ⟨h1, h2⟩).2, (f.mpr ⟨h3, h4⟩).1, (f.mpr ⟨h3, h4⟩).2, h5⟩
theorem rest_turned {w : Int} {a b : Int × Int} {r l m : Int} : Pr .rest w (trn a) (trn b) r l m ↔ Pr .rest w a b (-r) (-l) (-m) := by
  unfold Pr
  have e := trn_in (a := a) (x := l)
  have f := trn_in (a := b) (x := m)
  have s : Sg.rest.mk l m = some r ↔ Sg.rest.mk (-l) (-m) = some (-r) := by
    show (if m = 0 then none else some (l.fmod m)) = some r ↔ (if -m = 0 then none else some ((-l).fmod (-m))) = some (-r)
    rw [fm_neg l m]
    by_cases z : m = 0
    · rw [if_pos z, if_pos (by omega)]
      exact ⟨fun h => (nomatch h), fun h => (nomatch h)⟩
    · rw [if_neg z, if_neg (by omega)]
      constructor
      · intro h
        have := Option.some.inj h
        congr 1
        omega
      · intro h
        have := Option.some.inj h
        congr 1
        omega
  constructor
  · rintro ⟨h1, h2, h3, h4, h5, h6, h7⟩
    exact ⟨(e.mp ⟨h1, h2⟩).1, (e.mp ⟨h1, h2⟩).2, (f.mp ⟨h3, h4⟩).1, (f.mp ⟨h3, h4⟩).2, s.mp h5, by omega, by omega⟩
  · rintro ⟨h1, h2, h3, h4, h5, h6, h7⟩
    exact ⟨(e.mpr ⟨h1, h2⟩).1, (e.mpr ⟨h1, h2⟩).2, (f.mpr ⟨h3, h4⟩).1, (f.mpr ⟨h3, h4⟩).2, s.mpr h5, by omega, by omega⟩
theorem part_left {s : Sg} {w : Int} {a b : Int × Int} {k r l m : Int} (h : a.1 ≤ k) (g : k < a.2) : Pr s w a b r l m ↔ Pr s w (a.1, k) b r l m ∨ Pr s w (k + 1, a.2) b r l m := by
  unfold Pr
  constructor
  · rintro ⟨h1, h2, h3⟩
    by_cases z : l ≤ k
    · exact .inl ⟨h1, z, h3⟩
    · exact .inr ⟨by dsimp only; omega, h2, h3⟩
  · rintro (⟨h1, h2, h3⟩ | ⟨h1, h2, h3⟩)
    · dsimp only at h1 h2
      exact ⟨h1, by omega, h3⟩
    · dsimp only at h1 h2
      exact ⟨by omega, h2, h3⟩
theorem part_right {s : Sg} {w : Int} {a b : Int × Int} {k r l m : Int} (h : a.1 ≤ k) (g : k < a.2) : Pr s w b a r l m ↔ Pr s w b (a.1, k) r l m ∨ Pr s w b (k + 1, a.2) r l m := by
  unfold Pr
  constructor
  · rintro ⟨h1, h2, h3, h4, h5⟩
    by_cases z : m ≤ k
    · exact .inl ⟨h1, h2, h3, z, h5⟩
    · exact .inr ⟨h1, h2, by dsimp only; omega, h4, h5⟩
  · rintro (⟨h1, h2, h3, h4, h5⟩ | ⟨h1, h2, h3, h4, h5⟩)
    · dsimp only at h3 h4
      exact ⟨h1, h2, h3, by omega, h5⟩
    · dsimp only at h3 h4
      exact ⟨h1, h2, by omega, h4, h5⟩
theorem wider {s : Sg} {w : Int} {a b : Int × Int} {r l m : Int} (h : Pr s w a b r l m) : Pr s (w + 3) a b r l m :=
  ⟨h.1, h.2.1, h.2.2.1, h.2.2.2.1, h.2.2.2.2.1, by have := h.2.2.2.2.2.1; omega, by have := h.2.2.2.2.2.2; omega⟩
end K

set_option maxRecDepth 100000
set_option maxHeartbeats 3900000
namespace K
open PySem PySem.Spec PyProof.Rows L2
/-! ### the law's own defs -/
section
variable {K : PySem.W.Frag}
theorem catA_of {a b : Addr} {xs ys : List V} {G : Hp} {Q : VK} (ha : G a = some (.tup xs)) (hb : G b = some (.tup ys)) (hl : xs.length + ys.length ≤ sizeLine)
    (h : ∀ (k : Addr) (G1 : Hp), Same G G1 → G1 k = some (.tup (xs ++ ys)) → Q (.ref k) G1) : rCatA K (.ref a) (.ref b) G Q := by
  refine ⟨a, b, _, _, rfl, rfl, SqT.of ha, SqT.of hb, hl, fun z => h _ _ (fun _ _ h => h) ?_, fun _ z => h _ _ (fun _ _ h => h) ?_, fun _ _ k nk => h _ _ (same_new nk) upd_same⟩
  · rw [z]
    exact hb
  · rw [z, List.append_nil]
    exact ha
theorem slA_of {a : Addr} {xs ys : List V} {lo hi : Option Int} {G : Hp} {Q : VK} (ha : G a = some (.tup xs)) (e : cutV xs lo hi = ys)
    (h : ∀ (k : Addr) (G1 : Hp), Same G G1 → G1 k = some (.tup ys) → Q (.ref k) G1) : rSlA K (.ref a) lo hi G Q := by
  refine ⟨a, _, rfl, SqT.of ha, fun z => h _ _ (fun _ _ h => h) ?_, fun _ k nk => h _ _ (same_new nk) (by rw [upd_same, e])⟩
  rw [← e]
  unfold cutV
  rw [z.1, z.2, Nat.sub_zero, List.drop_zero, List.take_length]
  exact ha
end
theorem keep_lst {G : Hp} {l : Addr} {xs : List V} {o : HO} (h : G l = some (.lst xs)) : ∀ a ys, G a = some (HO.tup ys) → (upd G l o) a = some (.tup ys) := fun a ys e => by
  rw [upd_ne (ne_of e h (fun z => by cases z))]
  exact e
/-- a row of what was found: the result and the word -/
def prD (p : Int × Int) : PyData := .tuple [.int p.1, .int p.2]
theorem Im.pr {H : Hp} {p : Int × Int} {v : V} (h : Im H (prD p) v) : ∃ a : Addr, v = .ref a ∧ H a = some (.tup [.int p.1, .int p.2]) := by
  unfold prD at h
  unfold Im at h
  obtain ⟨a, xs, rfl, e, h⟩ := h
  unfold ImAll at h
  obtain ⟨v1, r1, rfl, h1, h⟩ := h
  unfold ImAll at h
  obtain ⟨v2, r2, rfl, h2, h⟩ := h
  unfold ImAll at h
  unfold Im at h1 h2
  subst h1 h2 h
  exact ⟨a, rfl, e⟩
theorem paired_map {α β : Type} {R : α → β → Prop} {R2 : α → β → Prop} (h : ∀ a b, R a b → R2 a b) : ∀ {xs : List α} {ys : List β}, Paired R xs ys → Paired R2 xs ys
  | _, _, .nil => .nil
  | _, _, .cons r t => .cons (h _ _ r) (paired_map h t)
theorem paired_snoc {α β : Type} {R : α → β → Prop} {a : α} {b : β} (r : R a b) : ∀ {xs : List α} {ys : List β}, Paired R xs ys → Paired R (xs ++ [a]) (ys ++ [b])
  | _, _, .nil => .cons r .nil
  | _, _, .cons h t => .cons h (paired_snoc r t)
theorem stD_few {o : Option (Int × Int)} (h : ∀ a, o = some a → SmI a.1 ∧ SmI a.2) : PyData.canLay0 (stD o) = true ∧ PyData.depth (stD o) ≤ 1 ∧ (stD o).hasDict = false ∧ PyData.weight (stD o) ≤ 100 ∧ PyData.intsShort 13 (stD o) = true := by
  match o, h with
  | none, _ => exact ⟨rfl, Nat.zero_le _, rfl, Nat.zero_le _, rfl⟩
  | some a, h =>
    obtain ⟨h1, h2⟩ := h a rfl
    have w1 := h1.weight
    have w2 := h2.weight
    refine ⟨rfl, Nat.le_refl _, rfl, ?_, ?_⟩
    · show PyData.weight (.int a.1) + 1 + (PyData.weight (.int a.2) + 1 + 0) ≤ 100
      omega
    · show (PyData.intsShort 13 (.int a.1) && (PyData.intsShort 13 (.int a.2) && true)) = true
      rw [h1.short, h2.short]
      rfl
/-- three stretches as data -/
def tiD (o : Option (Int × Int) × Option (Int × Int) × Option (Int × Int)) : PyData := .tuple [stD o.1, stD o.2.1, stD o.2.2]
theorem Tri.im {H : Hp} {o : Option (Int × Int) × Option (Int × Int) × Option (Int × Int)} {v : V} (h : Tri H o v) : Im H (tiD o) v := by
  obtain ⟨p, v1, v2, v3, rfl, hp, h1, h2, h3⟩ := h
  exact .tup hp (.cons h1.im (.cons h2.im (.cons h3.im .nil)))
theorem tiD_few {o : Option (Int × Int) × Option (Int × Int) × Option (Int × Int)} (h1 : ∀ a, o.1 = some a → SmI a.1 ∧ SmI a.2) (h2 : ∀ a, o.2.1 = some a → SmI a.1 ∧ SmI a.2) (h3 : ∀ a, o.2.2 = some a → SmI a.1 ∧ SmI a.2) : Few (tiD o) := by
  obtain ⟨a1, a2, a3, a4, a5⟩ := stD_few h1
  obtain ⟨b1, b2, b3, b4, b5⟩ := stD_few h2
  obtain ⟨c1, c2, c3, c4, c5⟩ := stD_few h3
  refine ⟨?_, ?_, ?_, ?_, ?_⟩
  · show (PyData.canLay0 (stD o.1) && (PyData.canLay0 (stD o.2.1) && (PyData.canLay0 (stD o.2.2) && true))) = true
    rw [a1, b1, c1]
    rfl
  · show max (PyData.depth (stD o.1)) (max (PyData.depth (stD o.2.1)) (max (PyData.depth (stD o.2.2)) 0)) + 1 ≤ 30
    omega
  · show ((stD o.1).hasDict || ((stD o.2.1).hasDict || ((stD o.2.2).hasDict || false))) = false
    rw [a3, b3, c3]
    rfl
  · show PyData.weight (stD o.1) + 1 + (PyData.weight (stD o.2.1) + 1 + (PyData.weight (stD o.2.2) + 1 + 0)) ≤ 1900
    omega
  · show (PyData.intsShort 13 (stD o.1) && (PyData.intsShort 13 (stD o.2.1) && (PyData.intsShort 13 (stD o.2.2) && true))) = true
    rw [a5, b5, c5]
    rfl
theorem PH.few {s : Sg} {w : Int} {oa ob : Option (Int × Int)} {o : Option (Int × Int) × Option (Int × Int) × Option (Int × Int)} (w1 : w ≤ 31) (ia : InW w oa) (ib : InW w ob) (h : PH s w oa ob o) : Few (tiD o) := by
  have all : ∀ r l m, PrO s w oa ob r l m → SmI r ∧ SmI l ∧ SmI m := fun r l m ⟨a, b, ea, eb, p⟩ => by
    obtain ⟨p1, p2, p3, p4, _, p5, p6⟩ := p
    have ka := ia a ea
    have kb := ib b eb
    exact ⟨SmI.of (w := w) (by omega) p5 p6, SmI.of (w := w) (by omega) (by omega) (by omega), SmI.of (w := w) (by omega) (by omega) (by omega)⟩
  obtain ⟨h1, h2, h3⟩ := h
  refine tiD_few (fun a e => ?_) (fun a e => ?_) (fun a e => ?_)
  · rw [e] at h1
    obtain ⟨⟨l, m, k⟩, ⟨l2, m2, k2⟩, _⟩ := h1
    exact ⟨(all _ _ _ k).1, (all _ _ _ k2).1⟩
  · rw [e] at h2
    obtain ⟨⟨l, m, k⟩, ⟨l2, m2, k2⟩, _⟩ := h2
    exact ⟨(all _ _ _ k).2.1, (all _ _ _ k2).2.1⟩
  · rw [e] at h3
    obtain ⟨⟨l, m, k⟩, ⟨l2, m2, k2⟩, _⟩ := h3
    exact ⟨(all _ _ _ k).2.2, (all _ _ _ k2).2.2⟩
/-- both sides are there -/
theorem PH.un {s : Sg} {w : Int} {a b : Int × Int} {o : Option (Int × Int) × Option (Int × Int) × Option (Int × Int)} (h : PH s w (some a) (some b) o) : Hull (fun r => ∃ l m, Pr s w a b r l m) o.1 ∧ Hull (fun l => ∃ r m, Pr s w a b r l m) o.2.1 ∧ Hull (fun m => ∃ r l, Pr s w a b r l m) o.2.2 := by
  have e : ∀ r l m, PrO s w (some a) (some b) r l m ↔ Pr s w a b r l m := fun _ _ _ => PrO.iff.symm
  obtain ⟨h1, h2, h3⟩ := h
  refine ⟨h1.iff fun x => ?_, h2.iff fun x => ?_, h3.iff fun x => ?_⟩ <;> simp only [e]
theorem PH.swap {s u : Sg} {w : Int} {a b : Int × Int} {o : Option (Int × Int) × Option (Int × Int) × Option (Int × Int)} (e : ∀ r l m, Pr s w a b r l m ↔ Pr u w b a r m l) (h : PH s w (some a) (some b) o) : PH u w (some b) (some a) (o.1, o.2.2, o.2.1) := by
  obtain ⟨h1, h2, h3⟩ := h.un
  refine PH.mk (h1.iff fun x => ?_) (h3.iff fun x => ?_) (h2.iff fun x => ?_)
  · exact ⟨fun ⟨l, m, k⟩ => ⟨m, l, (e _ _ _).mp k⟩, fun ⟨l, m, k⟩ => ⟨m, l, (e _ _ _).mpr k⟩⟩
  · exact ⟨fun ⟨r, l, k⟩ => ⟨r, l, (e _ _ _).mp k⟩, fun ⟨r, l, k⟩ => ⟨r, l, (e _ _ _).mpr k⟩⟩
  · exact ⟨fun ⟨r, l, k⟩ => ⟨r, l, (e _ _ _).mp k⟩, fun ⟨r, l, k⟩ => ⟨r, l, (e _ _ _).mpr k⟩⟩
theorem PH.far {w : Int} {a b : Int × Int} {o : Option (Int × Int) × Option (Int × Int) × Option (Int × Int)} (h : PH .plus w (some a) (some b) o) : PH .minus w (some a) (some (trn b)) (o.1, o.2.1, o.2.2.map trn) := by
  obtain ⟨h1, h2, h3⟩ := h.un
  refine PH.mk (h1.iff fun x => ?_) (h2.iff fun x => ?_) (h3.trn.iff fun x => ?_)
  · exact ⟨fun ⟨l, m, k⟩ => ⟨l, -m, minus_far.mpr (by rw [Int.neg_neg]; exact k)⟩, fun ⟨l, m, k⟩ => ⟨l, -m, minus_far.mp k⟩⟩
  · exact ⟨fun ⟨r, m, k⟩ => ⟨r, -m, minus_far.mpr (by rw [Int.neg_neg]; exact k)⟩, fun ⟨r, m, k⟩ => ⟨r, -m, minus_far.mp k⟩⟩
  · exact ⟨fun ⟨r, l, k⟩ => ⟨r, l, minus_far.mpr k⟩, fun ⟨r, l, k⟩ => ⟨r, l, minus_far.mp k⟩⟩
theorem PH.back {w : Int} {a b : Int × Int} {o : Option (Int × Int) × Option (Int × Int) × Option (Int × Int)} (h : PH .times w (some a) (some b) o) : PH .times w (some (trn a)) (some b) (o.1.map trn, o.2.1.map trn, o.2.2) := by
  obtain ⟨h1, h2, h3⟩ := h.un
  refine PH.mk (h1.trn.iff fun x => ?_) (h2.trn.iff fun x => ?_) (h3.iff fun x => ?_)
  · exact ⟨fun ⟨l, m, k⟩ => ⟨-l, m, times_back.mpr (by rw [Int.neg_neg]; exact k)⟩, fun ⟨l, m, k⟩ => ⟨-l, m, times_back.mp k⟩⟩
  · exact ⟨fun ⟨r, m, k⟩ => ⟨-r, m, times_back.mpr (by rw [Int.neg_neg]; exact k)⟩, fun ⟨r, m, k⟩ => ⟨-r, m, times_back.mp k⟩⟩
  · exact ⟨fun ⟨r, l, k⟩ => ⟨-r, -l, times_back.mpr (by rw [Int.neg_neg, Int.neg_neg]; exact k)⟩, fun ⟨r, l, k⟩ => ⟨-r, -l, times_back.mp k⟩⟩
theorem PH.over {w : Int} {a b : Int × Int} {o : Option (Int × Int) × Option (Int × Int) × Option (Int × Int)} (h : PH .over w (some a) (some b) o) : PH .over w (some (trn a)) (some (trn b)) (o.1, o.2.1.map trn, o.2.2.map trn) := by
  obtain ⟨h1, h2, h3⟩ := h.un
  refine PH.mk (h1.iff fun x => ?_) (h2.trn.iff fun x => ?_) (h3.trn.iff fun x => ?_)
  · exact ⟨fun ⟨l, m, k⟩ => ⟨-l, -m, over_turned.mpr (by rw [Int.neg_neg, Int.neg_neg]; exact k)⟩, fun ⟨l, m, k⟩ => ⟨-l, -m, over_turned.mp k⟩⟩
  · exact ⟨fun ⟨r, m, k⟩ => ⟨r, -m, over_turned.mpr (by rw [Int.neg_neg]; exact k)⟩, fun ⟨r, m, k⟩ => ⟨r, -m, over_turned.mp k⟩⟩
  · exact ⟨fun ⟨r, l, k⟩ => ⟨r, -l, over_turned.mpr (by rw [Int.neg_neg]; exact k)⟩, fun ⟨r, l, k⟩ => ⟨r, -l, over_turned.mp k⟩⟩
theorem PH.rest {w : Int} {a b : Int × Int} {o : Option (Int × Int) × Option (Int × Int) × Option (Int × Int)} (h : PH .rest w (some a) (some b) o) : PH .rest w (some (trn a)) (some (trn b)) (o.1.map trn, o.2.1.map trn, o.2.2.map trn) := by
  obtain ⟨h1, h2, h3⟩ := h.un
  refine PH.mk (h1.trn.iff fun x => ?_) (h2.trn.iff fun x => ?_) (h3.trn.iff fun x => ?_)
  · exact ⟨fun ⟨l, m, k⟩ => ⟨-l, -m, rest_turned.mpr (by rw [Int.neg_neg, Int.neg_neg]; exact k)⟩, fun ⟨l, m, k⟩ => ⟨-l, -m, rest_turned.mp k⟩⟩
  · exact ⟨fun ⟨r, m, k⟩ => ⟨-r, -m, rest_turned.mpr (by rw [Int.neg_neg, Int.neg_neg]; exact k)⟩, fun ⟨r, m, k⟩ => ⟨-r, -m, rest_turned.mp k⟩⟩
  · exact ⟨fun ⟨r, l, k⟩ => ⟨-r, -l, rest_turned.mpr (by rw [Int.neg_neg, Int.neg_neg]; exact k)⟩, fun ⟨r, l, k⟩ => ⟨-r, -l, rest_turned.mp k⟩⟩
def jn3 (o u : Option (Int × Int) × Option (Int × Int) × Option (Int × Int)) : Option (Int × Int) × Option (Int × Int) × Option (Int × Int) := (jn o.1 u.1, jn o.2.1 u.2.1, jn o.2.2 u.2.2)
theorem PH.or {s : Sg} {w : Int} {a b a1 b1 a2 b2 : Int × Int} {o u : Option (Int × Int) × Option (Int × Int) × Option (Int × Int)} (e : ∀ r l m, Pr s w a b r l m ↔ Pr s w a1 b1 r l m ∨ Pr s w a2 b2 r l m) (h : PH s w (some a1) (some b1) o) (k : PH s w (some a2) (some b2) u) : PH s w (some a) (some b) (jn3 o u) := by
  obtain ⟨h1, h2, h3⟩ := h.un
  obtain ⟨k1, k2, k3⟩ := k.un
  refine PH.mk ((jn_hull h1 k1).iff fun x => ?_) ((jn_hull h2 k2).iff fun x => ?_) ((jn_hull h3 k3).iff fun x => ?_) <;> simp only [e, exists_or]
theorem PH.wide {s : Sg} {w : Int} {a b : Int × Int} {o u : Option (Int × Int) × Option (Int × Int) × Option (Int × Int)} (h : PH s w (some a) (some b) o) (k : PH s (w + 3) (some a) (some b) u) : jn o.1 u.1 = u.1 ∧ jn o.2.1 u.2.1 = u.2.1 ∧ jn o.2.2 u.2.2 = u.2.2 := by
  obtain ⟨h1, h2, h3⟩ := h.un
  obtain ⟨k1, k2, k3⟩ := k.un
  exact ⟨jn_within h1 k1 fun x ⟨l, m, p⟩ => ⟨l, m, wider p⟩, jn_within h2 k2 fun x ⟨l, m, p⟩ => ⟨l, m, wider p⟩, jn_within h3 k3 fun x ⟨l, m, p⟩ => ⟨l, m, wider p⟩⟩
section
variable {P : Program} {w : World} {K : PySem.W.Frag} {mg : Str → Option Value} {base : Heap}
abbrev s_span : Stmt := topS 19
abbrev s_join : Stmt := topS 20
abbrev s_on : Stmt := topS 21
abbrev s_part : Stmt := topS 22
abbrev s_turn : Stmt := topS 23
abbrev s_wide : Stmt := topS 24
def spSpan : Sp := fun vs H Q _ => ∃ (t : Addr) (n : Nat) (m : Int), vs = [.ref t, .int m] ∧ Tp H t n ∧ n < 900000 ∧ 0 < m ∧ m < 1000000 ∧
  ∀ (a : Int × Int) (v : V) (H' : Hp), -m ≤ a.1 → a.1 ≤ a.2 → a.2 ≤ m → St H' (some a) v → Tp H' t (n + 6) → But t H H' → Q v H'
theorem scSp : FnScope ["tape", "wide", "first", "second"] ["tape", "wide"] (defScope s_span) := ⟨rfl, rfl, rfl, by decide +kernel, rfl, by decide +kernel, by decide +kernel⟩
theorem ok_span (B : Bs mg) (c_word : C8.Cal P w K mg base 3 "_law_a_word" spWord []) {f : Addr} {fd : FuncData} (F : Fun K "_law_span" "_law_span" s_span f fd) : FnOk P w K mg base CX0 4 f fd ["tape", "wide"] spSpan := by
  refine F.ok scSp (fun vs H Q E h => ?_) (fun cdv A outer s H vs Q E hr h => ?_)
  · obtain ⟨t, n, m, rfl, _⟩ := h
    rfl
  · obtain ⟨t, n, m, rfl, hT, hn, m0, m1, q⟩ := h
    refine ⟨_, (pss_cons (ps_par (i := 2) (j := 3) rfl scSp.nd rfl rfl (by decide) rfl rfl (pa_cons (C8.pe_c c_word hr (by decide) (by rfl) (pa_cons (pv 0) (pa_cons (pv 1) pa_nil))) (pa_cons (C8.pe_c c_word hr (by decide) (by rfl) (pa_cons (pv 0) (pa_cons (pv 1) pa_nil))) pa_nil)) (by rfl))
      (pss_one (ps_ret (pe_tup (pa_cons (pe_callB (call_min2 rfl) (by rfl) B.min PyProof.Rows.boot_min (pa_cons (pv 2) (pa_cons (pv 3) pa_nil))) (pa_cons (pe_callB (call_max2 rfl) (by rfl) B.max PyProof.Rows.boot_max (pa_cons (pv 2) (pa_cons (pv 3) pa_nil))) pa_nil)))))), ?_⟩
    refine ⟨_, rfl, _, rfl, t, n, m, rfl, hT, by omega, m0, m1, fun i G1 i0 i1 hT1 b1 => ?_⟩
    refine ⟨_, rfl, _, rfl, t, n + 3, m, rfl, hT1, by omega, m0, m1, fun j G2 j0 j1 hT2 b2 => ?_⟩
    refine ⟨_, _, rfl, ?_⟩
    refine ⟨_, rfl, _, rfl, _, _, rfl, _, rfl, _, rfl, _, _, rfl, (by show 2 ≤ sizeLine; decide), fun p hp => ?_⟩
    rw [ifmin, ifmax]
    exact q (min i j, max i j) _ _ (by dsimp only; omega) (by dsimp only; omega) (by dsimp only; omega) ⟨p, rfl, upd_same⟩ (hT2.new hp) ((b1.trans b2).trans (.new hp))
def spJoin : Sp := fun vs H Q _ => ∃ (v1 v2 : V) (o1 o2 : Option (Int × Int)), vs = [v1, v2] ∧ St H o1 v1 ∧ St H o2 v2 ∧ ∀ v H', Same H H' → St H' (jn o1 o2) v → Q v H'
theorem scJo : FnScope ["first", "second", "some", "span"] ["first", "second"] (defScope s_join) := ⟨rfl, rfl, rfl, by decide +kernel, rfl, by decide +kernel, by decide +kernel⟩
/-- those that are there -/
def thr : Option (Int × Int) → List (Int × Int)
  | none => []
  | some a => [a]
theorem St.thr {H : Hp} {o : Option (Int × Int)} {v : V} (h : St H o v) : ImAll H ((thr o).map prD) (if v = .non then [] else [v]) := by
  match o, h with
  | none, h =>
    obtain rfl : v = .non := h
    exact .nil
  | some a, ⟨p, e, hp⟩ =>
    subst e
    exact .cons (Im.tup hp (.cons .int (.cons .int .nil))) .nil
theorem jn_thr {o u : Option (Int × Int)} : (thr o ++ thr u = [] → jn o u = none) ∧ ∀ m1 m2 : Int, m1 ∈ (thr o ++ thr u).map Prod.fst → (∀ y, y ∈ (thr o ++ thr u).map Prod.fst → m1 ≤ y) → m2 ∈ (thr o ++ thr u).map Prod.snd → (∀ y, y ∈ (thr o ++ thr u).map Prod.snd → y ≤ m2) → jn o u = some (m1, m2) := by
  match o, u with
  | none, none => exact ⟨fun _ => rfl, fun m1 m2 h => (nomatch h)⟩
  | none, some b =>
    refine ⟨fun h => (nomatch h), fun m1 m2 h1 _ h3 _ => ?_⟩
    have h1 : m1 ∈ [b.1] := h1
    have h3 : m2 ∈ [b.2] := h3
    rw [List.mem_singleton] at h1 h3
    rw [h1, h3]
    rfl
  | some a, none =>
    refine ⟨fun h => (nomatch h), fun m1 m2 h1 _ h3 _ => ?_⟩
    have h1 : m1 ∈ [a.1] := h1
    have h3 : m2 ∈ [a.2] := h3
    rw [List.mem_singleton] at h1 h3
    rw [h1, h3]
    rfl
  | some a, some b =>
    refine ⟨fun h => (nomatch h), fun m1 m2 h1 h2 h3 h4 => ?_⟩
    have h1 : m1 ∈ [a.1, b.1] := h1
    have h3 : m2 ∈ [a.2, b.2] := h3
    have k1 := h2 a.1 (by show a.1 ∈ [a.1, b.1]; simp)
    have k2 := h2 b.1 (by show b.1 ∈ [a.1, b.1]; simp)
    have k3 := h4 a.2 (by show a.2 ∈ [a.2, b.2]; simp)
    have k4 := h4 b.2 (by show b.2 ∈ [a.2, b.2]; simp)
    simp only [List.mem_cons, List.not_mem_nil, or_false] at h1 h3
    show some (min a.1 b.1, max a.2 b.2) = _
    simp only [Option.some.injEq, Prod.mk.injEq]
    exact ⟨by omega, by omega⟩
theorem prs_shaped : ∀ ps : List (Int × Int), PyData.canLayAll0 (ps.map prD) = true ∧ PyData.depthAll (ps.map prD) ≤ 1
  | [] => ⟨rfl, Nat.zero_le _⟩
  | p :: r => by
    obtain ⟨a, b⟩ := prs_shaped r
    refine ⟨?_, ?_⟩
    · show (true && PyData.canLayAll0 (r.map prD)) = true
      rw [a]
      rfl
    · show max 1 (PyData.depthAll (r.map prD)) ≤ 1
      omega
theorem ok_join (B : Bs mg) {f : Addr} {fd : FuncData} (F : Fun K "_law_joined" "_law_joined" s_join f fd) : FnOk P w K mg base CX0 1 f fd ["first", "second"] spJoin := by
  refine F.ok scJo (fun vs H Q E h => ?_) (fun cdv A outer s H vs Q E hr h => ?_)
  · obtain ⟨v1, v2, o1, o2, rfl, _⟩ := h
    rfl
  · obtain ⟨v1, v2, o1, o2, rfl, h1, h2, q⟩ := h
    refine ⟨_, (pss_cons (ps_setLc (i := 2) (own := [("span", 3)]) (g := gName 3) (by rfl) scJo.nd rfl rfl (sw_true rfl rfl rfl (by decide +kernel)) (pi_list (pe_lst (pa_cons (pv 0) (pa_cons (pv 1) pa_nil)))) (blkOk_by (own := [("span", 3)]) (N := ["first", "second", "some", "span"]) (sc := defScope s_join) (by decide +kernel)) (fun _ _ _ _ _ => (pg_name (i := 3) scJo.nd rfl (.inl rfl) (hf := .inr rfl))) (fun _ _ _ _ _ => pts_one (pt_cmpR op_notN (pv 3) pe_non (nomark _))) (fun _ _ _ _ _ => (pv 3)))
      (pss_cons (ps_if (pt_cmpR (op_eqD hr.units) (pv 2) (pe_lst pa_nil) (nomark _)) (pss_one (ps_ret pe_non)) pss_nil)
      (pss_one (ps_ret (pe_tup (pa_cons (pe_callB (cr_min rfl) (by rfl) B.min PyProof.Rows.boot_min (pa_cons (pe_lc (own := [("span", 3)]) (g := gName 3) (tt := tYes) (by rfl) scJo.nd (pi_list (pv 2)) (blkOk_by (own := [("span", 3)]) (N := ["first", "second", "some", "span"]) (sc := defScope s_join) (by decide +kernel)) (fun _ _ _ _ _ => (pg_name (i := 3) scJo.nd rfl (.inl rfl) (hf := .inr rfl))) (fun _ _ _ _ _ => pts_nil) (fun _ _ _ _ _ => (pe_ix (ixT K rfl) (pv 3) pe_int (fun _ _ => rfl)))) pa_nil)) (pa_cons (pe_callB (cr_max rfl) (by rfl) B.max PyProof.Rows.boot_max (pa_cons (pe_lc (own := [("span", 3)]) (g := gName 3) (tt := tYes) (by rfl) scJo.nd (pi_list (pv 2)) (blkOk_by (own := [("span", 3)]) (N := ["first", "second", "some", "span"]) (sc := defScope s_join) (by decide +kernel)) (fun _ _ _ _ _ => (pg_name (i := 3) scJo.nd rfl (.inl rfl) (hf := .inr rfl))) (fun _ _ _ _ _ => pts_nil) (fun _ _ _ _ _ => (pe_ix (ixT K rfl) (pv 3) pe_int (fun _ _ => rfl)))) pa_nil)) pa_nil))))))), ?_⟩
    refine ⟨_, rfl, _, rfl, (by show 2 ≤ sizeLine; decide), fun l nl => ?_⟩
    have s1 := same_new (o := .lst [v1, v2]) nl
    have hl : (upd H l (.lst [v1, v2])) l = some (.lst [v1, v2]) := upd_same
    revert s1 hl
    generalize (upd H l (.lst [v1, v2])) = H1
    intro s1 hl
    refine ⟨l, rfl, ⟨_, SqL.of hl⟩, fun D hD => ?_⟩
    refine lc_w (walk_list (K := K) (a := l) (xs := [v1, v2])) (fun _ => False) (fun j acc G => acc = ([v1, v2].take j).flatMap fun v => if v = .non then [] else [v]) id hD (by show 2 < sizeLine; decide) (fun j acc G G' h _ => h) rfl (fun j acc G _ b _ => SqL.of ((Bt.same b) _ _ hl)) ?_ ?_
    · rintro j acc z Ga Gb hj hb rfl hA hal ⟨rfl, hz⟩ N N0 w1' w0'
      refine ⟨rfl, ?_⟩
      refine ⟨_, rfl, rfl, _, rfl, ?_⟩
      by_cases e : z = .non
      · refine ite2 (fun h => absurd h (by rw [decide_eq_true e]; decide)) (fun _ => w0' _ .refl ?_)
        rw [List.take_add_one, hz, List.flatMap_append]
        simp [e]
      · refine ite2 (fun _ => ⟨_, rfl, w1' _ _ .refl ?_⟩) (fun h => absurd (by rw [decide_eq_false e]; rfl) h)
        rw [List.take_add_one, hz, List.flatMap_append]
        simp [e]
    rintro acc G hb hA hal hacc
    have sG := s1.trans (Bt.same hb)
    have hI : ImAll G ((thr o1 ++ thr o2).map prD) acc := by
      rw [hacc, List.map_append]
      show ImAll G _ ((if v1 = .non then [] else [v1]) ++ ((if v2 = .non then [] else [v2]) ++ []))
      rw [List.append_nil]
      exact (h1.same sG).thr.app (h2.same sG).thr
    clear hacc hb hal
    obtain ⟨j0, j1⟩ := jn_thr (o := o1) (u := o2)
    have sl : (thr o1 ++ thr o2).length ≤ 2 := by
      rw [List.length_append]
      cases o1 <;> cases o2 <;> simp [thr]
    have al := hI.length
    rw [List.length_map] at al
    revert hI j0 j1 sl al
    generalize thr o1 ++ thr o2 = ss
    intro hI j0 j1 sl al
    dsimp only [gName]
    refine ⟨_, rfl, (by show 0 ≤ sizeLine; decide), fun m nm => ?_⟩
    have s2 := same_new (o := .lst []) nm
    have hA2 := s2 _ _ hA
    have hI2 := hI.same s2
    have sh : PySem.SeqAt.shaped (.list (ss.map prD)) = true := shaped_of (prs_shaped ss).1 (show PyData.depthAll (ss.map prD) + 1 ≤ 64 by have := (prs_shaped ss).2; omega)
    refine ⟨.list (ss.map prD), .list [], .lst (SqL.of hA2) (ImAll.dp _ _ hI2), .lst (SqL.of upd_same) .nil, sh, rfl, _, rfl, ?_⟩
    revert hA2 hI2
    have sG2 := sG.trans s2
    revert sG2
    generalize (upd G m (.lst [])) = G2
    intro sG2 hA2 hI2
    match ss, hI2, j0, j1, sl, al with
    | [], _, j0, _, _, _ =>
      refine ite2 (fun _ => ?_) (fun h => absurd (by decide +kernel) h)
      exact q _ _ sG2 (by rw [j0 rfl]; rfl)
    | e :: r, hI2, _, j1, sl, al =>
      refine ite2 (fun h => absurd h (by show ¬ (false = true); decide)) (fun _ => ?_)
      refine ⟨_, rfl, D, rfl, ⟨_, SqL.of hA2⟩, fun E1 hE1 => ?_⟩
      refine lc_w (walk_list (K := K) (a := D) (xs := acc)) (fun _ => False) (fun j ac G => ac = (((e :: r).map Prod.fst).map V.int).take j) id hE1 (Nat.lt_of_le_of_lt (show acc.length ≤ 10 by omega) (by decide)) (fun j ac G G' h _ => h) rfl (fun j ac G _ b _ => SqL.of ((Bt.same b) _ _ hA2)) ?_ ?_
      · rintro j ac z Ga Gb hj hb rfl hB hbl ⟨rfl, hz⟩ N N0 w1' w0'
        obtain ⟨dd, hd1, hz1⟩ := hI2.getv hz
        obtain ⟨y, hy, rfl⟩ := map_at hd1
        obtain ⟨x, rfl, hx⟩ := Im.pr (hz1.same (Bt.same hb))
        refine ⟨rfl, ?_⟩
        refine ⟨_, rfl, x, _, 0, _, rfl, rfl, SqT.of hx, atI_nat (j := 0) rfl, w1' _ _ .refl ?_⟩
        rw [List.take_add_one, List.getElem?_map, List.getElem?_map, hy]
        rfl
      rintro ac G3 hb1 hB hbl rfl
      rw [List.take_of_length_le (by rw [List.length_map, List.length_map]; omega)] at hB
      refine ⟨E1, (e :: r).map Prod.fst, rfl, SqL.of hB, Nat.succ_pos _, fun m1 k1 k2 => ?_⟩
      have sGA1 := sG2.trans (Bt.same hb1)
      have hA3 := (Bt.same hb1) _ _ hA2
      have hI3 := hI2.same (Bt.same hb1)
      clear hb1 hB hbl hE1
      refine ⟨_, rfl, D, rfl, ⟨_, SqL.of hA3⟩, fun E2 hE2 => ?_⟩
      refine lc_w (walk_list (K := K) (a := D) (xs := acc)) (fun _ => False) (fun j ac G => ac = (((e :: r).map Prod.snd).map V.int).take j) id hE2 (Nat.lt_of_le_of_lt (show acc.length ≤ 10 by omega) (by decide)) (fun j ac G G' h _ => h) rfl (fun j ac G _ b _ => SqL.of ((Bt.same b) _ _ hA3)) ?_ ?_
      · rintro j ac z Ga Gb hj hb rfl hB hbl ⟨rfl, hz⟩ N N0 w1' w0'
        obtain ⟨dd, hd1, hz1⟩ := hI3.getv hz
        obtain ⟨y, hy, rfl⟩ := map_at hd1
        obtain ⟨x, rfl, hx⟩ := Im.pr (hz1.same (Bt.same hb))
        refine ⟨rfl, ?_⟩
        refine ⟨_, rfl, x, _, 1, _, rfl, rfl, SqT.of hx, atI_nat (j := 1) rfl, w1' _ _ .refl ?_⟩
        rw [List.take_add_one, List.getElem?_map, List.getElem?_map, hy]
        rfl
      rintro ac G4 hb2 hB hbl rfl
      rw [List.take_of_length_le (by rw [List.length_map, List.length_map]; omega)] at hB
      refine ⟨E2, (e :: r).map Prod.snd, rfl, SqL.of hB, Nat.succ_pos _, fun m2 k3 k4 => ?_⟩
      have sGA := sGA1.trans (Bt.same hb2)
      refine ⟨(by show 2 ≤ sizeLine; decide), fun u nu => ?_⟩
      rw [j1 m1 m2 k1 k2 k3 k4] at q
      exact q _ _ (sGA.trans (same_new nu)) ⟨u, rfl, upd_same⟩
def spOn : Sp := fun vs H Q _ => ∃ (v0 : V) (o : Option (Int × Int)), vs = [v0] ∧ St H o v0 ∧ ∀ v H', Same H H' → St H' (o.map trn) v → Q v H'
theorem scOn : FnScope ["span"] ["span"] (defScope s_on) := ⟨rfl, rfl, rfl, by decide +kernel, rfl, by decide +kernel, by decide +kernel⟩
theorem ok_on {f : Addr} {fd : FuncData} (F : Fun K "_law_over_nought" "_law_over_nought" s_on f fd) : FnOk P w K mg base CX0 1 f fd ["span"] spOn := by
  refine F.ok scOn (fun vs H Q E h => ?_) (fun cdv A outer s H vs Q E hr h => ?_)
  · obtain ⟨v0, o, rfl, _⟩ := h
    rfl
  · obtain ⟨v0, o, rfl, hv, q⟩ := h
    refine ⟨_, (pss_cons (ps_if (pt_cmpR op_isN (pv 0) pe_non (nomark _)) (pss_one (ps_ret pe_non)) pss_nil)
      (pss_one (ps_ret (pe_tup (pa_cons (pe_op op_sub pe_int (pe_ix (ixT K rfl) (pv 0) pe_int (fun _ _ => rfl))) (pa_cons (pe_op op_sub pe_int (pe_ix (ixT K rfl) (pv 0) pe_int (fun _ _ => rfl))) pa_nil)))))), ?_⟩
    match o, hv with
    | none, hv =>
      obtain rfl : v0 = .non := hv
      exact ⟨_, rfl, rfl, _, rfl, ifNN (q _ _ (fun _ _ h => h) rfl)⟩
    | some a, ⟨p, e, hp⟩ =>
      subst e
      refine ⟨_, rfl, rfl, _, rfl, ifRN ?_⟩
      refine ⟨_, rfl, p, _, 1, _, rfl, rfl, SqT.of hp, atI_nat (j := 1) rfl, _, _, rfl, rfl, _, rfl, p, _, 0, _, rfl, rfl, SqT.of hp, atI_nat (j := 0) rfl, _, _, rfl, rfl, (by show 2 ≤ sizeLine; decide), fun u hu => ?_⟩
      refine q _ _ (same_new hu) ⟨u, rfl, ?_⟩
      rw [upd_same]
      show some (HO.tup [.int (0 - a.2), .int (0 - a.1)]) = some (HO.tup [.int (-a.2), .int (-a.1)])
      rw [Int.zero_sub, Int.zero_sub]
/-- the k-th of three -/
def pk (k : Nat) (o : Option (Int × Int) × Option (Int × Int) × Option (Int × Int)) : Option (Int × Int) := match k with
  | 0 => o.1 | 1 => o.2.1 | _ => o.2.2
theorem tri_at {H : Hp} {o : Option (Int × Int) × Option (Int × Int) × Option (Int × Int)} {v : V} (h : Tri H o v) : ∃ (p : Addr) (x1 x2 x3 : V), v = .ref p ∧ H p = some (.tup [x1, x2, x3]) ∧ ∀ k : Nat, k < 3 → ∃ x, atI [x1, x2, x3] (0 + (k : Int)) = some x ∧ [x1, x2, x3][k]? = some x ∧ St H (pk k o) x := by
  obtain ⟨p, x1, x2, x3, rfl, hp, h1, h2, h3⟩ := h
  refine ⟨p, x1, x2, x3, rfl, hp, fun k hk => ?_⟩
  rw [Int.zero_add]
  match k, hk with
  | 0, _ => exact ⟨x1, atI_nat (j := 0) rfl, rfl, h1⟩
  | 1, _ => exact ⟨x2, atI_nat (j := 1) rfl, rfl, h2⟩
  | 2, _ => exact ⟨x3, atI_nat (j := 2) rfl, rfl, h3⟩
theorem Tri.same {H H' : Hp} {o : Option (Int × Int) × Option (Int × Int) × Option (Int × Int)} {v : V} (h : Tri H o v) (s : Same H H') : Tri H' o v :=
  let ⟨p, a, b, c, e, hp, h1, h2, h3⟩ := h
  ⟨p, a, b, c, e, s _ _ hp, h1.same s, h2.same s, h3.same s⟩
theorem St.off {H G : Hp} {D : Addr} {l : List V} {o : Option (Int × Int)} {v : V} (h : St H o v) (hD : H D = some (.lst l)) (k : ∀ a xs, a ≠ D → H a = some (HO.tup xs) → G a = some (.tup xs)) : St G o v := by
  match o, h with
  | none, h => exact h
  | some c, ⟨p, e, hp⟩ => exact ⟨p, e, k _ _ (ne_of hp hD (fun z => by cases z)) hp⟩
theorem InW.part {w : Int} {a : Int × Int} {k : Int} (h0 : -w ≤ a.1) (h1 : a.2 ≤ w) (k0 : a.1 ≤ k) (k1 : k < a.2) : InW w (some (a.1, k)) ∧ InW w (some (k + 1, a.2)) := by
  refine ⟨fun b e => ?_, fun b e => ?_⟩
  · obtain rfl := Option.some.inj e
    exact ⟨h0, k0, by dsimp only; omega⟩
  · obtain rfl := Option.some.inj e
    exact ⟨by dsimp only; omega, by dsimp only; omega, h1⟩
theorem InW.one {w : Int} {a : Int × Int} (h0 : -w ≤ a.1) (h : a.1 ≤ a.2) (h1 : a.2 ≤ w) : InW w (some a) := fun b e => by
  obtain rfl := Option.some.inj e
  exact ⟨h0, h, h1⟩
theorem InW.turned {w : Int} {a : Int × Int} (h0 : -w ≤ a.1) (h : a.1 ≤ a.2) (h1 : a.2 ≤ w) : InW w (some (trn a)) := fun b e => by
  obtain rfl := Option.some.inj e
  unfold trn
  dsimp only
  exact ⟨by omega, by omega, by omega⟩
def spPart : Sp := fun vs H Q _ => ∃ (s : Sg) (w : Int) (pa pb : Addr) (a b : Int × Int) (k : Int), vs = [.str s.str, .int w, .ref pa, .ref pb, .int k] ∧ H pa = some (.tup [.int a.1, .int a.2]) ∧ H pb = some (.tup [.int b.1, .int b.2]) ∧ 1 ≤ w ∧ w ≤ 31 ∧ -w ≤ a.1 ∧ a.1 ≤ a.2 ∧ a.2 ≤ w ∧ -w ≤ b.1 ∧ b.1 ≤ b.2 ∧ b.2 ≤ w ∧ a.1 ≤ k ∧ ∀ H', Same H H' → Q (.bl true) H'
theorem scPt : FnScope ["word", "wide", "first", "second", "at", "whole", "low", "high", "spot"] ["word", "wide", "first", "second", "at"] (defScope s_part) := ⟨rfl, rfl, rfl, by decide +kernel, rfl, by decide +kernel, by decide +kernel⟩
theorem ok_part (B : Bs mg) (c_joined : C8.Cal P w K mg base 1 "_law_joined" spJoin []) (k3_pairs : CalN P w K mg base 4 "pairs" spPairs 3 ["width"] (fun vs zs => vs ++ zs)) {f : Addr} {fd : FuncData} (F : Fun K "_law_parted_right" "_law_parted_right" s_part f fd) : FnOk P w K mg base CX0 5 f fd ["word", "wide", "first", "second", "at"] spPart := by
  refine F.ok scPt (fun vs H Q E h => ?_) (fun cdv A outer s H vs Q E hr h => ?_)
  · obtain ⟨s, w, pa, pb, a, b, k, rfl, _⟩ := h
    rfl
  · obtain ⟨s, w, pa, pb, a, b, at', rfl, hpa, hpb, w0, w1, a0, a01, a1, b0, b01, b1, k0, q⟩ := h
    have ia := InW.one a0 a01 a1
    have ib := InW.one b0 b01 b1
    refine ⟨_, (pss_cons (ps_set (i := 5) scPt.nd rfl (.inl rfl) (pe_cN k3_pairs hr (by decide) (by rfl) (pa_cons (pv 0) (pa_cons (pv 2) (pa_cons (pv 3) pa_nil))) (pk_cons (pv 1) pk_nil)))
      (pss_cons (ps_if (pt_cmpR op_lt (pv 4) (pe_ix (ixT K rfl) (pv 2) pe_int (fun _ _ => rfl)) (nomark _)) (pss_cons (ps_set (i := 6) scPt.nd rfl (.inr rfl) (pe_cN k3_pairs hr (by decide) (by rfl) (pa_cons (pv 0) (pa_cons (pe_tup (pa_cons (pe_ix (ixT K rfl) (pv 2) pe_int (fun _ _ => rfl)) (pa_cons (pv 4) pa_nil))) (pa_cons (pv 3) pa_nil))) (pk_cons (pv 1) pk_nil)))
      (pss_cons (ps_set (i := 7) scPt.nd rfl (.inr rfl) (pe_cN k3_pairs hr (by decide) (by rfl) (pa_cons (pv 0) (pa_cons (pe_tup (pa_cons (pe_op op_add (pv 4) pe_int) (pa_cons (pe_ix (ixT K rfl) (pv 2) pe_int (fun _ _ => rfl)) pa_nil))) (pa_cons (pv 3) pa_nil))) (pk_cons (pv 1) pk_nil)))
      (pss_cons (ps_if (pt_cmpR (op_neD hr.units) (pe_tupleOf (by rfl) B.tuple (pe_lc (own := [("spot", 8)]) (g := gName 8) (tt := tYes) (by rfl) scPt.nd (pi_range1 (by rfl) B.range (pa_cons pe_int pa_nil)) (blkOk_by (own := [("spot", 8)]) (N := ["word", "wide", "first", "second", "at", "whole", "low", "high", "spot"]) (sc := defScope s_part) (by decide +kernel)) (fun _ _ _ _ _ => (pg_name (i := 8) scPt.nd rfl (.inl rfl) (hf := .inr rfl))) (fun _ _ _ _ _ => pts_nil) (fun _ _ _ _ _ => (C8.pe_c c_joined hr (by decide) (by rfl) (pa_cons (pe_ix (ixT K rfl) (pv 6) (pv 8) (fun _ _ => rfl)) (pa_cons (pe_ix (ixT K rfl) (pv 7) (pv 8) (fun _ _ => rfl)) pa_nil)))))) (pv 5) (nomark _)) (pss_one (ps_ret pe_bl)) pss_nil)
      (pss_cons (ps_set (i := 6) scPt.nd rfl (.inr rfl) (pe_cN k3_pairs hr (by decide) (by rfl) (pa_cons (pv 0) (pa_cons (pv 3) (pa_cons (pe_tup (pa_cons (pe_ix (ixT K rfl) (pv 2) pe_int (fun _ _ => rfl)) (pa_cons (pv 4) pa_nil))) pa_nil))) (pk_cons (pv 1) pk_nil)))
      (pss_cons (ps_set (i := 7) scPt.nd rfl (.inr rfl) (pe_cN k3_pairs hr (by decide) (by rfl) (pa_cons (pv 0) (pa_cons (pv 3) (pa_cons (pe_tup (pa_cons (pe_op op_add (pv 4) pe_int) (pa_cons (pe_ix (ixT K rfl) (pv 2) pe_int (fun _ _ => rfl)) pa_nil))) pa_nil))) (pk_cons (pv 1) pk_nil)))
      (pss_one (ps_if (pt_cmpR (op_neD hr.units) (pe_tupleOf (by rfl) B.tuple (pe_lc (own := [("spot", 8)]) (g := gName 8) (tt := tYes) (by rfl) scPt.nd (pi_range1 (by rfl) B.range (pa_cons pe_int pa_nil)) (blkOk_by (own := [("spot", 8)]) (N := ["word", "wide", "first", "second", "at", "whole", "low", "high", "spot"]) (sc := defScope s_part) (by decide +kernel)) (fun _ _ _ _ _ => (pg_name (i := 8) scPt.nd rfl (.inl rfl) (hf := .inr rfl))) (fun _ _ _ _ _ => pts_nil) (fun _ _ _ _ _ => (C8.pe_c c_joined hr (by decide) (by rfl) (pa_cons (pe_ix (ixT K rfl) (pv 6) (pv 8) (fun _ _ => rfl)) (pa_cons (pe_ix (ixT K rfl) (pv 7) (pv 8) (fun _ _ => rfl)) pa_nil)))))) (pe_cN k3_pairs hr (by decide) (by rfl) (pa_cons (pv 0) (pa_cons (pv 3) (pa_cons (pv 2) pa_nil))) (pk_cons (pv 1) pk_nil)) (nomark _)) (pss_one (ps_ret pe_bl)) pss_nil))))))) pss_nil)
      (pss_one (ps_ret pe_bl)))), ?_⟩
    refine ⟨_, rfl, _, rfl, _, rfl, _, rfl, rfl, rfl, s, .ref pa, .ref pb, some a, some b, w, rfl, ⟨pa, rfl, hpa⟩, ⟨pb, rfl, hpb⟩, w0, w1, ia, ib, fun o vW H1 ph s1 tw => ?_⟩
    dsimp only [gName]
    have hpa1 := s1 _ _ hpa
    refine ⟨_, rfl, _, rfl, pa, _, 1, _, rfl, rfl, SqT.of hpa1, atI_nat (j := 1) rfl, _, _, rfl, rfl, _, rfl, ite2 (fun h => ?_) (fun h => q _ s1)⟩
    have k1 : at' < a.2 := of_decide_eq_true h
    obtain ⟨il, ih⟩ := InW.part a0 a1 k0 k1
    have S1 := s1
    refine ⟨_, rfl, _, rfl, pa, _, 0, _, rfl, rfl, SqT.of (S1 _ _ hpa), atI_nat (j := 0) rfl, _, rfl, (by show 2 ≤ sizeLine; decide), fun u1 n1 => ?_⟩
    have t1 := same_new (o := .tup [.int a.1, .int at']) n1
    have hu1 : (upd H1 u1 (.tup [.int a.1, .int at'])) u1 = some (.tup [.int a.1, .int at']) := upd_same
    have T1 := S1.trans t1
    refine ⟨_, rfl, _, rfl, rfl, rfl, s, .ref u1, .ref pb, some (a.1, at'), some b, w, rfl, ⟨u1, rfl, hu1⟩, ⟨pb, rfl, T1 _ _ hpb⟩, w0, w1, il, ib, fun ol vl H2 pl s2 twl => ?_⟩
    dsimp only [gName]
    have S2 := T1.trans s2
    refine ⟨_, rfl, _, rfl, _, _, rfl, rfl, _, rfl, pa, _, 1, _, rfl, rfl, SqT.of (S2 _ _ hpa), atI_nat (j := 1) rfl, (by show 2 ≤ sizeLine; decide), fun u2 n2 => ?_⟩
    have t2 := same_new (o := .tup [.int (at' + 1), .int a.2]) n2
    have hu2 : (upd H2 u2 (.tup [.int (at' + 1), .int a.2])) u2 = some (.tup [.int (at' + 1), .int a.2]) := upd_same
    have T2 := S2.trans t2
    refine ⟨_, rfl, _, rfl, rfl, rfl, s, .ref u2, .ref pb, some (at' + 1, a.2), some b, w, rfl, ⟨u2, rfl, hu2⟩, ⟨pb, rfl, T2 _ _ hpb⟩, w0, w1, ih, ib, fun oh vh H3 phh s3 twh => ?_⟩
    dsimp only [gName]
    have S3 := T2.trans s3
    have wh := PH.or (fun r l m => part_left k0 k1) pl phh
    obtain ⟨pL, l1, l2, l3, rfl, hL, eL⟩ := tri_at (twl.same (t2.trans s3))
    obtain ⟨pH, h1, h2, h3, rfl, hH, eH⟩ := tri_at twh
    refine ⟨3, rfl, by decide, by decide, fun D hD => ?_⟩
    refine lc_w (walk_range (lo := 0) (n := 3)) (fun _ => False) (fun j acc G => ∀ G' : Hp, (∀ a xs, a ≠ D → G a = some (.tup xs) → G' a = some (.tup xs)) → Paired (fun v k => St G' (jn (pk k ol) (pk k oh)) v) acc (List.range j)) id hD (by decide) (fun j acc G G' h k G2 k2 => h G2 fun b xs nb e => k2 b xs nb (k _ _ e nb)) (fun _ _ => .nil) (fun _ _ _ _ _ _ => trivial) ?_ ?_
    · rintro k acc z Ga Gb hk hb hR hA hal ⟨rfl, rfl⟩ N N0 w1' w0'
      have sy := Bt.same hb
      obtain ⟨x, ex, _, sx⟩ := eL k hk
      obtain ⟨y, ey, _, sz⟩ := eH k hk
      refine ⟨rfl, ?_⟩
      refine ⟨_, rfl, _, rfl, pL, _, _, _, rfl, rfl, SqT.of (sy _ _ hL), ex, _, rfl, _, rfl, pH, _, _, _, rfl, rfl, SqT.of (sy _ _ hH), ey, x, y, _, _, rfl, sx.same sy, sz.same sy, fun v Ge se hv => ?_⟩
      refine w1' _ _ (.of se) fun G5 k5 => ?_
      rw [List.range_succ]
      exact paired_snoc (R := fun v k => St G5 (jn (pk k ol) (pk k oh)) v) (hv.off (se _ _ hA) k5) (hR G5 fun b xs nb e => k5 b xs nb (se _ _ e))
    rintro acc Gc hc hA hal hR
    have sc := Bt.same hc
    have hP := hR Gc fun _ _ _ e => e
    match acc, hP with
    | [x1, x2, x3], .cons j1 (.cons j2 (.cons j3 .nil)) =>
    refine .inl ⟨D, [x1, x2, x3], rfl, SqL.of hA, fun u nu => ?_⟩
    have s6 := same_new (o := .tup [x1, x2, x3]) nu
    have tj : Tri (upd Gc u (.tup [x1, x2, x3])) (jn3 ol oh) (.ref u) := ⟨u, _, _, _, rfl, upd_same, j1.same s6, j2.same s6, j3.same s6⟩
    have sJ := sc.trans s6
    revert tj sJ
    generalize (upd Gc u (.tup [x1, x2, x3])) = GJ
    intro tj sJ
    clear s6 nu sc hP hR hA hal hc hD
    obtain rfl := ph.uniq wh
    have few := ph.few w1 ia ib
    have S4 := S3.trans sJ
    refine ⟨_, rfl, tiD (jn3 ol oh), tiD (jn3 ol oh), Im.dp _ _ tj.im, Im.dp _ _ (tw.same (((t1.trans s2).trans t2).trans (s3.trans sJ))).im, few.shaped, few.shaped, _, rfl, ?_⟩
    rw [same_eq few.shaped]
    refine iteF ?_
    clear tj sJ eL eH hL hH twl twh s3 t2 hu2 n2 s2 hu1 t1 n1 tw pl phh wh few ph S3 T2 S2 T1
    clear s1 hpa1 S1
    refine ⟨_, rfl, _, rfl, _, rfl, pa, _, 0, _, rfl, rfl, SqT.of (S4 _ _ hpa), atI_nat (j := 0) rfl, _, rfl, (by show 2 ≤ sizeLine; decide), fun u1 n1 => ?_⟩
    have t1 := same_new (o := .tup [.int a.1, .int at']) n1
    have hu1 : (upd GJ u1 (.tup [.int a.1, .int at'])) u1 = some (.tup [.int a.1, .int at']) := upd_same
    have T5 := S4.trans t1
    refine ⟨_, rfl, rfl, rfl, s, .ref pb, .ref u1, some b, some (a.1, at'), w, rfl, ⟨pb, rfl, T5 _ _ hpb⟩, ⟨u1, rfl, hu1⟩, w0, w1, ib, il, fun ol vl H2 pl s2 twl => ?_⟩
    dsimp only [gName]
    have S5 := T5.trans s2
    refine ⟨_, rfl, _, rfl, _, rfl, _, _, rfl, rfl, _, rfl, pa, _, 1, _, rfl, rfl, SqT.of (S5 _ _ hpa), atI_nat (j := 1) rfl, (by show 2 ≤ sizeLine; decide), fun u2 n2 => ?_⟩
    have t2 := same_new (o := .tup [.int (at' + 1), .int a.2]) n2
    have hu2 : (upd H2 u2 (.tup [.int (at' + 1), .int a.2])) u2 = some (.tup [.int (at' + 1), .int a.2]) := upd_same
    have T6 := S5.trans t2
    refine ⟨_, rfl, rfl, rfl, s, .ref pb, .ref u2, some b, some (at' + 1, a.2), w, rfl, ⟨pb, rfl, T6 _ _ hpb⟩, ⟨u2, rfl, hu2⟩, w0, w1, ib, ih, fun oh vh H3 phh s3 twh => ?_⟩
    dsimp only [gName]
    have S6 := T6.trans s3
    have wh := PH.or (fun r l m => part_right k0 k1) pl phh
    obtain ⟨pL, l1, l2, l3, rfl, hL, eL⟩ := tri_at (twl.same (t2.trans s3))
    obtain ⟨pH, h1, h2, h3, rfl, hH, eH⟩ := tri_at twh
    refine ⟨3, rfl, by decide, by decide, fun D hD => ?_⟩
    refine lc_w (walk_range (lo := 0) (n := 3)) (fun _ => False) (fun j acc G => ∀ G' : Hp, (∀ a xs, a ≠ D → G a = some (.tup xs) → G' a = some (.tup xs)) → Paired (fun v k => St G' (jn (pk k ol) (pk k oh)) v) acc (List.range j)) id hD (by decide) (fun j acc G G' h k G2 k2 => h G2 fun b xs nb e => k2 b xs nb (k _ _ e nb)) (fun _ _ => .nil) (fun _ _ _ _ _ _ => trivial) ?_ ?_
    · rintro k acc z Ga Gb hk hb hR hA hal ⟨rfl, rfl⟩ N N0 w1' w0'
      have sy := Bt.same hb
      obtain ⟨x, ex, _, sx⟩ := eL k hk
      obtain ⟨y, ey, _, sz⟩ := eH k hk
      refine ⟨rfl, ?_⟩
      refine ⟨_, rfl, _, rfl, pL, _, _, _, rfl, rfl, SqT.of (sy _ _ hL), ex, _, rfl, _, rfl, pH, _, _, _, rfl, rfl, SqT.of (sy _ _ hH), ey, x, y, _, _, rfl, sx.same sy, sz.same sy, fun v Ge se hv => ?_⟩
      refine w1' _ _ (.of se) fun G5 k5 => ?_
      rw [List.range_succ]
      exact paired_snoc (R := fun v k => St G5 (jn (pk k ol) (pk k oh)) v) (hv.off (se _ _ hA) k5) (hR G5 fun b xs nb e => k5 b xs nb (se _ _ e))
    rintro acc Gc hc hA hal hR
    have sc := Bt.same hc
    have hP := hR Gc fun _ _ _ e => e
    match acc, hP with
    | [x1, x2, x3], .cons j1 (.cons j2 (.cons j3 .nil)) =>
    refine .inl ⟨D, [x1, x2, x3], rfl, SqL.of hA, fun u nu => ?_⟩
    have s6 := same_new (o := .tup [x1, x2, x3]) nu
    have tj : Tri (upd Gc u (.tup [x1, x2, x3])) (jn3 ol oh) (.ref u) := ⟨u, _, _, _, rfl, upd_same, j1.same s6, j2.same s6, j3.same s6⟩
    have sJ := sc.trans s6
    revert tj sJ
    generalize (upd Gc u (.tup [x1, x2, x3])) = GJ
    intro tj sJ
    clear s6 nu sc hP hR hA hal hc hD
    have S7 := S6.trans sJ
    refine ⟨_, rfl, _, rfl, _, rfl, _, rfl, rfl, rfl, s, .ref pb, .ref pa, some b, some a, w, rfl, ⟨pb, rfl, S7 _ _ hpb⟩, ⟨pa, rfl, S7 _ _ hpa⟩, w0, w1, ib, ia, fun o vW H1 ph s1 tw => ?_⟩
    obtain rfl := ph.uniq wh
    have few := ph.few w1 ib ia
    refine ⟨tiD (jn3 ol oh), tiD (jn3 ol oh), Im.dp _ _ (tj.same s1).im, Im.dp _ _ tw.im, few.shaped, few.shaped, _, rfl, ?_⟩
    rw [same_eq few.shaped]
    refine iteF ?_
    exact q _ (S7.trans s1)
def spTurn : Sp := fun vs H Q _ => ∃ (w : Int) (pa pb : Addr) (a b : Int × Int), vs = [.int w, .ref pa, .ref pb] ∧ H pa = some (.tup [.int a.1, .int a.2]) ∧ H pb = some (.tup [.int b.1, .int b.2]) ∧ 1 ≤ w ∧ w ≤ 31 ∧ -w ≤ a.1 ∧ a.1 ≤ a.2 ∧ a.2 ≤ w ∧ -w ≤ b.1 ∧ b.1 ≤ b.2 ∧ b.2 ≤ w ∧ ∀ H', Same H H' → Q (.bl true) H'
theorem scTu : FnScope ["wide", "first", "second", "back", "far", "plus", "times", "over", "rest", "span"] ["wide", "first", "second"] (defScope s_turn) := ⟨rfl, rfl, rfl, by decide +kernel, rfl, by decide +kernel, by decide +kernel⟩
theorem ok_turn (B : Bs mg) (c_over_nought : C8.Cal P w K mg base 1 "_law_over_nought" spOn []) (k3_pairs : CalN P w K mg base 4 "pairs" spPairs 3 ["width"] (fun vs zs => vs ++ zs)) {f : Addr} {fd : FuncData} (F : Fun K "_law_turned_right" "_law_turned_right" s_turn f fd) : FnOk P w K mg base CX0 5 f fd ["wide", "first", "second"] spTurn := by
  refine F.ok scTu (fun vs H Q E h => ?_) (fun cdv A outer s H vs Q E hr h => ?_)
  · obtain ⟨w, pa, pb, a, b, rfl, _⟩ := h
    rfl
  · obtain ⟨w, pa, pb, a, b, rfl, hpa, hpb, w0, w1, a0, a01, a1, b0, b01, b1, q⟩ := h
    have ia := InW.one a0 a01 a1
    have ib := InW.one b0 b01 b1
    have ia' := InW.turned a0 a01 a1
    have ib' := InW.turned b0 b01 b1
    refine ⟨_, (pss_cons (ps_par (i := 3) (j := 4) rfl scTu.nd rfl rfl (by decide) rfl rfl (pa_cons (C8.pe_c c_over_nought hr (by decide) (by rfl) (pa_cons (pv 1) pa_nil)) (pa_cons (C8.pe_c c_over_nought hr (by decide) (by rfl) (pa_cons (pv 2) pa_nil)) pa_nil)) (by rfl))
      (pss_cons (ps_set (i := 5) scTu.nd rfl (.inl rfl) (pe_cN k3_pairs hr (by decide) (by rfl) (pa_cons pe_str (pa_cons (pv 1) (pa_cons (pv 2) pa_nil))) (pk_cons (pv 0) pk_nil)))
      (pss_cons (ps_if (pt_cmpR (op_neD hr.units) (pe_cN k3_pairs hr (by decide) (by rfl) (pa_cons pe_str (pa_cons (pv 2) (pa_cons (pv 1) pa_nil))) (pk_cons (pv 0) pk_nil)) (pe_tup (pa_cons (pe_ix (ixT K rfl) (pv 5) pe_int (fun _ _ => rfl)) (pa_cons (pe_ix (ixT K rfl) (pv 5) pe_int (fun _ _ => rfl)) (pa_cons (pe_ix (ixT K rfl) (pv 5) pe_int (fun _ _ => rfl)) pa_nil)))) (nomark _)) (pss_one (ps_ret pe_bl)) pss_nil)
      (pss_cons (ps_if (pt_cmpR (op_neD hr.units) (pe_cN k3_pairs hr (by decide) (by rfl) (pa_cons pe_str (pa_cons (pv 1) (pa_cons (pv 4) pa_nil))) (pk_cons (pv 0) pk_nil)) (pe_op op_catA (pe_slice sl_tupA (pv 5) po_none (po_some pe_int)) (pe_tup (pa_cons (C8.pe_c c_over_nought hr (by decide) (by rfl) (pa_cons (pe_ix (ixT K rfl) (pv 5) pe_int (fun _ _ => rfl)) pa_nil)) pa_nil))) (nomark _)) (pss_one (ps_ret pe_bl)) pss_nil)
      (pss_cons (ps_set (i := 6) scTu.nd rfl (.inl rfl) (pe_cN k3_pairs hr (by decide) (by rfl) (pa_cons pe_str (pa_cons (pv 1) (pa_cons (pv 2) pa_nil))) (pk_cons (pv 0) pk_nil)))
      (pss_cons (ps_if (pt_cmpR (op_neD hr.units) (pe_cN k3_pairs hr (by decide) (by rfl) (pa_cons pe_str (pa_cons (pv 2) (pa_cons (pv 1) pa_nil))) (pk_cons (pv 0) pk_nil)) (pe_tup (pa_cons (pe_ix (ixT K rfl) (pv 6) pe_int (fun _ _ => rfl)) (pa_cons (pe_ix (ixT K rfl) (pv 6) pe_int (fun _ _ => rfl)) (pa_cons (pe_ix (ixT K rfl) (pv 6) pe_int (fun _ _ => rfl)) pa_nil)))) (nomark _)) (pss_one (ps_ret pe_bl)) pss_nil)
      (pss_cons (ps_if (pt_cmpR (op_neD hr.units) (pe_cN k3_pairs hr (by decide) (by rfl) (pa_cons pe_str (pa_cons (pv 3) (pa_cons (pv 2) pa_nil))) (pk_cons (pv 0) pk_nil)) (pe_tup (pa_cons (C8.pe_c c_over_nought hr (by decide) (by rfl) (pa_cons (pe_ix (ixT K rfl) (pv 6) pe_int (fun _ _ => rfl)) pa_nil)) (pa_cons (C8.pe_c c_over_nought hr (by decide) (by rfl) (pa_cons (pe_ix (ixT K rfl) (pv 6) pe_int (fun _ _ => rfl)) pa_nil)) (pa_cons (pe_ix (ixT K rfl) (pv 6) pe_int (fun _ _ => rfl)) pa_nil)))) (nomark _)) (pss_one (ps_ret pe_bl)) pss_nil)
      (pss_cons (ps_set (i := 7) scTu.nd rfl (.inl rfl) (pe_cN k3_pairs hr (by decide) (by rfl) (pa_cons pe_str (pa_cons (pv 1) (pa_cons (pv 2) pa_nil))) (pk_cons (pv 0) pk_nil)))
      (pss_cons (ps_if (pt_cmpR (op_neD hr.units) (pe_cN k3_pairs hr (by decide) (by rfl) (pa_cons pe_str (pa_cons (pv 3) (pa_cons (pv 4) pa_nil))) (pk_cons (pv 0) pk_nil)) (pe_tup (pa_cons (pe_ix (ixT K rfl) (pv 7) pe_int (fun _ _ => rfl)) (pa_cons (C8.pe_c c_over_nought hr (by decide) (by rfl) (pa_cons (pe_ix (ixT K rfl) (pv 7) pe_int (fun _ _ => rfl)) pa_nil)) (pa_cons (C8.pe_c c_over_nought hr (by decide) (by rfl) (pa_cons (pe_ix (ixT K rfl) (pv 7) pe_int (fun _ _ => rfl)) pa_nil)) pa_nil)))) (nomark _)) (pss_one (ps_ret pe_bl)) pss_nil)
      (pss_cons (ps_set (i := 8) scTu.nd rfl (.inl rfl) (pe_cN k3_pairs hr (by decide) (by rfl) (pa_cons pe_str (pa_cons (pv 1) (pa_cons (pv 2) pa_nil))) (pk_cons (pv 0) pk_nil)))
      (pss_one (ps_ret (pe_cmpR (op_eqD hr.units) (pe_cN k3_pairs hr (by decide) (by rfl) (pa_cons pe_str (pa_cons (pv 3) (pa_cons (pv 4) pa_nil))) (pk_cons (pv 0) pk_nil)) (pe_tupleOf (by rfl) B.tuple (pe_lc (own := [("span", 9)]) (g := gName 9) (tt := tYes) (by rfl) scTu.nd (pi_tup (pv 8)) (blkOk_by (own := [("span", 9)]) (N := ["wide", "first", "second", "back", "far", "plus", "times", "over", "rest", "span"]) (sc := defScope s_turn) (by decide +kernel)) (fun _ _ _ _ _ => (pg_name (i := 9) scTu.nd rfl (.inl rfl) (hf := .inr rfl))) (fun _ _ _ _ _ => pts_nil) (fun _ _ _ _ _ => (C8.pe_c c_over_nought hr (by decide) (by rfl) (pa_cons (pv 9) pa_nil))))) (nomark _)))))))))))))), ?_⟩
    -- back, far
    refine ⟨_, rfl, .ref pa, some a, rfl, ⟨pa, rfl, hpa⟩, fun va H1 s1 hva => ?_⟩
    refine ⟨_, rfl, .ref pb, some b, rfl, ⟨pb, rfl, s1 _ _ hpb⟩, fun vb H2 s2 hvb => ?_⟩
    refine ⟨_, _, rfl, ?_⟩
    have S := s1.trans s2
    have A2 : St H2 (some a) (.ref pa) := ⟨pa, rfl, S _ _ hpa⟩
    have B2 : St H2 (some b) (.ref pb) := ⟨pb, rfl, S _ _ hpb⟩
    have hva2 : St H2 (some (trn a)) va := hva.same s2
    have hvb2 : St H2 (some (trn b)) vb := hvb
    clear hva hvb s1 s2
    -- plus
    refine ⟨_, rfl, _, rfl, _, rfl, rfl, rfl, .plus, .ref pa, .ref pb, some a, some b, w, rfl, A2, B2, w0, w1, ia, ib, fun p vp H3 php s3 twp => ?_⟩
    dsimp only [gName]
    refine ⟨_, rfl, _, rfl, _, rfl, rfl, rfl, .plus, .ref pb, .ref pa, some b, some a, w, rfl, B2.same s3, A2.same s3, w0, w1, ib, ia, fun o1 v1 H4 ph1 s4 tw1 => ?_⟩
    obtain rfl := ph1.uniq (php.swap fun _ _ _ => plus_comm)
    obtain ⟨pp, p1, p2, p3, rfl, hpp, j1, j2, j3⟩ := twp.same s4
    refine ⟨_, rfl, pp, _, 0, _, rfl, rfl, SqT.of hpp, atI_nat (j := 0) rfl, _, rfl, pp, _, 2, _, rfl, rfl, SqT.of hpp, atI_nat (j := 2) rfl, _, rfl, pp, _, 1, _, rfl, rfl, SqT.of hpp, atI_nat (j := 1) rfl, (by show 3 ≤ sizeLine; decide), fun u nu => ?_⟩
    have t1 := same_new (o := .tup [p1, p3, p2]) nu
    have few := ph1.few w1 ib ia
    have T : Tri (upd H4 u (.tup [p1, p3, p2])) (p.1, p.2.2, p.2.1) (.ref u) := ⟨u, _, _, _, rfl, upd_same, j1.same t1, j3.same t1, j2.same t1⟩
    refine ⟨tiD (p.1, p.2.2, p.2.1), tiD (p.1, p.2.2, p.2.1), Im.dp _ _ (tw1.same t1).im, Im.dp _ _ T.im, few.shaped, few.shaped, _, rfl, ?_⟩
    rw [same_eq few.shaped]
    refine iteF ?_
    have S5 := s4.trans t1
    have A5 := (A2.same s3).same S5
    have B5 := (B2.same s3).same S5
    have va5 := (hva2.same s3).same S5
    have vb5 := (hvb2.same s3).same S5
    have hpp5 := t1 _ _ hpp
    have i1 := j1.same t1
    have i2 := j2.same t1
    have i3 := j3.same t1
    have SS := (S.trans s3).trans S5
    revert A5 B5 va5 vb5 hpp5 i1 i2 i3 SS
    generalize (upd H4 u (.tup [p1, p3, p2])) = H5
    intro A5 B5 va5 vb5 hpp5 i1 i2 i3 SS
    clear T S5 t1 nu tw1 j1 j2 j3 hpp s4 s3 twp A2 B2 hva2 hvb2 S few ph1
    -- minus of the far one
    refine ⟨_, rfl, _, rfl, _, rfl, rfl, rfl, .minus, .ref pa, vb, some a, some (trn b), w, rfl, A5, vb5, w0, w1, ia, ib', fun o2 v2 H6 ph2 s6 tw2 => ?_⟩
    obtain rfl := ph2.uniq php.far
    have few := ph2.few w1 ia ib'
    refine ⟨_, rfl, _, rfl, slA_of (s6 _ _ hpp5) (ys := [p1, p2]) rfl fun k1 H7 t7 hk1 => ?_⟩
    have s7 := s6.trans t7
    refine ⟨_, rfl, pp, _, 2, _, rfl, rfl, SqT.of (s7 _ _ hpp5), atI_nat (j := 2) rfl, p3, _, rfl, i3.same s7, fun v3 H8 t8 hv3 => ?_⟩
    refine ⟨(by show 1 ≤ sizeLine; decide), fun u nu => ?_⟩
    have t9 := same_new (o := .tup [v3]) nu
    refine catA_of (t9 _ _ (t8 _ _ hk1)) upd_same (by show 3 ≤ sizeLine; decide) fun k2 H9 t10 hk2 => ?_
    have s9 := (t8.trans t9).trans t10
    have T : Tri H9 (p.1, p.2.1, p.2.2.map trn) (.ref k2) := ⟨k2, p1, p2, v3, rfl, hk2, (i1.same s7).same s9, (i2.same s7).same s9, (hv3.same t9).same t10⟩
    refine ⟨tiD (p.1, p.2.1, p.2.2.map trn), tiD (p.1, p.2.1, p.2.2.map trn), Im.dp _ _ (tw2.same (t7.trans s9)).im, Im.dp _ _ T.im, few.shaped, few.shaped, _, rfl, ?_⟩
    rw [same_eq few.shaped]
    refine iteF ?_
    have A9 := (A5.same s7).same s9
    have B9 := (B5.same s7).same s9
    have va9 := (va5.same s7).same s9
    have vb9 := (vb5.same s7).same s9
    have S9 := SS.trans (s7.trans s9)
    clear T few tw2 ph2 s6 t7 s7 t8 t9 t10 s9 hk1 hk2 hv3 nu i1 i2 i3 hpp5 A5 B5 va5 vb5 SS php
    -- times
    refine ⟨_, rfl, _, rfl, _, rfl, rfl, rfl, .times, .ref pa, .ref pb, some a, some b, w, rfl, A9, B9, w0, w1, ia, ib, fun t vt H3 pht s3 twt => ?_⟩
    dsimp only [gName]
    refine ⟨_, rfl, _, rfl, _, rfl, rfl, rfl, .times, .ref pb, .ref pa, some b, some a, w, rfl, B9.same s3, A9.same s3, w0, w1, ib, ia, fun o1 v1 H4 ph1 s4 tw1 => ?_⟩
    obtain rfl := ph1.uniq (pht.swap fun _ _ _ => times_comm)
    obtain ⟨pq, p1, p2, p3, rfl, hpp, j1, j2, j3⟩ := twt.same s4
    refine ⟨_, rfl, pq, _, 0, _, rfl, rfl, SqT.of hpp, atI_nat (j := 0) rfl, _, rfl, pq, _, 2, _, rfl, rfl, SqT.of hpp, atI_nat (j := 2) rfl, _, rfl, pq, _, 1, _, rfl, rfl, SqT.of hpp, atI_nat (j := 1) rfl, (by show 3 ≤ sizeLine; decide), fun u nu => ?_⟩
    have t1 := same_new (o := .tup [p1, p3, p2]) nu
    have few := ph1.few w1 ib ia
    have T : Tri (upd H4 u (.tup [p1, p3, p2])) (t.1, t.2.2, t.2.1) (.ref u) := ⟨u, _, _, _, rfl, upd_same, j1.same t1, j3.same t1, j2.same t1⟩
    refine ⟨tiD (t.1, t.2.2, t.2.1), tiD (t.1, t.2.2, t.2.1), Im.dp _ _ (tw1.same t1).im, Im.dp _ _ T.im, few.shaped, few.shaped, _, rfl, ?_⟩
    rw [same_eq few.shaped]
    refine iteF ?_
    have S5 := s4.trans t1
    have A5 := (A9.same s3).same S5
    have B5 := (B9.same s3).same S5
    have va5 := (va9.same s3).same S5
    have vb5 := (vb9.same s3).same S5
    have hpp5 := t1 _ _ hpp
    have i1 := j1.same t1
    have i2 := j2.same t1
    have i3 := j3.same t1
    have SS := (S9.trans s3).trans S5
    revert A5 B5 va5 vb5 hpp5 i1 i2 i3 SS
    generalize (upd H4 u (.tup [p1, p3, p2])) = H5
    intro A5 B5 va5 vb5 hpp5 i1 i2 i3 SS
    clear T S5 t1 nu tw1 j1 j2 j3 hpp s4 s3 twt A9 B9 va9 vb9 S9 few ph1
    -- times of one turned
    refine ⟨_, rfl, _, rfl, _, rfl, rfl, rfl, .times, va, .ref pb, some (trn a), some b, w, rfl, va5, B5, w0, w1, ia', ib, fun o2 v2 H6 ph2 s6 tw2 => ?_⟩
    obtain rfl := ph2.uniq pht.back
    have few := ph2.few w1 ia' ib
    refine ⟨_, rfl, pq, _, 0, _, rfl, rfl, SqT.of (s6 _ _ hpp5), atI_nat (j := 0) rfl, p1, _, rfl, i1.same s6, fun x1 H7 t7 hx1 => ?_⟩
    have s7 := s6.trans t7
    refine ⟨_, rfl, pq, _, 1, _, rfl, rfl, SqT.of (s7 _ _ hpp5), atI_nat (j := 1) rfl, p2, _, rfl, i2.same s7, fun x2 H8 t8 hx2 => ?_⟩
    have s8 := s7.trans t8
    refine ⟨_, rfl, pq, _, 2, _, rfl, rfl, SqT.of (s8 _ _ hpp5), atI_nat (j := 2) rfl, (by show 3 ≤ sizeLine; decide), fun u nu => ?_⟩
    have t9 := same_new (o := .tup [x1, x2, p3]) nu
    have T : Tri (upd H8 u (.tup [x1, x2, p3])) (t.1.map trn, t.2.1.map trn, t.2.2) (.ref u) := ⟨u, _, _, _, rfl, upd_same, (hx1.same t8).same t9, hx2.same t9, (i3.same s8).same t9⟩
    refine ⟨tiD (t.1.map trn, t.2.1.map trn, t.2.2), tiD (t.1.map trn, t.2.1.map trn, t.2.2), Im.dp _ _ (tw2.same ((t7.trans t8).trans t9)).im, Im.dp _ _ T.im, few.shaped, few.shaped, _, rfl, ?_⟩
    rw [same_eq few.shaped]
    refine iteF ?_
    have s9 := s8.trans t9
    have A9 := A5.same s9
    have B9 := B5.same s9
    have va9 := va5.same s9
    have vb9 := vb5.same s9
    have S9 := SS.trans s9
    revert A9 B9 va9 vb9 S9
    generalize (upd H8 u (.tup [x1, x2, p3])) = H9
    intro A9 B9 va9 vb9 S9
    clear T few tw2 ph2 s6 t7 s7 t8 s8 t9 s9 hx1 hx2 nu i1 i2 i3 hpp5 A5 B5 va5 vb5 SS pht
    -- over
    refine ⟨_, rfl, _, rfl, _, rfl, rfl, rfl, .over, .ref pa, .ref pb, some a, some b, w, rfl, A9, B9, w0, w1, ia, ib, fun v vv H3 phv s3 twv => ?_⟩
    dsimp only [gName]
    refine ⟨_, rfl, _, rfl, _, rfl, rfl, rfl, .over, va, vb, some (trn a), some (trn b), w, rfl, va9.same s3, vb9.same s3, w0, w1, ia', ib', fun o2 v2 H6 ph2 s6 tw2 => ?_⟩
    obtain rfl := ph2.uniq phv.over
    have few := ph2.few w1 ia' ib'
    obtain ⟨pq, p1, p2, p3, rfl, hpp, j1, j2, j3⟩ := twv.same s6
    refine ⟨_, rfl, pq, _, 0, _, rfl, rfl, SqT.of hpp, atI_nat (j := 0) rfl, ?_⟩
    refine ⟨_, rfl, pq, _, 1, _, rfl, rfl, SqT.of hpp, atI_nat (j := 1) rfl, p2, _, rfl, j2, fun x1 H7 t7 hx1 => ?_⟩
    refine ⟨_, rfl, pq, _, 2, _, rfl, rfl, SqT.of (t7 _ _ hpp), atI_nat (j := 2) rfl, p3, _, rfl, j3.same t7, fun x2 H8 t8 hx2 => ?_⟩
    have s8 := t7.trans t8
    refine ⟨(by show 3 ≤ sizeLine; decide), fun u nu => ?_⟩
    have t9 := same_new (o := .tup [p1, x1, x2]) nu
    have T : Tri (upd H8 u (.tup [p1, x1, x2])) (v.1, v.2.1.map trn, v.2.2.map trn) (.ref u) := ⟨u, _, _, _, rfl, upd_same, (j1.same s8).same t9, (hx1.same t8).same t9, hx2.same t9⟩
    refine ⟨tiD (v.1, v.2.1.map trn, v.2.2.map trn), tiD (v.1, v.2.1.map trn, v.2.2.map trn), Im.dp _ _ (tw2.same (s8.trans t9)).im, Im.dp _ _ T.im, few.shaped, few.shaped, _, rfl, ?_⟩
    rw [same_eq few.shaped]
    refine iteF ?_
    have s9 := (s3.trans s6).trans (s8.trans t9)
    have A5 := A9.same s9
    have B5 := B9.same s9
    have va5 := va9.same s9
    have vb5 := vb9.same s9
    have SS := S9.trans s9
    revert A5 B5 va5 vb5 SS
    generalize (upd H8 u (.tup [p1, x1, x2])) = H5
    intro A5 B5 va5 vb5 SS
    clear T few tw2 ph2 s6 t7 t8 s8 t9 s9 hx1 hx2 nu j1 j2 j3 hpp A9 B9 va9 vb9 S9 phv twv s3
    -- rest
    refine ⟨_, rfl, _, rfl, _, rfl, rfl, rfl, .rest, .ref pa, .ref pb, some a, some b, w, rfl, A5, B5, w0, w1, ia, ib, fun v vv H3 phv s3 twv => ?_⟩
    dsimp only [gName]
    refine ⟨_, rfl, _, rfl, _, rfl, rfl, rfl, .rest, va, vb, some (trn a), some (trn b), w, rfl, va5.same s3, vb5.same s3, w0, w1, ia', ib', fun o2 v2 H6 ph2 s6 tw2 => ?_⟩
    obtain rfl := ph2.uniq phv.rest
    have few := ph2.few w1 ia' ib'
    obtain ⟨pq, y1, y2, y3, rfl, hpp, ey⟩ := tri_at (twv.same s6)
    refine ⟨_, rfl, pq, rfl, ⟨_, SqT.of hpp⟩, fun D hD => ?_⟩
    refine lc_w (walk_tup (K := K) (a := pq) (xs := [y1, y2, y3])) (fun _ => False) (fun j acc G => ∀ G' : Hp, (∀ a xs, a ≠ D → G a = some (.tup xs) → G' a = some (.tup xs)) → Paired (fun x k => St G' ((pk k v).map trn) x) acc (List.range j)) id hD (by show 3 < sizeLine; decide) (fun j acc G G' h k G2 k2 => h G2 fun b xs nb e => k2 b xs nb (k _ _ e nb)) (fun _ _ => .nil) (fun j acc G _ b _ => SqT.of ((Bt.same b) _ _ hpp)) ?_ ?_
    · rintro k acc z Ga Gb hk hb hR hA hal ⟨rfl, hz⟩ N N0 w1' w0'
      have sy := Bt.same hb
      obtain ⟨x, _, ex, sx⟩ := ey k hk
      rw [hz] at ex
      obtain rfl := Option.some.inj ex
      refine ⟨rfl, ?_⟩
      refine ⟨_, rfl, z, _, rfl, sx.same sy, fun x Ge se hv => ?_⟩
      refine w1' _ _ (.of se) fun G5 k5 => ?_
      rw [List.range_succ]
      exact paired_snoc (R := fun x k => St G5 ((pk k v).map trn) x) (hv.off (se _ _ hA) k5) (hR G5 fun b xs nb e => k5 b xs nb (se _ _ e))
    rintro acc Gc hc hA hal hR
    have sc := Bt.same hc
    have hP := hR Gc fun _ _ _ e => e
    match acc, hP with
    | [x1, x2, x3], .cons j1 (.cons j2 (.cons j3 .nil)) =>
    refine .inl ⟨D, [x1, x2, x3], rfl, SqL.of hA, fun u nu => ?_⟩
    have t9 := same_new (o := .tup [x1, x2, x3]) nu
    have T : Tri (upd Gc u (.tup [x1, x2, x3])) (v.1.map trn, v.2.1.map trn, v.2.2.map trn) (.ref u) := ⟨u, _, _, _, rfl, upd_same, j1.same t9, j2.same t9, j3.same t9⟩
    refine ⟨tiD (v.1.map trn, v.2.1.map trn, v.2.2.map trn), tiD (v.1.map trn, v.2.1.map trn, v.2.2.map trn), Im.dp _ _ (tw2.same (sc.trans t9)).im, Im.dp _ _ T.im, few.shaped, few.shaped, ?_⟩
    rw [PySem.SeqAt.eqv_refl _ (PySem.SeqAt.canLay_of_shaped few.shaped)]
    exact q _ (SS.trans ((s3.trans s6).trans (sc.trans t9)))
def spWide : Sp := fun vs H Q _ => ∃ (s : Sg) (w : Int) (pa pb : Addr) (a b : Int × Int), vs = [.str s.str, .int w, .ref pa, .ref pb] ∧ H pa = some (.tup [.int a.1, .int a.2]) ∧ H pb = some (.tup [.int b.1, .int b.2]) ∧ 1 ≤ w ∧ w ≤ 28 ∧ -w ≤ a.1 ∧ a.1 ≤ a.2 ∧ a.2 ≤ w ∧ -w ≤ b.1 ∧ b.1 ≤ b.2 ∧ b.2 ≤ w ∧ ∀ H', Same H H' → Q (.bl true) H'
theorem scWd : FnScope ["word", "wide", "first", "second", "some", "more", "spot"] ["word", "wide", "first", "second"] (defScope s_wide) := ⟨rfl, rfl, rfl, by decide +kernel, rfl, by decide +kernel, by decide +kernel⟩
theorem stD_shaped {o : Option (Int × Int)} : PySem.SeqAt.shaped (stD o) = true := by
  cases o <;> rfl
theorem ok_wide (B : Bs mg) (c_joined : C8.Cal P w K mg base 1 "_law_joined" spJoin []) (k3_pairs : CalN P w K mg base 4 "pairs" spPairs 3 ["width"] (fun vs zs => vs ++ zs)) {f : Addr} {fd : FuncData} (F : Fun K "_law_wider_right" "_law_wider_right" s_wide f fd) : FnOk P w K mg base CX0 5 f fd ["word", "wide", "first", "second"] spWide := by
  refine F.ok scWd (fun vs H Q E h => ?_) (fun cdv A outer s H vs Q E hr h => ?_)
  · obtain ⟨s, w, pa, pb, a, b, rfl, _⟩ := h
    rfl
  · obtain ⟨s, w, pa, pb, a, b, rfl, hpa, hpb, w0, w1, a0, a01, a1, b0, b01, b1, q⟩ := h
    refine ⟨_, (pss_cons (ps_set (i := 4) scWd.nd rfl (.inl rfl) (pe_cN k3_pairs hr (by decide) (by rfl) (pa_cons (pv 0) (pa_cons (pv 2) (pa_cons (pv 3) pa_nil))) (pk_cons (pv 1) pk_nil)))
      (pss_cons (ps_set (i := 5) scWd.nd rfl (.inl rfl) (pe_cN k3_pairs hr (by decide) (by rfl) (pa_cons (pv 0) (pa_cons (pv 2) (pa_cons (pv 3) pa_nil))) (pk_cons (pe_op op_add (pv 1) pe_int) pk_nil)))
      (pss_cons (ps_for PassesOwn.never rfl (pi_range1 (by rfl) B.range (pa_cons pe_int pa_nil)) (pg_name (i := 6) scWd.nd rfl (.inl rfl))
      (pss_one (ps_if (PW.pt (pw_and (pt_cmpR op_notN (pe_ix (ixT K rfl) (pv 4) (pv 6) (fun _ _ => rfl)) pe_non (nomark _)) (pw_and1 (pt_cmpR (op_neD hr.units) (C8.pe_c c_joined hr (by decide) (by rfl) (pa_cons (pe_ix (ixT K rfl) (pv 4) (pv 6) (fun _ _ => rfl)) (pa_cons (pe_ix (ixT K rfl) (pv 5) (pv 6) (fun _ _ => rfl)) pa_nil))) (pe_ix (ixT K rfl) (pv 5) (pv 6) (fun _ _ => rfl)) (nomark _))))) (pss_one (ps_ret pe_bl)) pss_nil)))
      (pss_one (ps_ret pe_bl))))), ?_⟩
    refine ⟨_, rfl, _, rfl, _, rfl, _, rfl, rfl, rfl, s, .ref pa, .ref pb, some a, some b, w, rfl, ⟨pa, rfl, hpa⟩, ⟨pb, rfl, hpb⟩, w0, by omega, InW.one a0 a01 a1, InW.one b0 b01 b1, fun o vo H1 ph s1 tw => ?_⟩
    dsimp only [gName]
    refine ⟨_, rfl, _, rfl, _, rfl, _, rfl, _, _, rfl, rfl, rfl, rfl, s, .ref pa, .ref pb, some a, some b, w + 3, rfl, ⟨pa, rfl, s1 _ _ hpa⟩, ⟨pb, rfl, s1 _ _ hpb⟩, by omega, by omega, InW.one (by omega) a01 (by omega), InW.one (by omega) b01 (by omega), fun u vu H2 ph2 s2 tw2 => ?_⟩
    dsimp only [gName]
    have eJ := ph.wide ph2
    obtain ⟨p1, x1, x2, x3, rfl, hp1, e1⟩ := tri_at (tw.same s2)
    obtain ⟨p2, y1, y2, y3, rfl, hp2, e2⟩ := tri_at tw2
    have S2 := s1.trans s2
    refine ⟨3, rfl, by decide, by decide, for_range (lo := 0) (n := 3) (fun j σ G => ∃ z : Option V, σ = [some (.str s.str), some (.int w), some (.ref pa), some (.ref pb), some (.ref p1), some (.ref p2), z] ∧ Same H2 G) ⟨_, rfl, fun _ _ h => h⟩ ?_ (fun σ G ⟨_, _, sG⟩ => q _ (S2.trans sG))⟩
    rintro k σ G hk ⟨z, rfl, sG⟩
    obtain ⟨x, ex, _, sx⟩ := e1 k hk
    obtain ⟨y, ey, _, sy⟩ := e2 k hk
    have ek : jn (pk k o) (pk k u) = pk k u := by
      match k, hk with
      | 0, _ => exact eJ.1
      | 1, _ => exact eJ.2.1
      | 2, _ => exact eJ.2.2
    refine ⟨_, rfl, _, rfl, p1, _, _, _, rfl, rfl, SqT.of (sG _ _ hp1), ex, rfl, _, rfl, ?_⟩
    by_cases xn : x = .non
    · refine ite2 (fun h => absurd h (by rw [decide_eq_true xn]; decide)) (fun _ => ?_)
      exact iteF ⟨_, rfl, sG⟩
    · refine ite2 (fun _ => ?_) (fun h => absurd (by rw [decide_eq_false xn]; rfl) h)
      refine ⟨_, rfl, _, rfl, p1, _, _, _, rfl, rfl, SqT.of (sG _ _ hp1), ex, _, rfl, _, rfl, p2, _, _, _, rfl, rfl, SqT.of (sG _ _ hp2), ey, x, y, _, _, rfl, sx.same sG, sy.same sG, fun v G2 t2 hv => ?_⟩
      have sG2 := sG.trans t2
      rw [ek] at hv
      refine ⟨_, rfl, _, rfl, p2, _, _, _, rfl, rfl, SqT.of (sG2 _ _ hp2), ey, stD (pk k u), stD (pk k u), Im.dp _ _ hv.im, Im.dp _ _ (sy.same sG2).im, stD_shaped, stD_shaped, _, rfl, ?_⟩
      rw [same_eq stD_shaped]
      exact iteF ⟨_, rfl, sG2⟩
end
end K

set_option maxRecDepth 100000
set_option maxHeartbeats 3900000
namespace K
open PySem PySem.Spec PyProof.Rows L2
/-! ### the law -/
section
variable {P : Program} {w : World} {K : PySem.W.Frag} {mg : Str → Option Value} {base : Heap}
abbrev s_law : Stmt := topS 25
def spLaw (K : PySem.W.Frag) : Sp := fun vs H Q _ => ∃ (a : Addr) (ns : List Int), vs = [.ref a] ∧ SqL K H a (ns.map V.int) ∧ ns.length ≤ 63 ∧ ∀ H', Q (.bl true) H'
theorem scLw : FnScope ["script", "k", "tape", "turn", "wide", "first", "second", "word", "at"] ["script"] (defScope s_law) := ⟨rfl, rfl, rfl, by decide +kernel, rfl, by decide +kernel, by decide +kernel⟩
theorem ok_law (B : Bs mg) (c_tape : C8.Cal P w K mg base 1 "_law_tape" (spTape K) []) (c_draw : C8.Cal P w K mg base 1 "_law_draw" spDraw []) (c_pick : C8.Cal P w K mg base 2 "_law_pick" (spPick K) []) (c_span : C8.Cal P w K mg base 4 "_law_span" spSpan [])
    (c_parted_right : C8.Cal P w K mg base 5 "_law_parted_right" spPart []) (c_turned_right : C8.Cal P w K mg base 5 "_law_turned_right" spTurn []) (c_wider_right : C8.Cal P w K mg base 5 "_law_wider_right" spWide [])
    {f : Addr} {fd : FuncData} (F : Fun K "law" "law" s_law f fd) : FnG P w K mg base CX0 6 f fd ["script"] (spLaw K) := by
  refine F.okG scLw (fun vs H Q E h => ?_) (fun cdv A outer s H vs Q E hg hr h => ?_)
  · obtain ⟨a, ns, rfl, _⟩ := h
    rfl
  · obtain ⟨a, ns, rfl, hS, hl, q⟩ := h
    refine ⟨_, (pss_cons (ps_for PassesOwn.never rfl (pi_range1 (by rfl) B.range (pa_cons (pe_callB (call_max2 rfl) (by rfl) B.max PyProof.Rows.boot_max (pa_cons pe_int (pa_cons (pe_callB (call_min2 rfl) (by rfl) B.min PyProof.Rows.boot_min (pa_cons pe_int (pa_cons (pe_callB call_len_seq (by rfl) B.len PySem.boot_len (pa_cons (pv 0) pa_nil)) pa_nil))) pa_nil))) pa_nil)) (pg_name (i := 1) scLw.nd rfl (.inl rfl))
      (pss_cons (ps_set (i := 2) scLw.nd rfl (.inl rfl) (C8.pe_c c_tape hr (by decide) (by rfl) (pa_cons (pv 0) (pa_cons (pv 1) pa_nil))))
      (pss_one (ps_for PassesOwn.never rfl (pi_range1 (by rfl) B.range (pa_cons pe_int pa_nil)) (pg_name (i := 3) scLw.nd rfl (.inl rfl))
      (pss_cons (ps_set (i := 4) scLw.nd rfl (.inl rfl) (C8.pe_c c_pick hr (by decide) (by rfl) (pa_cons (pv 2) (pa_cons (pe_lst (pa_cons pe_int (pa_cons pe_int (pa_cons pe_int (pa_cons pe_int (pa_cons pe_int pa_nil)))))) pa_nil))))
      (pss_cons (ps_par (i := 5) (j := 6) rfl scLw.nd rfl rfl (by decide) rfl rfl (pa_cons (C8.pe_c c_span hr (by decide) (by rfl) (pa_cons (pv 2) (pa_cons (pv 4) pa_nil))) (pa_cons (C8.pe_c c_span hr (by decide) (by rfl) (pa_cons (pv 2) (pa_cons (pv 4) pa_nil))) pa_nil)) (by rfl))
      (pss_cons (ps_set (i := 7) scLw.nd rfl (.inl rfl) (C8.pe_c c_pick hr (by decide) (by rfl) (pa_cons (pv 2) (pa_cons (pe_lst (pa_cons pe_str (pa_cons pe_str (pa_cons pe_str (pa_cons pe_str (pa_cons pe_str pa_nil)))))) pa_nil))))
      (pss_cons (ps_set (i := 8) scLw.nd rfl (.inl rfl) (pe_op op_add (pe_ix (ixT K rfl) (pv 5) pe_int (fun _ _ => rfl)) (C8.pe_c c_draw hr (by decide) (by rfl) (pa_cons (pv 2) (pa_cons (pe_op op_add (pe_op op_sub (pe_ix (ixT K rfl) (pv 5) pe_int (fun _ _ => rfl)) (pe_ix (ixT K rfl) (pv 5) pe_int (fun _ _ => rfl))) pe_int) pa_nil)))))
      (pss_cons (ps_if (PW.pt (pw_or (pt_not (pt_val (C8.pe_c c_parted_right hr (by decide) (by rfl) (pa_cons (pv 7) (pa_cons (pv 4) (pa_cons (pv 5) (pa_cons (pv 6) (pa_cons (pv 8) pa_nil)))))))) (pw_or1 (pt_not (pt_val (C8.pe_c c_turned_right hr (by decide) (by rfl) (pa_cons (pv 4) (pa_cons (pv 5) (pa_cons (pv 6) pa_nil))))))))) (pss_one (ps_ret pe_bl)) pss_nil)
      (pss_one (ps_if (pt_not (pt_val (C8.pe_c c_wider_right hr (by decide) (by rfl) (pa_cons (pv 7) (pa_cons (pv 4) (pa_cons (pv 5) (pa_cons (pv 6) pa_nil))))))) (pss_one (ps_ret pe_bl)) pss_nil)))))))))))
      (pss_one (ps_ret pe_bl))), ?_⟩
    refine ⟨_, rfl, a, _, rfl, .inl hS, _, _, rfl, _, _, rfl, ?_⟩
    obtain ⟨top, et⟩ : ∃ top : Int, top = (if (if ((ns.map V.int).length : Int) < 4 then ((ns.map V.int).length : Int) else 4) > 2 then (if ((ns.map V.int).length : Int) < 4 then ((ns.map V.int).length : Int) else 4) else 2) := ⟨_, rfl⟩
    have b0 : 0 ≤ top ∧ top ≤ 4 := by rw [et]; split <;> (try split) <;> omega
    refine ⟨top, by rw [et], by omega, by omega, for_range (lo := 0) (n := top.toNat) (fun i σ H' => ∃ y1 y2 y3 y4 y5 y6 y7 y8 : Option V, σ = [some (.ref a), y1, y2, y3, y4, y5, y6, y7, y8] ∧ Same H H')
      ⟨_, _, _, _, _, _, _, _, rfl, Same.refl H⟩ ?_ (fun σ H' _ => q H')⟩
    rintro i σ H' hi ⟨y1, y2, y3, y4, y5, y6, y7, y8, rfl, sm⟩
    refine ⟨_, rfl, _, rfl, a, ns, i, by rw [Int.zero_add]; rfl, sm.seq hS, hl, by omega, fun t H1 s1 n1 hT1 => ?_⟩
    refine ⟨4, rfl, by decide, by decide, for_range (lo := 0) (n := 4) (fun j σ H'' => ∃ z1 z3 z4 z5 z6 z7 z8 : Option V, σ = [some (.ref a), z1, some (.ref t), z3, z4, z5, z6, z7, z8] ∧ Tp H'' t (1000 * j) ∧ Same H' H'')
      ⟨_, _, _, _, _, _, _, rfl, hT1, s1⟩ ?_ (fun σ H'' ⟨z1, z3, z4, z5, z6, z7, z8, e, _, s2⟩ => ⟨_, _, _, _, _, _, _, _, e, sm.trans s2⟩)⟩
    rintro j σ G hj ⟨z1, z3, z4, z5, z6, z7, z8, rfl, hT, sG⟩
    -- wide
    refine ⟨_, rfl, (by show 5 ≤ sizeLine; decide), fun u nu => ?_⟩
    refine ⟨t, u, 1000 * j, _, rfl, hT.new nu, by omega, .inl (SqL.of upd_same), hT.ne nu, (by show 0 < 5; decide), (by show 5 < 100000; decide), fun i1 v G2 hv hTb b2 => ?_⟩
    have bt := (But.new (t := t) nu).trans b2
    obtain ⟨wd, rfl, w0, w1⟩ : ∃ wd : Int, v = .int wd ∧ 1 ≤ wd ∧ wd ≤ 28 := by
      match i1, hv with
      | 0, hv => exact ⟨1, (Option.some.inj hv).symm, by decide, by decide⟩
      | 1, hv => exact ⟨2, (Option.some.inj hv).symm, by decide, by decide⟩
      | 2, hv => exact ⟨4, (Option.some.inj hv).symm, by decide, by decide⟩
      | 3, hv => exact ⟨9, (Option.some.inj hv).symm, by decide, by decide⟩
      | 4, hv => exact ⟨28, (Option.some.inj hv).symm, by decide, by decide⟩
      | (i1 + 5), hv => simp at hv
    clear hv b2 nu
    -- the stretches
    dsimp only [gName]
    refine ⟨_, rfl, _, rfl, t, _, wd, rfl, hTb, by omega, by omega, by omega, fun sa v1 G4 a0 a01 a1 h1 hTd b4 => ?_⟩
    refine ⟨_, rfl, _, rfl, t, _, wd, rfl, hTd, by omega, by omega, by omega, fun sb v2 G5 c0 c01 c1 h2 hTe b5 => ?_⟩
    have h1e : St G5 (some sa) v1 := h1.keep (keep_but b5 hTd)
    have bt5 := (bt.trans b4).trans b5
    clear bt b4 b5 h1 hTd
    refine ⟨_, _, rfl, ?_⟩
    -- the word
    refine ⟨_, rfl, (by show 5 ≤ sizeLine; decide), fun x5 m5 => ?_⟩
    have s5 := same_new (o := .lst [.str "plus", .str "minus", .str "times", .str "over", .str "rest"]) m5
    refine ⟨t, x5, _, _, rfl, hTe.new m5, by omega, .inl (SqL.of upd_same), hTe.ne m5, (by show 0 < 5; decide), (by show 5 < 100000; decide), fun i3 v' G8 hv hTh b8 => ?_⟩
    have h18 := (h1e.same s5).keep (keep_but b8 (hTe.new m5))
    have h28 := (h2.same s5).keep (keep_but b8 (hTe.new m5))
    obtain ⟨sg, rfl⟩ : ∃ sg : Sg, v' = .str sg.str := by
      match i3, hv with
      | 0, hv => exact ⟨.plus, (Option.some.inj hv).symm⟩
      | 1, hv => exact ⟨.minus, (Option.some.inj hv).symm⟩
      | 2, hv => exact ⟨.times, (Option.some.inj hv).symm⟩
      | 3, hv => exact ⟨.over, (Option.some.inj hv).symm⟩
      | 4, hv => exact ⟨.rest, (Option.some.inj hv).symm⟩
      | (i3 + 5), hv => simp at hv
    have bt8 := bt5.trans ((But.new m5).trans b8)
    clear hv m5 b8 bt5 s5 h1e h2 hTe
    obtain ⟨pa, rfl, hpa⟩ := h18
    obtain ⟨pb, rfl, hpb⟩ := h28
    -- where it is parted
    dsimp only [gName]
    refine ⟨_, rfl, pa, _, 0, _, rfl, rfl, SqT.of hpa, atI_nat (j := 0) rfl, _, rfl, _, rfl, pa, _, 1, _, rfl, rfl, SqT.of hpa, atI_nat (j := 1) rfl, _, rfl, pa, _, 0, _, rfl, rfl, SqT.of hpa, atI_nat (j := 0) rfl, _, _, rfl, rfl, _, _, rfl, rfl, t, _, _, rfl, hTh, by omega, by omega, by omega, fun r G9 r0 r1 hTi b9 => ?_⟩
    have kp9 := keep_but b9 hTh
    have hpa9 := kp9 _ _ hpa
    have hpb9 := kp9 _ _ hpb
    have sG9 : Same H' G9 := same_but sG n1 (bt8.trans b9)
    refine ⟨_, _, rfl, rfl, ?_⟩
    dsimp only [gName]
    refine ⟨_, rfl, _, rfl, _, rfl, _, rfl, _, rfl, sg, wd, pa, pb, sa, sb, sa.1 + r, rfl, hpa9, hpb9, w0, by omega, a0, a01, a1, c0, c01, c1, by omega, fun Ga ta => ?_⟩
    refine ⟨_, rfl, ?_⟩
    refine iteF ?_
    refine ⟨_, rfl, _, rfl, _, rfl, wd, pa, pb, sa, sb, rfl, ta _ _ hpa9, ta _ _ hpb9, w0, by omega, a0, a01, a1, c0, c01, c1, fun Gb tb => ?_⟩
    refine ⟨_, rfl, ?_⟩
    refine iteF ?_
    have sab := ta.trans tb
    refine ⟨_, rfl, _, rfl, _, rfl, _, rfl, sg, wd, pa, pb, sa, sb, rfl, sab _ _ hpa9, sab _ _ hpb9, w0, w1, a0, a01, a1, c0, c01, c1, fun Gc tc => ?_⟩
    refine ⟨_, rfl, ?_⟩
    refine iteF ?_
    have S := sab.trans tc
    exact ⟨_, _, _, _, _, _, _, rfl, (hTi.same S).mono (by omega), sG9.trans S⟩
end
end K

set_option maxRecDepth 100000
set_option maxHeartbeats 3900000
namespace K
open PySem PySem.Spec PyProof.Rows L2
/-! ### out of the written part -/
theorem all_mk {P : Program} {K : PySem.W.Frag} {h : Heap} {mg : Str → Option Value} {w : World} {fa fL : Addr} {fdL : FuncData} {ftp fdr fpk faw fnx fwn fcm fwi ftr fad fpr ffa fmu fqu frb frs fpa fsp fjo fon fpt ftu fwd : Addr} {fdtp fddr fdpk fdaw fdnx fdwn fdcm fdwi fdtr fdad fdpr fdfa fdmu fdqu fdrb fdrs fdpa fdsp fdjo fdon fdpt fdtu fdwd : FuncData} (X : K.In h) (G : h.Ns mainGlobals mg) (hfa : mg "law" = some (.ref fa))
    (blen : PySem.W.nsIn K mainGlobals "len" = some none) (brange : PySem.W.nsIn K mainGlobals "range" = some none) (blist : PySem.W.nsIn K mainGlobals "list" = some none) (btuple : PySem.W.nsIn K mainGlobals "tuple" = some none) (bint : PySem.W.nsIn K mainGlobals "int" = some none) (bstr : PySem.W.nsIn K mainGlobals "str" = some none) (bisinstance : PySem.W.nsIn K mainGlobals "isinstance" = some none) (bsorted : PySem.W.nsIn K mainGlobals "sorted" = some none) (bset : PySem.W.nsIn K mainGlobals "set" = some none) (bzip : PySem.W.nsIn K mainGlobals "zip" = some none) (benumerate : PySem.W.nsIn K mainGlobals "enumerate" = some none) (brepr : PySem.W.nsIn K mainGlobals "repr" = some none) (bmin : PySem.W.nsIn K mainGlobals "min" = some none) (bmax : PySem.W.nsIn K mainGlobals "max" = some none) (babs : PySem.W.nsIn K mainGlobals "abs" = some none)
    (atp : PySem.W.nsIn K mainGlobals "_law_tape" = some (some (.ref ftp))) (Ftp : Fun K "_law_tape" "_law_tape" sTape ftp fdtp)
    (adr : PySem.W.nsIn K mainGlobals "_law_draw" = some (some (.ref fdr))) (Fdr : Fun K "_law_draw" "_law_draw" sDraw fdr fddr)
    (apk : PySem.W.nsIn K mainGlobals "_law_pick" = some (some (.ref fpk))) (Fpk : Fun K "_law_pick" "_law_pick" sPick fpk fdpk)
    (aaw : PySem.W.nsIn K mainGlobals "_law_a_word" = some (some (.ref faw))) (Faw : Fun K "_law_a_word" "_law_a_word" s_law_a_word faw fdaw)
    (anx : PySem.W.nsIn K mainGlobals "_nearest_to_nought" = some (some (.ref fnx))) (Fnx : Fun K "_nearest_to_nought" "_nearest_to_nought" s_nn fnx fdnx)
    (awn : PySem.W.nsIn K mainGlobals "_without_nought" = some (some (.ref fwn))) (Fwn : Fun K "_without_nought" "_without_nought" s_wn fwn fdwn)
    (acm : PySem.W.nsIn K mainGlobals "_common" = some (some (.ref fcm))) (Fcm : Fun K "_common" "_common" s_cmn fcm fdcm)
    (awi : PySem.W.nsIn K mainGlobals "_words_in" = some (some (.ref fwi))) (Fwi : Fun K "_words_in" "_words_in" s_win fwi fdwi)
    (atr : PySem.W.nsIn K mainGlobals "_turned" = some (some (.ref ftr))) (Ftr : Fun K "_turned" "_turned" s_trn ftr fdtr)
    (aad : PySem.W.nsIn K mainGlobals "_added" = some (some (.ref fad))) (Fad : Fun K "_added" "_added" s_add fad fdad)
    (apr : PySem.W.nsIn K mainGlobals "_partners" = some (some (.ref fpr))) (Fpr : Fun K "_partners" "_partners" s_prt fpr fdpr)
    (afa : PySem.W.nsIn K mainGlobals "_factors" = some (some (.ref ffa))) (Ffa : Fun K "_factors" "_factors" s_fac ffa fdfa)
    (amu : PySem.W.nsIn K mainGlobals "_multiplied" = some (some (.ref fmu))) (Fmu : Fun K "_multiplied" "_multiplied" s_mul fmu fdmu)
    (aqu : PySem.W.nsIn K mainGlobals "_quotients" = some (some (.ref fqu))) (Fqu : Fun K "_quotients" "_quotients" s_quo fqu fdqu)
    (arb : PySem.W.nsIn K mainGlobals "_rests_by" = some (some (.ref frb))) (Frb : Fun K "_rests_by" "_rests_by" s_rsb frb fdrb)
    (ars : PySem.W.nsIn K mainGlobals "_rests" = some (some (.ref frs))) (Frs : Fun K "_rests" "_rests" s_rst frs fdrs)
    (apa : PySem.W.nsIn K mainGlobals "pairs" = some (some (.ref fpa))) (Fpa : Fun K "pairs" "pairs" s_pairs fpa fdpa)
    (asp : PySem.W.nsIn K mainGlobals "_law_span" = some (some (.ref fsp))) (Fsp : Fun K "_law_span" "_law_span" s_span fsp fdsp)
    (ajo : PySem.W.nsIn K mainGlobals "_law_joined" = some (some (.ref fjo))) (Fjo : Fun K "_law_joined" "_law_joined" s_join fjo fdjo)
    (aon : PySem.W.nsIn K mainGlobals "_law_over_nought" = some (some (.ref fon))) (Fon : Fun K "_law_over_nought" "_law_over_nought" s_on fon fdon)
    (apt : PySem.W.nsIn K mainGlobals "_law_parted_right" = some (some (.ref fpt))) (Fpt : Fun K "_law_parted_right" "_law_parted_right" s_part fpt fdpt)
    (atu : PySem.W.nsIn K mainGlobals "_law_turned_right" = some (some (.ref ftu))) (Ftu : Fun K "_law_turned_right" "_law_turned_right" s_turn ftu fdtu)
    (awd : PySem.W.nsIn K mainGlobals "_law_wider_right" = some (some (.ref fwd))) (Fwd : Fun K "_law_wider_right" "_law_wider_right" s_wide fwd fdwd)
    (aL : PySem.W.nsIn K mainGlobals "law" = some (some (.ref fL))) (FL : Fun K "law" "law" s_law fL fdL) :
    ∃ fd : FuncData, (∀ (s : Shared) (u : Value), BindsTo s fd ⟨[u], []⟩ [("script", u)]) ∧ ∀ base : Heap, K.In base → base.Ns mainGlobals mg → FnG P w K mg base CX0 6 fa fd ["script"] (spLaw K) := by
  cases hfa.symm.trans (PySem.W.mg_of X G aL)
  have g := fun {y : Str} {v : Value} (e : PySem.W.nsIn K mainGlobals y = some (some v)) => PySem.W.mg_of X G e
  have o := fun {y : Str} (e : PySem.W.nsIn K mainGlobals y = some none) => PySem.W.mg_none_of X G e
  have B : Bs mg := ⟨o blen, o brange, o blist, o btuple, o bint, o bstr, o bisinstance, o bsorted, o bset, o bzip, o benumerate, o brepr, o bmin, o bmax, o babs⟩
  refine ⟨fdL, fun s u => ?_, fun base _ _ => ?_⟩
  · obtain ⟨_, _, _, _, _, _, _, _, _, rfl, _, _⟩ := FL.ex
    exact .of_eq rfl
  have c_tp := Df.cal (P := P) (w := w) (base := base) ⟨Ftp, g atp, Ftp.binds fun _ _ _ _ _ _ us hl => match us, hl with | [_, _], _ => rfl⟩ (ok_tape Ftp B.len)
  have c_dr := Df.cal (P := P) (w := w) (base := base) ⟨Fdr, g adr, Fdr.binds fun _ _ _ _ _ _ us hl => match us, hl with | [_, _], _ => rfl⟩ (ok_draw Fdr)
  have c_pk := Df.cal (P := P) (w := w) (base := base) ⟨Fpk, g apk, Fpk.binds fun _ _ _ _ _ _ us hl => match us, hl with | [_, _], _ => rfl⟩ (ok_pick B c_dr Fpk)
  have c_aw := Df.cal (P := P) (w := w) (base := base) ⟨Faw, g aaw, Faw.binds fun _ _ _ _ _ _ us hl => match us, hl with | [_, _], _ => rfl⟩ (ok_word B c_dr c_pk Faw)
  have c_nx := Df.cal (P := P) (w := w) (base := base) ⟨Fnx, g anx, Fnx.binds fun _ _ _ _ _ _ us hl => match us, hl with | [_], _ => rfl⟩ (ok_nn B Fnx)
  have c_wn := Df.cal (P := P) (w := w) (base := base) ⟨Fwn, g awn, Fwn.binds fun _ _ _ _ _ _ us hl => match us, hl with | [_], _ => rfl⟩ (ok_wn Fwn)
  have c_cm := Df.cal (P := P) (w := w) (base := base) ⟨Fcm, g acm, Fcm.binds fun _ _ _ _ _ _ us hl => match us, hl with | [_, _], _ => rfl⟩ (ok_cmn B Fcm)
  have c_wi := Df.cal (P := P) (w := w) (base := base) ⟨Fwi, g awi, Fwi.binds fun _ _ _ _ _ _ us hl => match us, hl with | [_, _], _ => rfl⟩ (ok_win c_cm Fwi)
  have c_tr := Df.cal (P := P) (w := w) (base := base) ⟨Ftr, g atr, Ftr.binds fun _ _ _ _ _ _ us hl => match us, hl with | [_], _ => rfl⟩ (ok_trn Ftr)
  have c_ad := Df.cal (P := P) (w := w) (base := base) ⟨Fad, g aad, Fad.binds fun _ _ _ _ _ _ us hl => match us, hl with | [_, _, _], _ => rfl⟩ (ok_add c_cm Fad)
  have c_pr := Df.cal (P := P) (w := w) (base := base) ⟨Fpr, g apr, Fpr.binds fun _ _ _ _ _ _ us hl => match us, hl with | [_, _], _ => rfl⟩ (ok_prt B Fpr)
  have c_fa := Df.cal (P := P) (w := w) (base := base) ⟨Ffa, g afa, Ffa.binds fun _ _ _ _ _ _ us hl => match us, hl with | [_, _, _], _ => rfl⟩ (ok_fac c_cm c_pr c_nx Ffa)
  have c_mu := Df.cal (P := P) (w := w) (base := base) ⟨Fmu, g amu, Fmu.binds fun _ _ _ _ _ _ us hl => match us, hl with | [_, _, _], _ => rfl⟩ (ok_mul B c_cm c_pr c_fa Fmu)
  have c_qu := Df.cal (P := P) (w := w) (base := base) ⟨Fqu, g aqu, Fqu.binds fun _ _ _ _ _ _ us hl => match us, hl with | [_, _], _ => rfl⟩ (ok_quo B Fqu)
  have c_rb := Df.cal (P := P) (w := w) (base := base) ⟨Frb, g arb, Frb.binds fun _ _ _ _ _ _ us hl => match us, hl with | [_, _], _ => rfl⟩ (ok_rsb Frb)
  have c_rs := Df.cal (P := P) (w := w) (base := base) ⟨Frs, g ars, Frs.binds fun _ _ _ _ _ _ us hl => match us, hl with | [_, _], _ => rfl⟩ (ok_rst B c_rb Frs)
  have c_sp := Df.cal (P := P) (w := w) (base := base) ⟨Fsp, g asp, Fsp.binds fun _ _ _ _ _ _ us hl => match us, hl with | [_, _], _ => rfl⟩ (ok_span B c_aw Fsp)
  have c_jo := Df.cal (P := P) (w := w) (base := base) ⟨Fjo, g ajo, Fjo.binds fun _ _ _ _ _ _ us hl => match us, hl with | [_, _], _ => rfl⟩ (ok_join B Fjo)
  have c_on := Df.cal (P := P) (w := w) (base := base) ⟨Fon, g aon, Fon.binds fun _ _ _ _ _ _ us hl => match us, hl with | [_], _ => rfl⟩ (ok_on Fon)
  have kpa := ok_pairs (P := P) (w := w) (base := base) c_wi c_ad c_tr c_mu c_wn c_qu c_rs Fpa
  have k3 : CalN P w K mg base 4 "pairs" spPairs 3 ["width"] (fun vs zs => vs ++ zs) := ⟨_, _, _, _, kpa, g apa, Fpa.kp, kbn_of Fpa 3 ["width"] (fun us ws => us ++ ws) (fun a b => a.append b) fun _ _ _ _ _ _ us ws h1 h2 => match us, ws, h1, h2 with | [_, _, _], [_], _, _ => rfl⟩
  have c_pt := Df.cal (P := P) (w := w) (base := base) ⟨Fpt, g apt, Fpt.binds fun _ _ _ _ _ _ us hl => match us, hl with | [_, _, _, _, _], _ => rfl⟩ (ok_part B c_jo k3 Fpt)
  have c_tu := Df.cal (P := P) (w := w) (base := base) ⟨Ftu, g atu, Ftu.binds fun _ _ _ _ _ _ us hl => match us, hl with | [_, _, _], _ => rfl⟩ (ok_turn B c_on k3 Ftu)
  have c_wd := Df.cal (P := P) (w := w) (base := base) ⟨Fwd, g awd, Fwd.binds fun _ _ _ _ _ _ us hl => match us, hl with | [_, _, _, _], _ => rfl⟩ (ok_wide B c_jo k3 Fwd)
  exact ok_law B c_tp c_dr c_pk c_sp c_pt c_tu c_wd FL
end K

open PySem PySem.W PyProof.Rows
set_option maxRecDepth 100000 in
set_option maxHeartbeats 0 in
theorem PySem.Challenge.cw_withinall_k25_whole_pairs_parted_and_tur_holds : PySem.Challenge.rw_withinall_k25_whole_pairs_parted_and_tur.Holds := by
  w_on; o_law; k_head; (case hw => w_witness2)
  k_fill
  refine L2.walkG (l := PySem.Challenge.rw_withinall_k25_whole_pairs_parted_and_tur) (n := 63) (k := 6) (x := "script") (sp := K.spLaw) rfl (by decide) rfl ⟨rfl, by decide, by decide⟩ (fun w h Y => PySem.W.kIn_of Y) ?F (fun K H a ns h1 _ h3 => ⟨a, ns, rfl, h3, h1, fun _ => rfl⟩)
  case F =>
    intro w mg fa h KX G hmg
    refine' K.all_mk KX G hmg ?blen ?brange ?blist ?btuple ?bint ?bstr ?bisinstance ?bsorted ?bset ?bzip ?benumerate ?brepr ?bmin ?bmax ?babs ?atp ?Ftp ?adr ?Fdr ?apk ?Fpk ?aaw ?Faw ?anx ?Fnx ?awn ?Fwn ?acm ?Fcm ?awi ?Fwi ?atr ?Ftr ?aad ?Fad ?apr ?Fpr ?afa ?Ffa ?amu ?Fmu ?aqu ?Fqu ?arb ?Frb ?ars ?Frs ?apa ?Fpa ?asp ?Fsp ?ajo ?Fjo ?aon ?Fon ?apt ?Fpt ?atu ?Ftu ?awd ?Fwd ?aL ?FL
    (case blen => k_is); (case brange => k_is); (case blist => k_is); (case btuple => k_is); (case bint => k_is); (case bstr => k_is); (case bisinstance => k_is); (case bsorted => k_is); (case bset => k_is); (case bzip => k_is); (case benumerate => k_is); (case brepr => k_is); (case bmin => k_is); (case bmax => k_is); (case babs => k_is)
    (case atp => k_is); (case Ftp => refine' L2.fun_mk ?l ?c ?k; (case l => k_is); (case c => k_is); (case k => k_is))
    (case adr => k_is); (case Fdr => refine' L2.fun_mk ?l ?c ?k; (case l => k_is); (case c => k_is); (case k => k_is))
    (case apk => k_is); (case Fpk => refine' L2.fun_mk ?l ?c ?k; (case l => k_is); (case c => k_is); (case k => k_is))
    (case aaw => k_is); (case Faw => refine' L2.fun_mk ?l ?c ?k; (case l => k_is); (case c => k_is); (case k => k_is))
    (case anx => k_is); (case Fnx => refine' L2.fun_mk ?l ?c ?k; (case l => k_is); (case c => k_is); (case k => k_is))
    (case awn => k_is); (case Fwn => refine' L2.fun_mk ?l ?c ?k; (case l => k_is); (case c => k_is); (case k => k_is))
    (case acm => k_is); (case Fcm => refine' L2.fun_mk ?l ?c ?k; (case l => k_is); (case c => k_is); (case k => k_is))
    (case awi => k_is); (case Fwi => refine' L2.fun_mk ?l ?c ?k; (case l => k_is); (case c => k_is); (case k => k_is))
    (case atr => k_is); (case Ftr => refine' L2.fun_mk ?l ?c ?k; (case l => k_is); (case c => k_is); (case k => k_is))
    (case aad => k_is); (case Fad => refine' L2.fun_mk ?l ?c ?k; (case l => k_is); (case c => k_is); (case k => k_is))
    (case apr => k_is); (case Fpr => refine' L2.fun_mk ?l ?c ?k; (case l => k_is); (case c => k_is); (case k => k_is))
    (case afa => k_is); (case Ffa => refine' L2.fun_mk ?l ?c ?k; (case l => k_is); (case c => k_is); (case k => k_is))
    (case amu => k_is); (case Fmu => refine' L2.fun_mk ?l ?c ?k; (case l => k_is); (case c => k_is); (case k => k_is))
    (case aqu => k_is); (case Fqu => refine' L2.fun_mk ?l ?c ?k; (case l => k_is); (case c => k_is); (case k => k_is))
    (case arb => k_is); (case Frb => refine' L2.fun_mk ?l ?c ?k; (case l => k_is); (case c => k_is); (case k => k_is))
    (case ars => k_is); (case Frs => refine' L2.fun_mk ?l ?c ?k; (case l => k_is); (case c => k_is); (case k => k_is))
    (case apa => k_is); (case Fpa => refine' L2.fun_mk ?l ?c ?k; (case l => k_is); (case c => k_is); (case k => k_is))
    (case asp => k_is); (case Fsp => refine' L2.fun_mk ?l ?c ?k; (case l => k_is); (case c => k_is); (case k => k_is))
    (case ajo => k_is); (case Fjo => refine' L2.fun_mk ?l ?c ?k; (case l => k_is); (case c => k_is); (case k => k_is))
    (case aon => k_is); (case Fon => refine' L2.fun_mk ?l ?c ?k; (case l => k_is); (case c => k_is); (case k => k_is))
    (case apt => k_is); (case Fpt => refine' L2.fun_mk ?l ?c ?k; (case l => k_is); (case c => k_is); (case k => k_is))
    (case atu => k_is); (case Ftu => refine' L2.fun_mk ?l ?c ?k; (case l => k_is); (case c => k_is); (case k => k_is))
    (case awd => k_is); (case Fwd => refine' L2.fun_mk ?l ?c ?k; (case l => k_is); (case c => k_is); (case k => k_is))
    (case aL => k_is); (case FL => refine' L2.fun_mk ?l ?c ?k; (case l => k_is); (case c => k_is); (case k => k_is))

