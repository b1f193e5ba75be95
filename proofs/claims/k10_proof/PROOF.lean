import PyProof.Rows.All
import Wide.All
import OpenK.AllK
import Wide.FinOn
import HandS.Base
import HandS.Call
import HandS.List
import HandS.Comp
import HandS.Ends
import HandS.Dict
import HandS.Iter
import HandS.Text
import HandS.Words
import HandS.WordsList
import HandS.WordsDict
import HandS.Wide
import HandS.More
import HandS.IsInst
import HandS.Conv
import KE.KExcSuper
import HandS.FStr
import HandS.Exc
import HandS.ExcInit
import HandS.FStrTup
import HandS.TryMany
import HandS.MakeKw
import HandS.OwnEq
import HandS.ExcOwn
import KE.KExcIs
import PyProof.P3Eq
import HandS.Strs
import HandS.StrMore
import PyProof.ReprRoads
import HandS.TupAny
import HandS.Zip
import HandS.Style
import PyProof.AutoSeq1
import HandS.DictComp
import HandS.Defaults
import HandS.HeadHook3
import HandS.WordsExc
import HandS.MakeKwOnly
import PySem.Challenge.RW_thawedwrites_k10_program_too_many
set_option Elab.async false
set_option linter.all false
set_option maxRecDepth 100000
namespace TW
open PySem PySem.Spec PyProof.Rows L2
def topS (i : Nat) : Stmt := PySem.Challenge.pw_thawedwrites_k10_program_too_many.main.body.getD i (.Pass ⟨0, 0, 0, 0⟩)
/-- the built-ins are the built-ins -/
structure Bl (mg : Str → Option Value) : Prop where
  m_len : mg "len" = none
  m_int : mg "int" = none
  m_list : mg "list" = none
  m_tuple : mg "tuple" = none
  m_dict : mg "dict" = none
  m_set : mg "set" = none
  m_all : mg "all" = none
  m_range : mg "range" = none
  m_enumerate : mg "enumerate" = none
  m_sorted : mg "sorted" = none
  m_min : mg "min" = none
  m_isinstance : mg "isinstance" = none
  m_bool : mg "bool" = none
  m_str : mg "str" = none
  m_zip : mg "zip" = none
  m_ValueError : mg "ValueError" = none
  m_super : mg "super" = none
  m_repr : mg "repr" = none
/-- a def of the text, at its name -/
structure Df (K : PySem.W.Frag) (mg : Str → Option Value) (x : Str) (st : Stmt) (f : Addr) (fd : FuncData) (ps : List Str) : Prop where
  F : Fun K x x st f fd
  g : mg x = some (.ref f)
  b : Binds K fd ps []
end TW
set_option Elab.async false
set_option linter.all false
set_option maxRecDepth 100000
set_option maxHeartbeats 2000000
namespace PySem
namespace ErrX
open PySem.W PySem.Calls PyProof.Rows PySem.HandSPX
/-- (self, part) -/
def eArgs (p1 p2 : Pos) : Arguments := { posonlyargs := [], args := [{ arg := "self", annotation := none, pos := p1 }, { arg := "part", annotation := none, pos := p2 }], vararg := none, kwonlyargs := [], kw_defaults := [], kwarg := none, defaults := [] }
/-- the two rows of the body -/
def eBody (ms : Str) (a1 a2 a3 a4 a5 a6 a7 a8 a9 : Pos) (q1 q2 q3 q4 : Pos) : List Stmt :=
  [.Expr (.Call (.Attribute (.Call (.Name "super" a1) [] [] a2) "__init__" a3) [.JoinedStr [.Constant (.str ms) 0 a4, .FormattedValue (.Name "part" a5) (-1) none a6] a7] [] a8) a9,
   .Assign [.Attribute (.Name "self" q1) "part" q2] (.Name "part" q3) q4]
def eScope : Scope := { kind := .function, names := [(PySem.Str.ofString "self", .local), (PySem.Str.ofString "part", .local), (PySem.Str.ofString "__class__", .free), (PySem.Str.ofString "super", .globalImplicit)], isGenerator := false, isCoroutine := false, more := [] }
/-- what the written part says of the class x (at C) and of its own maker (at fI) -/
structure ErrTxt (prog : Program) (K : Frag) (mg : Str → Option Value) (x ms : Str) (C fI : Addr) : Prop where
  gC : mg x = some (.ref C)
  cls : ∃ nm q N bs bm sn sub ab col dd k0 k1 k2 k3 k5, K.lookup C = some (excClassObj nm q C N bs bm true sn sub ab col dd k0 k1 k2 k3 k5 "ValueError.__new__") ∧ refsVE bm = true
  sa : findIn K (.ref C) "__setattr__" = some (some (.builtin "object.__setattr__"))
  ga : findIn K (.ref C) "__getattribute__" = some (some (.builtin "BaseException.__getattribute__"))
  gg : findIn K (.ref C) "__getattr__" = some none
  noN : findIn K (.ref C) "part" = some none
  iC : findIn K (.ref C) "__init__" = some (some (.ref fI))
  tC : typeIn K (.ref fI) = some (.type "function")
  kC : keepIn K (.ref C) = true
  exC : subIn K (.ref C) (.type "BaseException") = some true
  veC : subIn K (.ref C) (.type "ValueError") = some true
  tyC : typeIn K (.ref C) = some (.type "type")
  hdC : hasDictIn K C = true
  te : exmOne K (.ref C) (.ref C) = some true
  opq : nsIn K cStatics "thirdparty.any" = some none
  sup : ks_superIn K C C "__init__" = some (some (.builtin "ValueError.__init__"))
  sub : mroIn K C (.ref C) = some true
  htop : (prog.main.scope.names.lookup ("super" : Str)).isSome = false
  hms : ms.length ≤ 1000
  fn : ∃ (oc : Value) (od : Option Addr) (doc pm : Value) (an : Option Addr) (cda cc : Addr) (ct : Value) (osl : Array (Option Value)) (qual : Str) (p1 p2 a1 a2 a3 a4 a5 a6 a7 a8 a9 q1 q2 q3 q4 : Pos)
      (ccl cl : Value) (cdd cld : Option Addr) (vs : Array Value) (ccs csl : Array (Option Value)) (file : Str) (tf : Tok),
    K.lookup fI = some ⟨oc, od, .func (ksFn "__init__" qual (eArgs p1 p2) (eBody ms a1 a2 a3 a4 a5 a6 a7 a8 a9 q1 q2 q3 q4) eScope .none .none doc pm an (.ref cda) ct cc), osl⟩ ∧ codeIn K (.ref cda) qual = true ∧
    K.lookup cda = some ⟨ccl, cdd, .fields vs, ccs⟩ ∧ vs[2]? = some (.str file tf) ∧ ((prog.main.file : Str) == file) = true ∧ K.lookup cc = some ⟨cl, cld, .cell (some (.ref C)), csl⟩ ∧
    (a3.endLine == a8.line) = true
/-- o.m(e), as a tree -/
theorem call_tree {o e : Expr} {m : Str} {apos pos : Pos} {env : Env} (hl : (apos.endLine == pos.line) = true) (he : starEach [e] env = [(false, eval e env)] := by rfl) :
    eval (.Call (.Attribute o m apos) [e] [] pos) env = (do
      let ov ← attributeBase o m env (eval o env)
      standAt apos.atName
      let (f, first) ← holding [ov] (getMethod ov m (do return (← importBound o env).getD true))
      callWith pos f first (backTo pos (starEach [e] env)) []) := by
  rw [arm_eval_Call]
  have hf : methodCallForm ([e].length + ([] : List Keyword).length) (backTo pos (starEach [e] env)) (backToKw pos (keywordEach [] env)) = true := by
    rw [he]
    rfl
  have hp : methodCallPos true o env apos pos = pure pos := by unfold methodCallPos; simp [hl]
  have hc : ∀ ov, calleeOf true o env ov m = getMethod ov m (do return (← importBound o env).getD true) := fun _ => rfl
  have key : ∀ ov, methodCall o m apos pos env ov ([e].length + ([] : List Keyword).length) (backTo pos (starEach [e] env)) (backToKw pos (keywordEach [] env)) = (do
      let (f, first) ← holding [ov] (getMethod ov m (do return (← importBound o env).getD true))
      callWith pos f first (backTo pos (starEach [e] env)) []) := fun ov => by
    unfold methodCall
    rw [hf, hp, hc]
    simp only [pure_bind]
    rfl
  simp only [key]
theorem one_size (v : Value) : [v].length ≤ sizeLine := by
  rw [sizeLine_eq]
  exact (by decide : 1 ≤ 16777216)
theorem ldN {M : Model} {s : Shared} {name : Str} {scope : Scope} {L a : Addr} {cd : Value} {cl : List (Str × Addr)} {m : Str → Option Value} {x : Str} {pos : Pos} {v : Value} {Q : Value → Shared → Prop} {A : Around} {E : Value → Shared → Prop} (hn : s.heap.Ns L m) (hv : m x = some v) (h : Q v s)
    (hk : scope.kind = .function := by rfl) (hl : (envX name scope L a cd cl).kindOf x = some .local := by rfl) (hd : (x == ("__debug__" : Str)) = false := by decide) :
    wpAny M A (eval (.Name x pos) (envX name scope L a cd cl)) Q E s := wpAny_Name (wpAny_loadName_local hk hl hn hv h) hd
section
variable {prog : Program} {w : World} {A : Around} {E : Value → Shared → Prop} {h : Heap} {g : Array GenState} {d : Drawn} {t : Nat} {os : OsState}
variable {nm q : Str} {C N : Addr} {bs bm : List Value} {hdct : Bool} {sn : List Str} {sub : List Value} {ab : Bool} {col : Option Bool} {dd : Option Addr} {k0 k1 k2 k3 k5 : Option Value}
/-- the bound maker of the base is called: the args are laid anew -/
theorem call_mw {u e t0 : Addr} {rest : List Value} {Q : Value → Shared → Prop}
    (hC : h.get? C = some (excClassObj nm q C N bs bm hdct sn sub ab col dd k0 k1 k2 k3 k5 "ValueError.__new__")) (he : h.get? e = some (excO C t0)) (hu : h.get? u = some (kxs_mw "ValueError.__init__" e)) (hrest : rest.length ≤ sizeLine)
    (hq : ∀ h' t1, (∀ b o, b ≠ e → h.get? b = some o → h'.get? b = some o) → h'.get? e = some (excO C t1) → Q .none ⟨h', g, d, t, os⟩) :
    wpAny (model prog w) A (call (.ref u) rest) Q E ⟨h, g, d, t, os⟩ := by
  refine wpAny_call (codeAny_of_tree ?_)
  show wpAny _ A.in1 (callAny (.ref u) ⟨rest, []⟩) _ _ _
  simp only [callAny]
  refine wpAny_bind (wpAny_load hu ?_)
  simp only [kxs_mw, show (Value.type "method-wrapper" == Value.type "method" || Value.type "method-wrapper" == Value.type "builtin_function_or_method" || Value.type "method-wrapper" == Value.type "method-wrapper") = true by decide, if_true]
  refine KFB.if_so (by decide) ?_
  refine wpAny_bind (check_bound_init F.excBase_ValueError.toExcCallFacts hC he rfl ?_)
  refine wpAny_bind (wpAny_pure (wpAny_pure ?_))
  refine ⟨plainId_quiet F.excBase_ValueError.init.plain _, codeAny_builtin F.excBase_ValueError.initEntry ?_⟩
  exact exc_init_tree (cls := .ref C) (t0 := t0) (dv := none) (c2 := .none) (c3 := .none) (b4 := .bool false) he hrest fun h' k e1 e2 => hq h' _ k e1
end
/-- what the maker leaves of a fresh error at x -/
structure InitEnd (h h' : Heap) (x C dx t1 : Addr) (v : Value) : Prop where
  keep : ∀ b o, b ≠ x → h.get? b = some o → h'.get? b = some o
  obj : h'.get? x = some { cls := .ref C, dict := some dx, data := .fields #[.ref t1, .none, .none, .none, .bool false, .none] }
  dbig : h.objs.size ≤ dx
  dne : dx ≠ x
  ns : h'.Ns1 dx (fun y => if y = "part" then some v else none)
section
variable {prog : Program} {w : World} {A : Around} {E : Value → Shared → Prop} {R : Result → Shared → Prop} {s : Shared} {K : Frag} {mg mb : Str → Option Value} {nmx ms : Str} {C fI : Addr}
theorem err_init (T : ErrTxt prog K mg nmx ms C fI) {x t0 : Addr} {y : Str} {ty : Tok} (X : K.In s.heap) (hG : s.heap.Ns mainGlobals mg) (hB : s.heap.Ns builtinsNs mb) (mS : mg "super" = none) (bS : mb "super" = some (.type "super"))
    (hlim : s.heap.NoLimit) (hx : s.heap.get? x = some (excO C t0)) (hnx : K.lookup x = none) (hroom : A.depth < recursionLimit) (hy : y.length ≤ 1000)
    (hq : ∀ h' tk dx t1, InitEnd s.heap h' x C dx t1 (.str y ty) → R (.ok (.ret .none)) { s with heap := h', toks := tk }) :
    codeAny (model prog w) A (.call (.ref fI) ⟨[.ref x, .str y ty], []⟩) R s := by
  obtain ⟨oc, od, doc, pm, an, cda, cc, ct, osl, qual, p1, p2, a1, a2, a3, a4, a5, a6, a7, a8, a9, q1, q2, q3, q4, ccl, cl, cdd, cld, vs, ccs, csl, file, tf, ho, hcd, hcda, hvs, hfile, hcell, hline⟩ := T.fn
  obtain ⟨nm, q, N, bs, bm, sn, sub, ab, col, dd, k0, k1, k2, k3, k5, hC, hbm⟩ := T.cls
  have hcl : clsIn K C = some { name := nm, bases := bs, mro := .ref C :: bm, ns := N, qualname := q, hasDict := true, slotNames := sn, subclasses := sub, abstract := ab, collection := col, hasDel := false } := by unfold clsIn; rw [hC] <;> rfl
  have hsup : alongIn K "__init__" ((((Value.ref C :: bm)).dropWhile (· != .ref C)).drop 1) = some (some (.builtin "ValueError.__init__")) := by
    have z := T.sup
    unfold ks_superIn at z
    rw [hcl] at z
    exact z
  refine ks_codeAny_call_defAt (fd := ksFn "__init__" qual (eArgs p1 p2) (eBody ms a1 a2 a3 a4 a5 a6 a7 a8 a9 q1 q2 q3 q4) eScope .none .none doc pm an (.ref cda) ct cc) (body := eBody ms a1 a2 a3 a4 a5 a6 a7 a8 a9 q1 q2 q3 q4)
    (binds := [("self", .ref x), ("part", .str y ty)]) hroom (X _ _ ho) rfl hlim (codeRec_of X hcd) rfl (BindsTo.of_eq (by first | rfl | with_unfolding_all rfl)) (show ∀ x ∈ eScope.names, x.2 ≠ .cell by decide) (fun z hz => by
      rcases List.mem_cons.mp hz with rfl | hz
      · rfl
      rcases List.mem_cons.mp hz with rfl | hz
      · rfl
      cases hz) (fun h₁ hn k => ?_) rfl rfl rfl
  obtain ⟨hp, g, d, t, os⟩ := s
  have X₁ : K.In h₁ := X.keeps k
  have hx₁ := k _ _ hx
  have hC₁ := X₁ _ _ hC
  show _root_.PySem.wpAt _ _ (.func _ (ksEnv qual eScope hp.objs.size fI (.ref cda) cc)) (execs _ (ksEnv qual eScope hp.objs.size fI (.ref cda) cc)) _ _ _
  have nxC : x ≠ C := fun z => by
    rw [z, hC] at hnx
    cases hnx
  have hxL : hp.objs.size ≠ x := Nat.ne_of_gt (Heap.lt_size hx)
  -- the first row
  refine ks_wpAt_execs_cons (ks_wpAt_Expr_any (ks_wpAt_MethodCall (pl := do return (← importBound (.Call (.Name "super" a1) [] [] a2) (ksEnv qual eScope hp.objs.size fI (.ref cda) cc)).getD true) ?_ (call_tree hline)))
  refine ks_wpAt_super_base (env := ksEnv qual eScope hp.objs.size fI (.ref cda) cc) (file := file) (tf := tf) (vs := vs) rfl rfl (by decide) rfl (X₁ _ _ ho) rfl rfl rfl (X₁ _ _ hcda) rfl hvs hfile T.htop ?_
  refine ks_loadName_global rfl rfl (loadGlobal_builtin (env := ksEnv qual eScope hp.objs.size fI (.ref cda) cc) (mg := mg) (mb := mb) (hG.keeps k) mS (hB.keeps k) bS ⟨rfl, ?_⟩)
  refine wpAny_loadName_free rfl rfl rfl ⟨_, X₁ _ _ hcell, rfl⟩ ?_
  refine wpAny_loadName_local rfl rfl hn rfl ?_
  refine ks_wpAny_isType_cls hC₁ rfl ⟨rfl, ?_⟩
  refine ks_wpAny_call_super hC₁ rfl hx₁ rfl (fun c e => by cases e) (looks_mroIn X₁ T.sub) (fun h₂ hso k₂ => ?_)
  have X₂ : K.In h₂ := X₁.keeps k₂
  have hx₂ := k₂ _ _ hx₁
  have I₂ : InstAt h₂ x (excO C t0) C none := ⟨hx₂, rfl, rfl, trivial⟩
  refine kxs_getMethod kxs_ValueError hso (looks_opaque X₂ T.opq) (l₀ := .ref C :: bm) (fun A Q E s k q => wpAny_bind ((looks_clsIn X₂ hcl) A _ E s k (wpAny_pure q))) rfl X₂ hsup (I₂.type.andThen (looks_subIn X₂ T.veC)) nxC (by decide) ?_
  have k₃ : ∀ b o, h₂.get? b = some o → (h₂.push (kxs_mw "ValueError.__init__" x)).get? b = some o := fun b o e => Heap.get?_push_of_some _ e
  have hmw : (h₂.push (kxs_mw "ValueError.__init__" x)).get? h₂.objs.size = some (kxs_mw "ValueError.__init__" x) := Heap.get?_push_at rfl rfl
  refine kxs_callWith (i := "ValueError.__init__") (x := x) (by rfl) ?_
  refine evalArgs_plain (spliced_cons ?_)
  have hn₃ : (h₂.push (kxs_mw "ValueError.__init__" x)).Ns hp.objs.size (fun z => List.lookup z [(("part" : Str), Value.str y ty), ("self", .ref x)]) := (hn.keeps k₂).keeps k₃
  have hsz : sizeLine = 16777216 := sizeLine_eq
  refine wpAny_JoinedStr (pos := a7) ?_
  have sz : ∀ z : Str, z.length ≤ 2000 → z.length ≤ sizeLine := fun z hz => by
    rw [sizeLine_eq]
    omega
  have hms := T.hms
  refine Calls.Constant_str ⟨ms, _, rfl, sz _ (by rw [Str.length_append]; show 0 + ms.length ≤ 2000; omega), ?_⟩
  have fin : ∀ tt : Nat, ((Str.empty ++ ms) ++ y).length ≤ sizeLine ∧ wpAny (model prog w) (A.deeper (ksEnv qual eScope hp.objs.size fI (.ref cda) cc)) (call (.ref h₂.objs.size) [.str ((Str.empty ++ ms) ++ y) tt]) (fun _ s' => wpAt (model prog w) (A.deeper (ksEnv qual eScope hp.objs.size fI (.ref cda) cc)) (.func (eBody ms a1 a2 a3 a4 a5 a6 a7 a8 a9 q1 q2 q3 q4) (ksEnv qual eScope hp.objs.size fI (.ref cda) cc))
      (execs [.Assign [.Attribute (.Name "self" q1) "part" q2] (.Name "part" q3) q4] (ksEnv qual eScope hp.objs.size fI (.ref cda) cc)) (fun f s' => R (.ok (.ret (match f with | .ret v => v | _ => .none))) s')
        (fun e s' => wpAny (model prog w) (A.deeper (ksEnv qual eScope hp.objs.size fI (.ref cda) cc)) (leaving (ksEnv qual eScope hp.objs.size fI (.ref cda) cc) e) (fun _ s'' => R (.error e) s'') (fun e' s'' => R (.error e') s'') s') s')
      (fun e s' => wpAny (model prog w) (A.deeper (ksEnv qual eScope hp.objs.size fI (.ref cda) cc)) (leaving (ksEnv qual eScope hp.objs.size fI (.ref cda) cc) e) (fun _ s'' => R (.error e) s'') (fun e' s'' => R (.error e') s'') s')
      ⟨h₂.push (kxs_mw "ValueError.__init__" x), g, d, tt + 1, os⟩ := fun tt => by
    refine ⟨sz _ ?_, ?_⟩
    · rw [Str.length_append, Str.length_append]
      show 0 + ms.length + y.length ≤ 2000
      omega
    refine call_mw (h := h₂.push (kxs_mw "ValueError.__init__" x)) (X₂.keeps k₃ _ _ hC) (k₃ _ _ hx₂) hmw (one_size _) (fun h₄ t1 k₄ hx₄ => ?_)
    have keep4 : ∀ b o, b ≠ x → hp.get? b = some o → h₄.get? b = some o := fun b o hb e => k₄ b o hb (k₃ _ _ (k₂ _ _ (k b o e)))
    have X₄ : K.In h₄ := fun b o e => k₄ b o (fun z => by rw [z, hnx] at e; cases e) (k₃ _ _ (X₂ _ _ e))
    have hn₄ : h₄.Ns hp.objs.size (fun z => List.lookup z [(("part" : Str), Value.str y ty), ("self", .ref x)]) := by
      obtain ⟨oL, es, ep, e1, r⟩ := hn₃
      exact ⟨oL, es, ep, k₄ _ _ hxL e1, r⟩
    refine wpAt_of_wpAny ?_
    refine wpAny_execs_cons (plainObj_wpAny_Assign_Attribute ?_)
    refine ldN (v := .str y ty) hn₄ rfl (ldN (v := .ref x) hn₄ rfl ?_)
    refine set_plain X₄ (ox := excO C t1) (od := none) ⟨hx₄, rfl, rfl, trivial⟩ T.sa ?_
    refine exc_osa X₄ hx₄ hcl (show refsVE (.ref C :: bm) = true from hbm) rfl T.noN (fun h₅ tk₅ dx k₅ dn dne hx₅ hn₅ => ?_)
    have big : hp.objs.size ≤ h₄.objs.size := by
      obtain ⟨oL, es, ep, e1, r⟩ := hn₄
      exact Nat.le_of_lt (Heap.lt_size e1)
    exact wpAny_execs_nil (hq h₅ tk₅ dx t1 ⟨fun b o hb e => k₅ b o hb (keep4 b o hb e), hx₅, Nat.le_trans big dn, dne, hn₅⟩)
  refine wpAny_FormattedValue_plain (ldN (v := .str y ty) hn₃ rfl ?_)
  have fin2 := fun tt => (fin tt).2
  refine wpAny_formatField_str ⟨y, _, rfl, (fin 0).1, (fin 0).1, ?_⟩ ⟨y, _, rfl, (fin 0).1, (fin 0).1, ?_⟩ (sz _ (by omega))
  · exact spliced_nil ⟨hmw, fin2 _⟩
  · exact spliced_nil ⟨hmw, fin2 _⟩
/-- a made error -/
structure OwnMade (h h' : Heap) (e C d : Addr) (v : Value) : Prop where
  keep : ∀ b o, h.get? b = some o → h'.get? b = some o
  new : h.objs.size ≤ e
  obj : ∃ oe vs, h'.get? e = some oe ∧ oe.cls = .ref C ∧ oe.dict = some d ∧ oe.data = .fields vs ∧ vs[1]? = some .none
  dbig : h.objs.size ≤ d
  dne : d ≠ e
  ns : h'.Ns1 d (fun y => if y = "part" then some v else none)
theorem err_made (T : ErrTxt prog K mg nmx ms C fI) {y : Str} {ty : Tok} (X : K.In s.heap) (hG : s.heap.Ns mainGlobals mg) (hB : s.heap.Ns builtinsNs mb) (mS : mg "super" = none) (bS : mb "super" = some (.type "super"))
    (hlim : s.heap.NoLimit) (hroom : A.depth + 1 < recursionLimit) (hy : y.length ≤ 1000)
    (hq : ∀ h' tk e d, OwnMade s.heap h' e C d (.str y ty) → R (.ok (.ret (.ref e))) { s with heap := h', toks := tk }) :
    codeAny (model prog w) A (.call (.ref C) ⟨[.str y ty], []⟩) R s := by
  obtain ⟨nm, q, N, bs, bm, sn, sub, ab, col, dd, k0, k1, k2, k3, k5, hC, hbm⟩ := T.cls
  obtain ⟨hp, g, dr, tk, os⟩ := s
  have k : ∀ b o, hp.get? b = some o → ((hp.push (kdv_tup [.str y ty])).push (excO C hp.objs.size)).get? b = some o := fun b o e => Heap.get?_push_of_some _ (Heap.get?_push_of_some _ e)
  have hget : ((hp.push (kdv_tup [.str y ty])).push (excO C hp.objs.size)).get? (hp.objs.size + 1) = some (excO C hp.objs.size) := by heap_get
  have hnx : K.lookup (hp.objs.size + 1) = none := by
    cases e : K.lookup (hp.objs.size + 1) with
    | none => rfl
    | some o =>
      have z : hp.get? (hp.objs.size + 1) = some o := X _ _ e
      exact absurd (Nat.lt_of_succ_lt (Heap.lt_size z)) (Nat.lt_irrefl _)
  refine call_own F.excBase_ValueError (fun X => refsVE_contains X bm hbm) (X _ _ hC) (looks_findIn X T.iC) (fun self => bind_fn X self T.tC) (one_size _) ?_
  refine err_init (s := ⟨(hp.push (kdv_tup [.str y ty])).push (excO C hp.objs.size), g, dr, tk, os⟩) T (X.keeps k) (hG.keeps k) (hB.keeps k) mS bS (hlim.keeps k) hget hnx ?_ hy fun h' tk' dx t1 ⟨k', hx, dn, dne, hns⟩ => ?_
  · show A.depth + 1 < recursionLimit
    exact hroom
  · have old : ∀ b o, hp.get? b = some o → h'.get? b = some o := fun b o e => k' b o (Nat.ne_of_lt (Nat.lt_succ_of_lt (Heap.lt_size e))) (k b o e)
    have z : hp.objs.size + 1 + 1 ≤ dx := by
      first
        | (simpa only [Heap.size_push] using dn)
        | exact dn
        | (have q := dn; rw [Heap.size_push, Heap.size_push] at q; exact q)
    exact ⟨rfl, hq h' tk' (hp.objs.size + 1) dx ⟨old, Nat.le_succ _, ⟨_, _, hx, rfl, rfl, rfl, rfl⟩, Nat.le_trans (Nat.le_trans (Nat.le_succ _) (Nat.le_succ _)) z, dne, hns⟩⟩
end
end ErrX
end PySem
namespace L2
open PySem PySem.Spec PyProof.Rows
theorem relO_part {v : V} {v' : Value} (r : RelV v v') (f : Str) : RelO (List.lookup f [(("part" : Str), v)]) (if f = "part" then some v' else none) := by
  by_cases hw : f = "part"
  · subst hw
    rw [if_pos rfl]
    have q : List.lookup ("part" : Str) [(("part" : Str), v)] = some v := by simp [List.lookup]
    rw [q]
    exact r
  · rw [if_neg hw]
    have qw : (f == ("part" : Str)) = false := by simpa using hw
    have q2 : List.lookup f [(("part" : Str), v)] = none := by simp [List.lookup, qw]
    rw [q2]
    trivial
section
variable {X : Cx} {nm ms : Str} {C fI : Addr}
/-- C(e), e a text -/
def tMkE (C : Addr) (ta : TA) : St → Hp → XK → Prop := fun σ H Q => ta σ H fun vs H1 => ∃ y : Str, vs = [.str y] ∧ y.length ≤ 1000 ∧ ∀ d, H1 d = none → Q (.ref C) (some d) (upd H1 d (.xd [(("part" : Str), .str y)]))
theorem pmk_err {a : Expr} {ta : TA} {p pos : Pos} {k : Nat} (T : PySem.ErrX.ErrTxt X.prog X.K X.mg nm ms C fI) (hr : Room k X.A) (mS : X.mg "super" = none) (ha : PA X [a] ta) (hg : Gl X nm) (hd : (nm == ("__debug__" : Str)) = false)
    (he : starEach (a :: []) X.env = (false, eval a X.env) :: starEach [] X.env := by rfl) (hpl : (backTo pos (starEach [] X.env)).any (·.1) = false := by rfl) :
    PMk X (.Call (.Name nm p) [a] [] pos) (tMkE C ta) := by
  intro pins s σ H Q I h
  refine wpAny_Call_Name_kw (ld_glob I hg T.gC ?_ hd)
  refine PySem.W.callWith_K (h₀ := X.base) I.ok.mod.kin T.kC (thn (ha.run pos pins s σ H _ I h) fun us s1 hh => ?_) he hpl
  obtain ⟨vs, H1, I1, r1, y, ev, hy, q1⟩ := hh
  subst ev
  refine ⟨I1.kIn, ?_⟩
  cases r1 with
  | cons rv rn =>
    rename_i v' us'
    cases rn
    obtain ⟨ty, rfl⟩ := (show ∃ t, v' = Value.str y t from rv)
    show wpAny _ _ (call (.ref C) [.str y ty]) _ _ _
    have hlim := I1.nolimit
    have hG := I1.mod.glob.keeps I1.bk
    obtain ⟨mb, hB0, hB1⟩ := I1.mod.blt
    have hB := hB0.keeps I1.bk
    have bS : mb "super" = some (.type "super") := (hB1 "super" (by decide)).trans rfl
    obtain ⟨hp, g, dr, tk, os⟩ := s1
    refine wpAny_call (PySem.ErrX.err_made T I1.kIn hG hB mS bS hlim (by have := hr.dp; omega) hy fun h' tk' e d M => ?_)
    show MkP X pins σ Q (.ref e) ⟨h', g, dr, tk', os⟩
    obtain ⟨oe, fv, hoe, hc, hd, hdat, h1⟩ := M.obj
    have hns := M.ns
    obtain ⟨G', g1, g2⟩ := restrict h' fun b => decide (b ≠ e)
    have gk : ∀ b, b ≠ e → G'.get? b = h'.get? b := fun b hb => g1 b (decide_eq_true hb)
    have ge : G'.get? e = none := g2 e (by simp)
    have old : ∀ b o, hp.get? b = some o → G'.get? b = some o := fun b o q => (gk b (Nat.ne_of_lt (Nat.lt_of_lt_of_le (Heap.lt_size q) M.new))).trans (M.keep b o q)
    have ob : ObjOk X.prog X.w (upd H1 d (.xd [(("part" : Str), .str y)])) G' d (.xd [(("part" : Str), .str y)]) :=
      ⟨_, hns.at (fun o q => (gk d M.dne).trans q), fun f => relO_part rv f⟩
    have J : Inv X pins σ (upd H1 d (.xd [(("part" : Str), .str y)])) ⟨G', g, dr, tk', os⟩ := I1.laid (t' := tk') old M.dbig ob
    refine ⟨e, oe, fv, ⟨G', g, dr, tk', os⟩, _, .ref C, some d, rfl, J, fun b o q => ?_, ge, hoe, ⟨hc, hd⟩, hdat, h1, ?_, rfl, I1.bare, raises_own T.exC T.tyC, q1 d (I1.hok.fresh M.dbig)⟩
    · by_cases hb : b = e
      · have q' : G'.get? b = some o := q
        rw [hb, ge] at q'; cases q'
      · exact (gk b hb).symm.trans q
    · rw [upd_ne (Ne.symm M.dne)]
      exact I1.hok.fresh M.new
/-- raise C(e) -/
def tRaiseE (C : Addr) (W : WX) (ta : TA) : TS := fun _ σ H => tMkE C ta σ H fun cls d H' => W cls d σ H'
theorem ps_raiseE {a : Expr} {ta : TA} {W : WX} {p pos pos2 : Pos} {k : Nat} (hc : X.calm = true) (T : PySem.ErrX.ErrTxt X.prog X.K X.mg nm ms C fI) (hr : Room k X.A) (tk : Takes X W) (mS : X.mg "super" = none) (ha : PA X [a] ta) (hg : Gl X nm) (hd : (nm == ("__debug__" : Str)) = false)
    (he : starEach (a :: []) X.env = (false, eval a X.env) :: starEach [] X.env := by rfl) (hpl : (backTo pos (starEach [] X.env)).any (·.1) = false := by rfl) :
    PS X (.Raise (some (.Call (.Name nm p) [a] [] pos)) none pos2) (tRaiseE C W ta) := ps_raise hc tk (pmk_err T hr mS ha hg hd he hpl)
/-- x.part, x the error that the suite holds (at a; its class cls, its dict d) -/
def tPartE (C : Addr) (a : Addr) (cls : Value) (d : Option Addr) (te : TE) : TE := fun σ H Q => te σ H fun x H1 => x = .ref a ∧ cls = .ref C ∧ ∃ (dd : Addr) (v : V), d = some dd ∧ H1 dd = some (.xd [(("part" : Str), v)]) ∧ Q v H1
theorem pe_partE {a : Addr} {oe : Obj} {cls : Value} {d : Option Addr} {pn : List (Addr × Obj)} {e : Expr} {te : TE} {pos : Pos} (T : PySem.ErrX.ErrTxt X.prog X.K X.mg nm ms C fI) (hz : Zc cls d oe) (hf : ∃ vs, oe.data = .fields vs) (he : PE (X.suite a ((a, oe) :: pn)) e te)
    (hb : attributeBase e "part" X.env (eval e X.env) = eval e X.env := by rfl) :
    PE (X.suite a ((a, oe) :: pn)) (.Attribute e "part" pos) (tPartE C a cls d te) := by
  refine ⟨fun pins s σ H Q I h => ?_⟩
  refine attr_of hb (thn (he.run pins s σ H _ I h) fun u s1 hh => ?_)
  obtain ⟨x, H1, I1, rx, ex, ec, dd, v, ed, ea, q⟩ := hh
  subst ex
  obtain rfl : u = Value.ref a := rx
  subst ec
  subst ed
  obtain ⟨ha, _⟩ := I1.pin (a, oe) (List.mem_append_left _ List.mem_cons_self)
  obtain ⟨vs, hd⟩ := hf
  have hx : ObjOk X.prog X.w H1 s1.heap dd (.xd [(("part" : Str), v)]) := I1.hok dd _ ea
  obtain ⟨mA, hns, hr⟩ := hx
  obtain ⟨od, ho, hl⟩ := lookIn_ns hns
  have l : List.lookup ("part" : Str) [(("part" : Str), v)] = some v := by simp [List.lookup]
  obtain ⟨u, hu, ru⟩ := RelO.some_of (v := v) (o := mA "part") (by rw [← l]; exact hr "part")
  have J : PySem.W.InstAt s1.heap a oe C (some od) := ⟨ha, hz.1, by unfold PySem.W.notCls; rw [hd] <;> rfl, by rw [hz.2]; exact ho⟩
  exact HandSPX.exc_get I1.kIn J T.ga T.gg T.exC (PySem.W.findObj_own T.hdC T.noN rfl (by rw [hl, hu])) (handed_of ru) ⟨v, H1, I1.tok _, ru, q⟩
end
end L2
set_option Elab.async false
set_option linter.all false
set_option maxRecDepth 100000
set_option maxHeartbeats 2000000
namespace PySem
namespace ErrW
open PySem.W PySem.Calls PyProof.Rows PySem.HandSPX PySem.ErrX
/-- (self, part, place) -/
def eArgs2 (p1 p2 p3 : Pos) : Arguments := { posonlyargs := [], args := [{ arg := "self", annotation := none, pos := p1 }, { arg := "part", annotation := none, pos := p2 }, { arg := "place", annotation := none, pos := p3 }], vararg := none, kwonlyargs := [], kw_defaults := [], kwarg := none, defaults := [] }
/-- the three rows of the body -/
def eRows (q1 q2 q3 q4 r1 r2 r3 r4 : Pos) : List Stmt := [.Assign [.Attribute (.Name "self" q1) "part" q2] (.Name "part" q3) q4, .Assign [.Attribute (.Name "self" r1) "place" r2] (.Name "place" r3) r4]
def eBody2 (ms mt : Str) (a1 a2 a3 a4 a5 a6 b1 b2 b3 a7 a8 a9 : Pos) (q1 q2 q3 q4 r1 r2 r3 r4 : Pos) : List Stmt :=
  .Expr (.Call (.Attribute (.Call (.Name "super" a1) [] [] a2) "__init__" a3) [.JoinedStr [.Constant (.str ms) 0 a4, .FormattedValue (.Name "part" a5) (-1) none a6, .Constant (.str mt) 0 b1, .FormattedValue (.Name "place" b2) (-1) none b3] a7] [] a8) a9 :: eRows q1 q2 q3 q4 r1 r2 r3 r4
def eScope2 : Scope := { kind := .function, names := [(PySem.Str.ofString "self", .local), (PySem.Str.ofString "part", .local), (PySem.Str.ofString "place", .local), (PySem.Str.ofString "__class__", .free), (PySem.Str.ofString "super", .globalImplicit)], isGenerator := false, isCoroutine := false, more := [] }
/-- what the written part says of the class x (at C) and of its own maker (at fI) -/
structure ErrTw (prog : Program) (K : Frag) (mg : Str → Option Value) (x ms mt : Str) (C fI : Addr) : Prop where
  gC : mg x = some (.ref C)
  cls : ∃ nm q N bs bm sn sub ab col dd k0 k1 k2 k3 k5, K.lookup C = some (excClassObj nm q C N bs bm true sn sub ab col dd k0 k1 k2 k3 k5 "ValueError.__new__") ∧ refsVE bm = true
  sa : findIn K (.ref C) "__setattr__" = some (some (.builtin "object.__setattr__"))
  ga : findIn K (.ref C) "__getattribute__" = some (some (.builtin "BaseException.__getattribute__"))
  gg : findIn K (.ref C) "__getattr__" = some none
  noN : findIn K (.ref C) "part" = some none
  noM : findIn K (.ref C) "place" = some none
  iC : findIn K (.ref C) "__init__" = some (some (.ref fI))
  tC : typeIn K (.ref fI) = some (.type "function")
  kC : keepIn K (.ref C) = true
  exC : subIn K (.ref C) (.type "BaseException") = some true
  veC : subIn K (.ref C) (.type "ValueError") = some true
  tyC : typeIn K (.ref C) = some (.type "type")
  hdC : hasDictIn K C = true
  te : exmOne K (.ref C) (.ref C) = some true
  opq : nsIn K cStatics "thirdparty.any" = some none
  sup : ks_superIn K C C "__init__" = some (some (.builtin "ValueError.__init__"))
  sub : mroIn K C (.ref C) = some true
  htop : (prog.main.scope.names.lookup ("super" : Str)).isSome = false
  hms : ms.length ≤ 1000
  hmt : mt.length ≤ 1000
  fn : ∃ (oc : Value) (od : Option Addr) (doc pm : Value) (an : Option Addr) (cda cc : Addr) (ct : Value) (osl : Array (Option Value)) (qual : Str) (p1 p2 p3 a1 a2 a3 a4 a5 a6 b1 b2 b3 a7 a8 a9 q1 q2 q3 q4 r1 r2 r3 r4 : Pos)
      (ccl cl : Value) (cdd cld : Option Addr) (vs : Array Value) (ccs csl : Array (Option Value)) (file : Str) (tf : Tok),
    K.lookup fI = some ⟨oc, od, .func (ksFn "__init__" qual (eArgs2 p1 p2 p3) (eBody2 ms mt a1 a2 a3 a4 a5 a6 b1 b2 b3 a7 a8 a9 q1 q2 q3 q4 r1 r2 r3 r4) eScope2 .none .none doc pm an (.ref cda) ct cc), osl⟩ ∧ codeIn K (.ref cda) qual = true ∧
    K.lookup cda = some ⟨ccl, cdd, .fields vs, ccs⟩ ∧ vs[2]? = some (.str file tf) ∧ ((prog.main.file : Str) == file) = true ∧ K.lookup cc = some ⟨cl, cld, .cell (some (.ref C)), csl⟩ ∧
    (a3.endLine == a8.line) = true
/-- what the maker leaves of a fresh error at x -/
structure InitEnd2 (h h' : Heap) (x C dx t1 : Addr) (v u : Value) : Prop where
  keep : ∀ b o, b ≠ x → h.get? b = some o → h'.get? b = some o
  obj : h'.get? x = some { cls := .ref C, dict := some dx, data := .fields #[.ref t1, .none, .none, .none, .bool false, .none] }
  dbig : h.objs.size ≤ dx
  dne : dx ≠ x
  ns : h'.Ns1 dx (fun y => if y = "place" then some u else if y = "part" then some v else none)
section
variable {prog : Program} {w : World} {A : Around} {E : Value → Shared → Prop} {R : Result → Shared → Prop} {s : Shared} {K : Frag} {mg mb : Str → Option Value} {nmx ms mt : Str} {C fI : Addr}
theorem err_init2 (T : ErrTw prog K mg nmx ms mt C fI) {x t0 ap : Addr} {y : Str} {ty : Tok} {ot : Obj} {items : Array Value} {n : Nat} {ts : List Str} (X : K.In s.heap) (hG : s.heap.Ns mainGlobals mg) (hB : s.heap.Ns builtinsNs mb) (mS : mg "super" = none) (bS : mb "super" = some (.type "super"))
    (hlim : s.heap.NoLimit) (hx : s.heap.get? x = some (excO C t0)) (hnx : K.lookup x = none) (hroom : A.depth < recursionLimit) (hu : A.units + 100 < cLine) (hy : y.length ≤ 1000) (hap : s.heap.get? ap = some ot) (hoc : ot.cls = .type "tuple") (hod : ot.data = .seq items n) (hT : ReprAll prog w items.toList ts) (hts : (tupleText ts).length ≤ 1000)
    (hq : ∀ h' tk dx t1, InitEnd2 s.heap h' x C dx t1 (.str y ty) (.ref ap) → R (.ok (.ret .none)) { s with heap := h', toks := tk }) :
    codeAny (model prog w) A (.call (.ref fI) ⟨[.ref x, .str y ty, .ref ap], []⟩) R s := by
  obtain ⟨oc, od, doc, pm, an, cda, cc, ct, osl, qual, p1, p2, p3, a1, a2, a3, a4, a5, a6, b1, b2, b3, a7, a8, a9, q1, q2, q3, q4, r1, r2, r3, r4, ccl, cl, cdd, cld, vs, ccs, csl, file, tf, ho, hcd, hcda, hvs, hfile, hcell, hline⟩ := T.fn
  obtain ⟨nm, q, N, bs, bm, sn, sub, ab, col, dd, k0, k1, k2, k3, k5, hC, hbm⟩ := T.cls
  have hcl : clsIn K C = some { name := nm, bases := bs, mro := .ref C :: bm, ns := N, qualname := q, hasDict := true, slotNames := sn, subclasses := sub, abstract := ab, collection := col, hasDel := false } := by unfold clsIn; rw [hC] <;> rfl
  have hsup : alongIn K "__init__" ((((Value.ref C :: bm)).dropWhile (· != .ref C)).drop 1) = some (some (.builtin "ValueError.__init__")) := by
    have z := T.sup
    unfold ks_superIn at z
    rw [hcl] at z
    exact z
  refine ks_codeAny_call_defAt (fd := ksFn "__init__" qual (eArgs2 p1 p2 p3) (eBody2 ms mt a1 a2 a3 a4 a5 a6 b1 b2 b3 a7 a8 a9 q1 q2 q3 q4 r1 r2 r3 r4) eScope2 .none .none doc pm an (.ref cda) ct cc) (body := eBody2 ms mt a1 a2 a3 a4 a5 a6 b1 b2 b3 a7 a8 a9 q1 q2 q3 q4 r1 r2 r3 r4)
    (binds := [("self", .ref x), ("part", .str y ty), ("place", .ref ap)]) hroom (X _ _ ho) rfl hlim (codeRec_of X hcd) rfl (BindsTo.of_eq (by first | rfl | with_unfolding_all rfl)) (show ∀ x ∈ eScope2.names, x.2 ≠ .cell by decide) (fun z hz => by
      rcases List.mem_cons.mp hz with rfl | hz
      · rfl
      rcases List.mem_cons.mp hz with rfl | hz
      · rfl
      rcases List.mem_cons.mp hz with rfl | hz
      · rfl
      cases hz) (fun h₁ hn k => ?_) rfl rfl rfl
  obtain ⟨hp, g, d, t, os⟩ := s
  have X₁ : K.In h₁ := X.keeps k
  have hx₁ := k _ _ hx
  have hC₁ := X₁ _ _ hC
  show _root_.PySem.wpAt _ _ (.func _ (ksEnv qual eScope2 hp.objs.size fI (.ref cda) cc)) (execs _ (ksEnv qual eScope2 hp.objs.size fI (.ref cda) cc)) _ _ _
  have nxC : x ≠ C := fun z => by
    rw [z, hC] at hnx
    cases hnx
  have hxL : hp.objs.size ≠ x := Nat.ne_of_gt (Heap.lt_size hx)
  -- the first row
  refine ks_wpAt_execs_cons (ks_wpAt_Expr_any (ks_wpAt_MethodCall (pl := do return (← importBound (.Call (.Name "super" a1) [] [] a2) (ksEnv qual eScope2 hp.objs.size fI (.ref cda) cc)).getD true) ?_ (call_tree hline)))
  refine ks_wpAt_super_base (env := ksEnv qual eScope2 hp.objs.size fI (.ref cda) cc) (file := file) (tf := tf) (vs := vs) rfl rfl (by decide) rfl (X₁ _ _ ho) rfl rfl rfl (X₁ _ _ hcda) rfl hvs hfile T.htop ?_
  refine ks_loadName_global rfl rfl (loadGlobal_builtin (env := ksEnv qual eScope2 hp.objs.size fI (.ref cda) cc) (mg := mg) (mb := mb) (hG.keeps k) mS (hB.keeps k) bS ⟨rfl, ?_⟩)
  refine wpAny_loadName_free rfl rfl rfl ⟨_, X₁ _ _ hcell, rfl⟩ ?_
  refine wpAny_loadName_local rfl rfl hn rfl ?_
  refine ks_wpAny_isType_cls hC₁ rfl ⟨rfl, ?_⟩
  refine ks_wpAny_call_super hC₁ rfl hx₁ rfl (fun c e => by cases e) (looks_mroIn X₁ T.sub) (fun h₂ hso k₂ => ?_)
  have X₂ : K.In h₂ := X₁.keeps k₂
  have hx₂ := k₂ _ _ hx₁
  have I₂ : InstAt h₂ x (excO C t0) C none := ⟨hx₂, rfl, rfl, trivial⟩
  refine kxs_getMethod kxs_ValueError hso (looks_opaque X₂ T.opq) (l₀ := .ref C :: bm) (fun A Q E s k q => wpAny_bind ((looks_clsIn X₂ hcl) A _ E s k (wpAny_pure q))) rfl X₂ hsup (I₂.type.andThen (looks_subIn X₂ T.veC)) nxC (by decide) ?_
  have k₃ : ∀ b o, h₂.get? b = some o → (h₂.push (kxs_mw "ValueError.__init__" x)).get? b = some o := fun b o e => Heap.get?_push_of_some _ e
  have hmw : (h₂.push (kxs_mw "ValueError.__init__" x)).get? h₂.objs.size = some (kxs_mw "ValueError.__init__" x) := Heap.get?_push_at rfl rfl
  refine kxs_callWith (i := "ValueError.__init__") (x := x) (by rfl) ?_
  refine evalArgs_plain (spliced_cons ?_)
  have hn₃ : (h₂.push (kxs_mw "ValueError.__init__" x)).Ns hp.objs.size (fun z => List.lookup z [(("place" : Str), Value.ref ap), ("part", .str y ty), ("self", .ref x)]) := (hn.keeps k₂).keeps k₃
  have hsz : sizeLine = 16777216 := sizeLine_eq
  refine wpAny_JoinedStr (pos := a7) ?_
  have sz : ∀ z : Str, z.length ≤ 2000 → z.length ≤ sizeLine := fun z hz => by
    rw [sizeLine_eq]
    omega
  have hms := T.hms
  have hmt := T.hmt
  have len1 : (Str.empty ++ ms).length ≤ 1000 := by rw [Str.length_append]; show 0 + ms.length ≤ 1000; omega
  refine Calls.Constant_str ⟨ms, _, rfl, sz _ (by omega), ?_⟩
  refine wpAny_FormattedValue_plain (ldN (v := .str y ty) hn₃ rfl ?_)
  have lens : ∀ m : Str, m.length ≤ 1005 → ((((Str.empty ++ ms) ++ y) ++ mt) ++ m).length ≤ sizeLine := fun m hm => by
    rw [hsz]
    simp only [Str.length_append]
    show 0 + ms.length + y.length + mt.length + m.length ≤ 16777216
    omega
  have kp : ∀ b o, hp.get? b = some o → (h₂.push (kxs_mw "ValueError.__init__" x)).get? b = some o := fun b o e => k₃ _ _ (k₂ _ _ (k b o e))
  have l2 : ((Str.empty ++ ms) ++ y).length ≤ sizeLine := by
    rw [hsz]
    simp only [Str.length_append]
    show 0 + ms.length + y.length ≤ 16777216
    omega
  have l3 : (((Str.empty ++ ms) ++ y) ++ mt).length ≤ sizeLine := by
    rw [hsz]
    simp only [Str.length_append]
    show 0 + ms.length + y.length + mt.length ≤ 16777216
    omega
  have un : (A.deeper (ksEnv qual eScope2 hp.objs.size fI (.ref cda) cc)).units + 2 < cLine := by
    show A.units + 3 + 2 < cLine
    omega
  refine wpAny_formatField_str ⟨y, _, rfl, l2, ?_⟩ ⟨y, _, rfl, l2, ?_⟩ (sz _ (by omega))
  all_goals
    refine Calls.Constant_str ⟨mt, _, rfl, l3, ?_⟩
    refine wpAny_FormattedValue_plain (ldN (v := .ref ap) hn₃ rfl ?_)
    refine fmt_tuple un (kp _ _ hap) hoc hod hT (Nat.le_trans hts (by rw [hsz]; decide)) fun m u tk hm => ?_
    refine ⟨m, u, rfl, lens m (by omega), lens m (by omega), ?_⟩
    refine spliced_nil ⟨hmw, ?_⟩
    refine call_mw (h := h₂.push (kxs_mw "ValueError.__init__" x)) (X₂.keeps k₃ _ _ hC) (k₃ _ _ hx₂) hmw (one_size _) (fun h₄ t1 k₄ hx₄ => ?_)
    have keep4 : ∀ b o, b ≠ x → hp.get? b = some o → h₄.get? b = some o := fun b o hb e => k₄ b o hb (kp b o e)
    have X₄ : K.In h₄ := fun b o e => k₄ b o (fun z => by rw [z, hnx] at e; cases e) (k₃ _ _ (X₂ _ _ e))
    have hn₄ : h₄.Ns hp.objs.size (fun z => List.lookup z [(("place" : Str), Value.ref ap), ("part", .str y ty), ("self", .ref x)]) := by
      obtain ⟨oL, es, ep, e1, r⟩ := hn₃
      exact ⟨oL, es, ep, k₄ _ _ hxL e1, r⟩
    have big : hp.objs.size ≤ h₄.objs.size := by
      obtain ⟨oL, es, ep, e1, r⟩ := hn₄
      exact Nat.le_of_lt (Heap.lt_size e1)
    refine wpAt_of_wpAny ?_
    refine wpAny_execs_cons (plainObj_wpAny_Assign_Attribute ?_)
    refine ldN (v := .str y ty) hn₄ rfl (ldN (v := .ref x) hn₄ rfl ?_)
    refine set_plain X₄ (ox := excO C t1) (od := none) ⟨hx₄, rfl, rfl, trivial⟩ T.sa ?_
    refine exc_osa X₄ hx₄ hcl (show refsVE (.ref C :: bm) = true from hbm) rfl T.noN (fun h₅ tk₅ dx k₅ dn dne hx₅ hn₅ => ?_)
    -- the second one
    have keep5 : ∀ b o, b ≠ x → hp.get? b = some o → h₅.get? b = some o := fun b o hb e => k₅ b o hb (keep4 b o hb e)
    have X₅ : K.In h₅ := fun b o e => k₅ b o (fun z => by rw [z, hnx] at e; cases e) (X₄ _ _ e)
    have hn₅' : h₅.Ns hp.objs.size (fun z => List.lookup z [(("place" : Str), Value.ref ap), ("part", .str y ty), ("self", .ref x)]) := by
      obtain ⟨oL, es, ep, e1, r⟩ := hn₄
      exact ⟨oL, es, ep, k₅ _ _ hxL e1, r⟩
    obtain ⟨oD, _, _, hoD, _, _⟩ := hn₅.count (Within.cons "part" (.str y ty) Within.nil)
    refine wpAny_execs_cons (plainObj_wpAny_Assign_Attribute ?_)
    refine ldN (v := .ref ap) hn₅' rfl (ldN (v := .ref x) hn₅' rfl ?_)
    refine set_plain X₅ (ox := { cls := .ref C, dict := some dx, data := .fields #[.ref t1, .none, .none, .none, .bool false, .none] }) (od := some oD) ⟨hx₅, rfl, rfl, hoD⟩ T.sa ?_
    refine OEX.osa_old X₅ hx₅ hn₅ (Within.cons "part" (.str y ty) Within.nil) (by decide) hcl (show refsVE (.ref C :: bm) = true from hbm) rfl T.noM (fun h₆ tk₆ k₆ hn₆ => ?_)
    have ndx : ∀ {b : Addr} {o : Obj}, h₅.get? b = some o → hp.get? b = some o → b ≠ dx := fun {b o} _ e => Nat.ne_of_lt (Nat.lt_of_lt_of_le (Heap.lt_size e) (Nat.le_trans big dn))
    refine wpAny_execs_nil (hq h₆ tk₆ dx t1 ⟨fun b o hb e => k₆ b o (ndx (keep5 b o hb e) e) (keep5 b o hb e), k₆ _ _ (Ne.symm dne) hx₅, Nat.le_trans big dn, dne, hn₆⟩)
theorem two_size (u v : Value) : [u, v].length ≤ sizeLine := by
  rw [sizeLine_eq]
  exact (by decide : 2 ≤ 16777216)
/-- a made error -/
structure OwnMade2 (h h' : Heap) (e C d : Addr) (v u : Value) : Prop where
  keep : ∀ b o, h.get? b = some o → h'.get? b = some o
  new : h.objs.size ≤ e
  obj : ∃ oe vs, h'.get? e = some oe ∧ oe.cls = .ref C ∧ oe.dict = some d ∧ oe.data = .fields vs ∧ vs[1]? = some .none
  dbig : h.objs.size ≤ d
  dne : d ≠ e
  ns : h'.Ns1 d (fun y => if y = "place" then some u else if y = "part" then some v else none)
theorem err_made2 (T : ErrTw prog K mg nmx ms mt C fI) {y : Str} {ty : Tok} {ap : Addr} {ot : Obj} {items : Array Value} {n : Nat} {ts : List Str} (X : K.In s.heap) (hG : s.heap.Ns mainGlobals mg) (hB : s.heap.Ns builtinsNs mb) (mS : mg "super" = none) (bS : mb "super" = some (.type "super"))
    (hlim : s.heap.NoLimit) (hroom : A.depth + 1 < recursionLimit) (hu : A.units + 200 < cLine) (hy : y.length ≤ 1000) (hap : s.heap.get? ap = some ot) (hoc : ot.cls = .type "tuple") (hod : ot.data = .seq items n) (hT : ReprAll prog w items.toList ts) (hts : (tupleText ts).length ≤ 1000)
    (hq : ∀ h' tk e d, OwnMade2 s.heap h' e C d (.str y ty) (.ref ap) → R (.ok (.ret (.ref e))) { s with heap := h', toks := tk }) :
    codeAny (model prog w) A (.call (.ref C) ⟨[.str y ty, .ref ap], []⟩) R s := by
  obtain ⟨nm, q, N, bs, bm, sn, sub, ab, col, dd, k0, k1, k2, k3, k5, hC, hbm⟩ := T.cls
  obtain ⟨hp, g, dr, tk, os⟩ := s
  have k : ∀ b o, hp.get? b = some o → ((hp.push (kdv_tup [.str y ty, .ref ap])).push (excO C hp.objs.size)).get? b = some o := fun b o e => Heap.get?_push_of_some _ (Heap.get?_push_of_some _ e)
  have hget : ((hp.push (kdv_tup [.str y ty, .ref ap])).push (excO C hp.objs.size)).get? (hp.objs.size + 1) = some (excO C hp.objs.size) := by heap_get
  have hnx : K.lookup (hp.objs.size + 1) = none := by
    cases e : K.lookup (hp.objs.size + 1) with
    | none => rfl
    | some o =>
      have z : hp.get? (hp.objs.size + 1) = some o := X _ _ e
      exact absurd (Nat.lt_of_succ_lt (Heap.lt_size z)) (Nat.lt_irrefl _)
  refine call_own F.excBase_ValueError (fun X => refsVE_contains X bm hbm) (X _ _ hC) (looks_findIn X T.iC) (fun self => bind_fn X self T.tC) (two_size _ _) ?_
  refine err_init2 (s := ⟨(hp.push (kdv_tup [.str y ty, .ref ap])).push (excO C hp.objs.size), g, dr, tk, os⟩) T (X.keeps k) (hG.keeps k) (hB.keeps k) mS bS (hlim.keeps k) hget hnx ?_ ?_ hy (k _ _ hap) hoc hod hT hts fun h' tk' dx t1 ⟨k', hx, dn, dne, hns⟩ => ?_
  · show A.depth + 1 < recursionLimit
    exact hroom
  · show A.units + 1 + 100 < cLine
    omega
  · have old : ∀ b o, hp.get? b = some o → h'.get? b = some o := fun b o e => k' b o (Nat.ne_of_lt (Nat.lt_succ_of_lt (Heap.lt_size e))) (k b o e)
    have z : hp.objs.size + 1 + 1 ≤ dx := by
      first
        | (simpa only [Heap.size_push] using dn)
        | exact dn
        | (have q := dn; rw [Heap.size_push, Heap.size_push] at q; exact q)
    exact ⟨rfl, hq h' tk' (hp.objs.size + 1) dx ⟨old, Nat.le_succ _, ⟨_, _, hx, rfl, rfl, rfl, rfl⟩, Nat.le_trans (Nat.le_trans (Nat.le_succ _) (Nat.le_succ _)) z, dne, hns⟩⟩
end
end ErrW
end PySem
namespace L2
open PySem PySem.Spec PyProof.Rows
/-- the texts of small ints -/
def intTx (pl : List Int) : List Str := pl.map fun i => ((toString i : String) : Str)
theorem short_int {i : Int} (h0 : 0 ≤ i) (h1 : i < 100) : (((toString i : String) : Str)).length ≤ 4 := by
  have key : ∀ n : Fin 100, (((toString ((n : Nat) : Int) : String) : Str)).length ≤ 4 := by decide +kernel
  obtain ⟨n, rfl⟩ : ∃ n : Nat, i = (n : Int) := ⟨i.toNat, by omega⟩
  exact key ⟨n, by omega⟩
theorem repr_ints {prog : Program} {w : World} : ∀ {pl : List Int} {its : List Value}, Vals (pl.map V.int) its → (∀ i ∈ pl, 0 ≤ i ∧ i < 100) → ReprAll prog w its (intTx pl)
  | [], _, r, _ => by
    cases r
    exact .nil
  | i :: pl, _, r, h => by
    cases r with
    | cons r1 r2 =>
      obtain ⟨t, rfl⟩ := r1
      have hi := h i List.mem_cons_self
      exact .cons (ReprIs.int t (by
        have : i.natAbs < 2 ^ 1920 := Nat.lt_of_lt_of_le (by omega : i.natAbs < 128) (by decide +kernel)
        by_cases z : i.natAbs = 0
        · rw [z]; decide
        · exact (Nat.log2_lt z).mpr this)) (repr_ints r2 fun z hz => h z (List.mem_cons_of_mem _ hz))
theorem tup_short {pl : List Int} (h : ∀ i ∈ pl, 0 ≤ i ∧ i < 100) (l : pl.length ≤ 50) : (tupleText (intTx pl)).length ≤ 1000 := by
  have h1 := fmt_text (intTx pl)
  have h2 : ∀ pl : List Int, (∀ i ∈ pl, 0 ≤ i ∧ i < 100) → piled (intTx pl) ≤ 6 * pl.length := fun pl => by
    induction pl with
    | nil => intro _; exact Nat.le_refl _
    | cons i pl ih =>
      intro h
      have a := short_int (h i List.mem_cons_self).1 (h i List.mem_cons_self).2
      have b := ih fun z hz => h z (List.mem_cons_of_mem _ hz)
      show piled (((toString i : String) : Str) :: intTx pl) ≤ _
      rw [piled_cons, List.length_cons]
      omega
  have := h2 pl h
  omega
theorem relO_two {v u : V} {v' u' : Value} (r : RelV v v') (q : RelV u u') (f : Str) : RelO (List.lookup f [(("place" : Str), u), ("part", v)]) (if f = "place" then some u' else if f = "part" then some v' else none) := by
  by_cases hp : f = "place"
  · subst hp
    rw [if_pos rfl]
    have e : List.lookup ("place" : Str) [(("place" : Str), u), ("part", v)] = some u := by simp [List.lookup]
    rw [e]
    exact q
  · rw [if_neg hp]
    have qw : (f == ("place" : Str)) = false := by simpa using hp
    have e : List.lookup f [(("place" : Str), u), ("part", v)] = List.lookup f [(("part" : Str), v)] := by simp [List.lookup, qw]
    rw [e]
    exact relO_part r f
section
variable {X : Cx} {nm ms mt : Str} {C fI : Addr}
/-- C(e, p): e a text, p a tuple of small ints -/
def tMkE2 (K : PySem.W.Frag) (C : Addr) (ta : TA) : St → Hp → XK → Prop := fun σ H Q => ta σ H fun vs H1 => ∃ (y : Str) (ap : Addr) (pl : List Int), vs = [.str y, .ref ap] ∧ y.length ≤ 1000 ∧ SqT K H1 ap (pl.map V.int) ∧ pl.length ≤ 50 ∧ (∀ i ∈ pl, 0 ≤ i ∧ i < 100) ∧
  ∀ d, H1 d = none → Q (.ref C) (some d) (upd H1 d (.xd [(("place" : Str), .ref ap), ("part", .str y)]))
theorem pmk_err2 {a a2 : Expr} {ta : TA} {p pos : Pos} {k : Nat} (T : PySem.ErrW.ErrTw X.prog X.K X.mg nm ms mt C fI) (hr : Room k X.A) (mS : X.mg "super" = none) (ha : PA X [a, a2] ta) (hg : Gl X nm) (hd : (nm == ("__debug__" : Str)) = false)
    (he : starEach (a :: [a2]) X.env = (false, eval a X.env) :: starEach [a2] X.env := by rfl) (hpl : (backTo pos (starEach [a2] X.env)).any (·.1) = false := by rfl) :
    PMk X (.Call (.Name nm p) [a, a2] [] pos) (tMkE2 X.K C ta) := by
  intro pins s σ H Q I h
  refine wpAny_Call_Name_kw (ld_glob I hg T.gC ?_ hd)
  refine PySem.W.callWith_K (h₀ := X.base) I.ok.mod.kin T.kC (thn (ha.run pos pins s σ H _ I h) fun us s1 hh => ?_) he hpl
  obtain ⟨vs, H1, I1, r1, y, ap, pl, ev, hy, ht, hl, hb, q1⟩ := hh
  subst ev
  refine ⟨I1.kIn, ?_⟩
  cases r1 with
  | cons rv rn =>
    rename_i v' us'
    cases rn with
    | cons ru rn2 =>
    rename_i u' us2
    cases rn2
    obtain ⟨ty, rfl⟩ := (show ∃ t, v' = Value.str y t from rv)
    obtain rfl : u' = Value.ref ap := ru
    show wpAny _ _ (call (.ref C) [.str y ty, .ref ap]) _ _ _
    obtain ⟨its, rvs, ⟨o, ho, hcl, n, hdt⟩, _⟩ := I1.tuple ht
    have hlim := I1.nolimit
    have hG := I1.mod.glob.keeps I1.bk
    obtain ⟨mb, hB0, hB1⟩ := I1.mod.blt
    have hB := hB0.keeps I1.bk
    have bS : mb "super" = some (.type "super") := (hB1 "super" (by decide)).trans rfl
    obtain ⟨hp, g, dr, tk, os⟩ := s1
    refine wpAny_call (PySem.ErrW.err_made2 T I1.kIn hG hB mS bS hlim (by have := hr.dp; omega) (by have := hr.un; omega) hy ho hcl hdt (repr_ints rvs hb) (tup_short hb hl) fun h' tk' e d M => ?_)
    show MkP X pins σ Q (.ref e) ⟨h', g, dr, tk', os⟩
    obtain ⟨oe, fv, hoe, hc, hd, hdat, h1⟩ := M.obj
    have hns := M.ns
    obtain ⟨G', g1, g2⟩ := restrict h' fun b => decide (b ≠ e)
    have gk : ∀ b, b ≠ e → G'.get? b = h'.get? b := fun b hb => g1 b (decide_eq_true hb)
    have ge : G'.get? e = none := g2 e (by simp)
    have old : ∀ b o, hp.get? b = some o → G'.get? b = some o := fun b o q => (gk b (Nat.ne_of_lt (Nat.lt_of_lt_of_le (Heap.lt_size q) M.new))).trans (M.keep b o q)
    have ob : ObjOk X.prog X.w (upd H1 d (.xd [(("place" : Str), .ref ap), ("part", .str y)])) G' d (.xd [(("place" : Str), .ref ap), ("part", .str y)]) :=
      ⟨_, hns.at (fun o q => (gk d M.dne).trans q), fun f => relO_two (u := V.ref ap) rv rfl f⟩
    have J : Inv X pins σ (upd H1 d (.xd [(("place" : Str), .ref ap), ("part", .str y)])) ⟨G', g, dr, tk', os⟩ := I1.laid (t' := tk') old M.dbig ob
    refine ⟨e, oe, fv, ⟨G', g, dr, tk', os⟩, _, .ref C, some d, rfl, J, fun b o q => ?_, ge, hoe, ⟨hc, hd⟩, hdat, h1, ?_, rfl, I1.bare, raises_own T.exC T.tyC, q1 d (I1.hok.fresh M.dbig)⟩
    · by_cases hb : b = e
      · have q' : G'.get? b = some o := q
        rw [hb, ge] at q'; cases q'
      · exact (gk b hb).symm.trans q
    · rw [upd_ne (Ne.symm M.dne)]
      exact I1.hok.fresh M.new
/-- raise C(e, p) -/
def tRaiseE2 (K : PySem.W.Frag) (C : Addr) (W : WX) (ta : TA) : TS := fun _ σ H => tMkE2 K C ta σ H fun cls d H' => W cls d σ H'
theorem ps_raiseE2 {a a2 : Expr} {ta : TA} {W : WX} {p pos pos2 : Pos} {k : Nat} (hc : X.calm = true) (T : PySem.ErrW.ErrTw X.prog X.K X.mg nm ms mt C fI) (hr : Room k X.A) (tk : Takes X W) (mS : X.mg "super" = none) (ha : PA X [a, a2] ta) (hg : Gl X nm) (hd : (nm == ("__debug__" : Str)) = false)
    (he : starEach (a :: [a2]) X.env = (false, eval a X.env) :: starEach [a2] X.env := by rfl) (hpl : (backTo pos (starEach [a2] X.env)).any (·.1) = false := by rfl) :
    PS X (.Raise (some (.Call (.Name nm p) [a, a2] [] pos)) none pos2) (tRaiseE2 X.K C W ta) := ps_raise hc tk (pmk_err2 T hr mS ha hg hd he hpl)
/-- x.f, f one of the two, x the error that the suite holds -/
def tFldE (C : Addr) (f : Str) (a : Addr) (cls : Value) (d : Option Addr) (te : TE) : TE := fun σ H Q => te σ H fun x H1 => x = .ref a ∧ cls = .ref C ∧ ∃ (dd : Addr) (fs : List (Str × V)) (v : V), d = some dd ∧ H1 dd = some (.xd fs) ∧ fs.lookup f = some v ∧ Q v H1
theorem pe_fldE {f : Str} {a : Addr} {oe : Obj} {cls : Value} {d : Option Addr} {pn : List (Addr × Obj)} {e : Expr} {te : TE} {pos : Pos} (T : PySem.ErrW.ErrTw X.prog X.K X.mg nm ms mt C fI) (hf0 : PySem.W.findIn X.K (.ref C) f = some none) (hfc : (f == ("__class__" : Str)) = false) (hz : Zc cls d oe) (hf : ∃ vs, oe.data = .fields vs) (he : PE (X.suite a ((a, oe) :: pn)) e te)
    (hb : attributeBase e f X.env (eval e X.env) = eval e X.env := by rfl) :
    PE (X.suite a ((a, oe) :: pn)) (.Attribute e f pos) (tFldE C f a cls d te) := by
  refine ⟨fun pins s σ H Q I h => ?_⟩
  refine attr_of hb (thn (he.run pins s σ H _ I h) fun u s1 hh => ?_)
  obtain ⟨x, H1, I1, rx, ex, ec, dd, fs, v, ed, ea, l, q⟩ := hh
  subst ex
  obtain rfl : u = Value.ref a := rx
  subst ec
  subst ed
  obtain ⟨ha, _⟩ := I1.pin (a, oe) (List.mem_append_left _ List.mem_cons_self)
  obtain ⟨vs, hd⟩ := hf
  have hx : ObjOk X.prog X.w H1 s1.heap dd (.xd fs) := I1.hok dd _ ea
  obtain ⟨mA, hns, hr⟩ := hx
  obtain ⟨od, ho, hl⟩ := lookIn_ns hns
  obtain ⟨u, hu, ru⟩ := RelO.some_of (v := v) (o := mA f) (by rw [← l]; exact hr f)
  have J : PySem.W.InstAt s1.heap a oe C (some od) := ⟨ha, hz.1, by unfold PySem.W.notCls; rw [hd] <;> rfl, by rw [hz.2]; exact ho⟩
  exact HandSPX.exc_get I1.kIn J T.ga T.gg T.exC (PySem.W.findObj_own T.hdC hf0 rfl (by rw [hl, hu])) (handed_of ru) ⟨v, H1, I1.tok _, ru, q⟩
end
end L2
set_option Elab.async false
set_option linter.all false
set_option maxRecDepth 100000
set_option maxHeartbeats 4000000
namespace L2
open PySem PySem.Spec PyProof.Rows
/-- the ends behind a suite whose name (slot i) is gone then -/
def endsGone (D : Ends) (i : Nat) : Ends := { nx := fun τ G => D.nx (τ.set i none) G, rt := D.rt, bk := fun τ G => D.bk (τ.set i none) G, ct := fun τ G => D.ct (τ.set i none) G }
/-- what clauses 'except x as n', one behind the other, wish of an exception -/
def wManyAs (K : PySem.W.Frag) (Wo : WX) (D : Ends) (i : Nat) : List (Value × (Addr → Value → Option Addr → TS)) → WX
  | [] => Wo
  | (c, t) :: r => fun k dd τ G => ∃ b, PySem.W.exmOne K k c = some b ∧ (b = true → ∀ a, G a = none → t a k dd (endsGone D i) (τ.set i (some (.ref a))) G) ∧ (b = false → wManyAs K Wo D i r k dd τ G)
inductive HdsAs (X : Cx) (nm : Str) : List ExceptHandler → List (Value × (Addr → Value → Option Addr → TS)) → Prop
  | nil : HdsAs X nm [] []
  | cons {x : Str} {c : Value} {t : Addr → Value → Option Addr → TS} {b0 : Stmt} {rest : List Stmt} {q1 q2 : Pos} {hs : List ExceptHandler} {l : List (Value × (Addr → Value → Option Addr → TS))} (hc : Names X x c)
      (hsu : ∀ (a : Addr) (oe : Obj) (k : Value) (dd : Option Addr) (pn : List (Addr × Obj)), Zc k dd oe → (∃ vs, oe.data = .fields vs) → PSs (X.suite a ((a, oe) :: pn)) (b0 :: rest) (t a k dd)) (more : HdsAs X nm hs l) :
      HdsAs X nm (.ExceptHandler (some (.Name x q1)) (some nm) (b0 :: rest) q2 :: hs) ((c, t) :: l)
section
variable {X : Cx} {bd : List Stmt} {h0 : ExceptHandler} {hs : List ExceptHandler} {l : List (Value × (Addr → Value → Option Addr → TS))} {ps0 : Pos} {tb : WX → TS} {Wo : WX} {nm : Str} {i : Nat}
theorem ps_try_manyAs (hst : X.stack = X.env :: X.outer) (hfr0 : X.env.frame = some X.env.locals) (hN : X.N.Nodup) (hi : X.N[i]? = some nm) (hln : X.env.kindOf nm = some .local) (tk : Takes X Wo)
    (hb : ∀ (W : WX) (pn : List (Addr × Obj)) (xe : Value → Shared → Prop), Takes (X.tr pn xe) W → PassesOwn (model X.prog X.w) X.A X.env xe → PSs (X.tr pn xe) bd (tb W))
    (hh : HdsAs X nm (h0 :: hs) l) : PS X (.Try bd (h0 :: hs) [] [] ps0) (fun D σ H => tb (wManyAs X.K Wo D i l) D σ H) := by
  refine ⟨fun pins s σ H D I h => ?_⟩
  have okI := I.ok
  have frs0 : X.A.frames = some (X.env :: X.outer) := okI.frames.trans (congrArg some hst)
  have hloc : Loc X.env.scope nm := .inl hln
  refine wpAny_Try_except (wpAny_mono ((hb (wManyAs X.K Wo D i l) (X.pn ++ pins) (fun e t1 => wpAny (model X.prog X.w) X.A (noteFrame e X.env) (fun _ t2 => wpAny (model X.prog X.w) X.A (setFlight e none) (fun _ t3 => wpAny (model X.prog X.w) X.A (handleBy e X.env (h0 :: hs)) (SP X pins D) X.xe t3) X.xe t2) X.xe t1) (fun u t0 xx => ?_) PassesOwn.looking).run [] s σ H D (I.toTry _) h) (fun fl t1 hsp => ?_) (fun e t1 he => he))
  · obtain ⟨a, B, sB, pins2, τ, G, k, dd, rfl, J0, nb, up, sky, na, os, ag, wish⟩ := xx
    have J : Inv X pins τ G sB := J0.ofTry okI
    have sky2 : Sky B (X.env :: X.outer) a (Zc k dd) X.env.locals t0.heap := hst ▸ sky
    show wpAny (model X.prog X.w) X.A (noteFrame (.ref a) X.env) _ _ _
    refine Sky.land Zc.steady frs0 hfr0 sky2 fun g3 land3 up3 => ?_
    have J3 : Inv X pins τ G { t0 with heap := g3 } := J.landed nb land3.1 (up.trans up3) os ag
    obtain ⟨o3, v3, eo3, z3, d3⟩ := land3.there
    have nIn : a ∉ frs (X.env :: X.outer) := fun hm => by
      obtain ⟨_, o5, e5, hno⟩ := land3.2.2.1.mem hm
      rw [eo3] at e5
      cases e5
      exact hno _ d3
    have nL : a ≠ X.env.locals := fun z => nIn (List.mem_filterMap.mpr ⟨X.env, List.mem_cons_self, by rw [hfr0, z]⟩)
    have nF : a ∉ X.fs := fun hm => by
      obtain ⟨e5, he5, q5⟩ := List.mem_filterMap.mp hm
      exact nIn (List.mem_filterMap.mpr ⟨e5, List.mem_cons_of_mem _ he5, q5⟩)
    have S3 := J3.suite eo3 d3 na nL nF
    have go : ∀ {hs2 : List ExceptHandler} {l2 : List (Value × (Addr → Value → Option Addr → TS))}, HdsAs X nm hs2 l2 → wManyAs X.K Wo D i l2 k dd τ G → wpAny (model X.prog X.w) X.A (handleBy (.ref a) X.env hs2) (SP X pins D) X.xe { t0 with heap := g3 } := by
      intro hs2 l2 hk
      induction hk with
      | nil =>
        intro wsh
        refine wpAny_handleBy_nil ?_
        obtain ⟨_, _, _, oe, vs, T, oT, ts5, he5, hz5, hd5, h15, _⟩ := id land3
        unfold PySem.passOn
        refine wpAny_bind (wpAny_field he5 hd5 h15 ?_)
        rw [if_neg (show ¬ ((Value.ref T == Value.none) = true) by simp)]
        have last : wpAny (model X.prog X.w) X.A (setFlight (.ref a) X.env.frame) (fun _ t4 => wpAny (model X.prog X.w) X.A (throw (.ref a) : Sem Flow) (SP X pins D) X.xe t4) X.xe { t0 with heap := g3 } := by
          rw [hfr0]
          refine HandSPX.setFlight_upZ land3 fun g4 lnd4 up4 => wpAny_throw (tk _ _ ⟨a, B, sB, pins, τ, G, k, dd, rfl, J, nb, (up.trans up3).trans up4, .inr (.inr (hst ▸ lnd4)), na, os, ag, wsh⟩)
        first
          | exact wpAny_bind (wpAny_pure (wpAny_bind last))
          | exact wpAny_bind last
      | @cons x c t b0 rest q1 q2 hs3 l3 hc hsu more ih =>
        intro wsh
        obtain ⟨b, hb1, yes, no⟩ := wsh
        refine wpAny_handleBy_cons (codeAny_handlers_test ?_) (by intro q; cases q)
        have LT : PySem.W.Looks (model X.prog X.w) g3 (typeOf (.ref a)) k := fun A Q E s5 k5 q5 => wpAny_typeOf_ref (k5 _ _ eo3) (by rw [z3.1]; exact q5)
        have LM := PySem.W.exm_one (M := model X.prog X.w) (J3.kIn) LT hb1
        have tst : ∀ {Q : Value → Shared → Prop} {E : Value → Shared → Prop}, Q c { t0 with heap := g3 } → wpAny (model X.prog X.w) (X.A.mark (some (.ref a))) (eval (.Name x q1) X.env) Q E { t0 with heap := g3 } := fun {Q E} q => by
          obtain ⟨hg, hdb, hm | ⟨hm, hv, hnn⟩⟩ := hc
          · exact ld_glob (X := X.suite a ((a, o3) :: (X.pn ++ pins))) S3 hg hm q hdb
          · exact ld_blt (X := X.suite a ((a, o3) :: (X.pn ++ pins))) S3 hg hm hv q hnn hdb
        refine tst (LM.here ?_)
        cases b with
        | false =>
          show wpAny _ X.A (handleBy (.ref a) X.env hs3) _ _ _
          exact ih (no rfl)
        | true =>
          refine codeAny_handlers_suite_as (HandSPX.lands_againZ land3 fun g4 lnd4 up4 => ?_)
          have J4 : Inv X pins τ G { t0 with heap := g4 } := J.landed nb lnd4.1 ((up.trans up3).trans up4) os ag
          obtain ⟨o4, v4, eo4, z4, d4⟩ := lnd4.there
          have S4 := J4.suite eo4 d4 na nL nF
          refine store_ok (X := X.suite a ((a, o4) :: (X.pn ++ pins))) (v := .ref a) S4 hN hi hloc rfl (fun t5 S5 => ?_) (.inr hln)
          refine wpAny_mono ((hsu a o4 k dd (X.pn ++ pins) z4 ⟨_, d4⟩).run [] t5 _ G _ S5 (yes rfl a na)) (fun fl t6 hsp => ?_) (fun _ _ z => False.elim z)
          have gone : ∀ {τ6 : St} {G6 : Hp} {Q : Shared → Prop}, Inv (X.suite a ((a, o4) :: (X.pn ++ pins))) [] τ6 G6 t6 → (∀ t7, Inv X pins (τ6.set i none) G6 t7 → Q t7) → wpAny (model X.prog X.w) X.A (do bindName X.env nm .none; unbindBehindTheSuite X.env nm q2) (fun _ t7 => Q t7) X.xe t6 := fun {τ6 G6 Q} S6 hq => gone_ok (S6.unsuite okI) hN hi hln hq
          cases fl with
          | ret u =>
            obtain ⟨v6, τ6, G6, S6, r6, q6⟩ := hsp
            exact gone S6 fun t7 J7 => ⟨_, _, _, J7, r6, q6⟩
          | next =>
            obtain ⟨τ6, G6, S6, q6⟩ := hsp
            exact gone S6 fun t7 J7 => ⟨_, _, J7, q6⟩
          | brk =>
            obtain ⟨τ6, G6, S6, q6⟩ := hsp
            exact gone S6 fun t7 J7 => ⟨_, _, J7, q6⟩
          | cont =>
            obtain ⟨τ6, G6, S6, q6⟩ := hsp
            exact gone S6 fun t7 J7 => ⟨_, _, J7, q6⟩
    exact go hh wish
  · cases fl with
    | ret u =>
      obtain ⟨v, τ, G, J, r, q⟩ := hsp
      exact ⟨v, τ, G, J.ofTry okI, r, q⟩
    | next =>
      obtain ⟨τ, G, J, q⟩ := hsp
      exact wpAny_execs_nil ⟨τ, G, J.ofTry okI, q⟩
    | brk =>
      obtain ⟨τ, G, J, q⟩ := hsp
      exact ⟨τ, G, J.ofTry okI, q⟩
    | cont =>
      obtain ⟨τ, G, J, q⟩ := hsp
      exact ⟨τ, G, J.ofTry okI, q⟩
end
/-- a | b by the own rule of the class of both; what it lets out told at the slots -/
def tOrO (C : Addr) (sp : Sp) (E : St → XK) (ta tb : TE) : TE := fun σ H Q => ta σ H fun x H1 => tb σ H1 fun y H2 => ∃ a dx fs b dy gs, x = .ref a ∧ H2 a = some (.ins C dx fs) ∧ y = .ref b ∧ H2 b = some (.ins C dy gs) ∧ sp [.ref a, .ref b] H2 (fun v H3 => (∃ c, v = .ref c) ∧ Q v H3) (E σ)
theorem pe_orO {X : Cx} {CX : CXT} {k : Nat} {C f : Addr} {fd : FuncData} {ps : List Str} {sp : Sp} {E : St → XK} {ea eb : Expr} {ta tb : TE} {pos : Pos} (ha : PE X ea ta) (hb : PE X eb tb) (F : FnOk X.prog X.w X.K X.mg X.base CX k f fd ps sp) (hr : Room k X.A)
    (hc : PySem.W.selfFirst X.K C = true) (hs : PySem.W.findIn X.K (.ref C) "__or__" = some (some (.ref f))) (hf : PySem.W.isFn X.K (.ref f) = true) (hbn : Binds X.K fd ps []) (hx : ∀ σ, PassesAt CX X σ (E σ)) : PE X (.BinOp ea .BitOr eb pos) (tOrO C sp E ta tb) := by
  refine ⟨fun pins s σ H Q I h => ?_⟩
  refine wpAny_BinOp (binT (R := fun x y H2 => ∃ a dx fs b dy gs, x = .ref a ∧ H2 a = some (.ins C dx fs) ∧ y = .ref b ∧ H2 b = some (.ins C dy gs) ∧ sp [.ref a, .ref b] H2 (fun v H3 => (∃ c, v = .ref c) ∧ Q v H3) (E σ)) ha hb I h fun v u s2 x y H2 I2 rx ry q => ?_)
  obtain ⟨a, dx, fs, b, dy, gs, rfl, ex, rfl, ey, q⟩ := q
  cases rx
  cases ry
  obtain ⟨mA, J1, _⟩ := ins_get I2.hok ex
  obtain ⟨od1, J1, _⟩ := J1.look
  obtain ⟨mB, J2, _⟩ := ins_get I2.hok ey
  obtain ⟨od2, J2, _⟩ := J2.look
  obtain ⟨m, hF⟩ := I2.fr
  have e : (PySem.dunder (Operator.BitOr).info.2 : Str) = ("__or__" : Str) := by decide +kernel
  refine PySem.W.binop_K (op := .BitOr) hF I2.ok.mod.kin J1 J2.type hc (e ▸ hs) hf ?_
  refine wpAny_mono (run_fnS (us := [.ref a, .ref b]) (vs := [.ref a, .ref b]) F hr hbn (hx σ) I2 (.cons rfl (.cons rfl .nil)) q) (fun r s3 z => ?_) fun _ _ e => e
  obtain ⟨z, H', I', rz, ⟨c, ez⟩, q⟩ := z
  subst ez
  cases rz
  exact ⟨.ref c, H', I', rfl, q⟩
end L2
set_option Elab.async false
set_option linter.all false
set_option maxRecDepth 100000
set_option maxHeartbeats 4000000
namespace L2
open PySem PySem.Spec PyProof.Rows
/-- what a class of errors with fields says, so that isinstance asks its instances rightly -/
structure ExcD (K : PySem.W.Frag) (D : Addr) : Prop where
  hc : (PySem.W.clsIn K D).isSome = true
  hg : PySem.W.findIn K (.ref D) "__getattribute__" = some (some (.builtin "BaseException.__getattribute__"))
  hk : PySem.W.findIn K (.ref D) "__getattr__" = some none
  hs : PySem.W.subIn K (.ref D) (.type "BaseException") = some true
  ha : PySem.W.findIn K (.ref D) "__class__" = some (some (.builtin "object.__class__"))
  hn : PySem.W.specialIn K (.builtin "object.__class__") "__get__" = some (some (.builtin "getset_descriptor.__get__"))
  ht : PySem.W.takesIn K (.builtin "object.__class__") = some true
  hm : PySem.W.mroIn K D (.type "object") = some true
section
variable {X : Cx} {a D : Addr} {oe : Obj} {cls : Value} {d : Option Addr} {pn : List (Addr × Obj)}
/-- the error in the heap, its dict too -/
theorem inst_of_err {pins : List (Addr × Obj)} {τ : St} {H : Hp} {s : Shared} {dd : Addr} {fs : List (Str × V)} (hz : Zc cls d oe) (hf : ∃ vs, oe.data = .fields vs) (ec : cls = .ref D) (ed : d = some dd) (ea : H dd = some (.xd fs)) (I : Inv (X.suite a ((a, oe) :: pn)) pins τ H s) : ∃ od, PySem.W.InstAt s.heap a oe D (some od) := by
  subst ec
  subst ed
  obtain ⟨ha, _⟩ := I.pin (a, oe) (List.mem_append_left _ List.mem_cons_self)
  obtain ⟨vs, hd⟩ := hf
  have hx : ObjOk X.prog X.w H s.heap dd (.xd fs) := I.hok dd _ ea
  obtain ⟨mA, hns, _⟩ := hx
  obtain ⟨od, ho, _⟩ := lookIn_ns hns
  exact ⟨od, ha, hz.1, by unfold PySem.W.notCls; rw [hd] <;> rfl, by rw [hz.2]; exact ho⟩
/-- isinstance(e, c), e the error with fields that the suite holds -/
def rIsD (K : PySem.W.Frag) (D a : Addr) (cls : Value) (d : Option Addr) : List V → Hp → VK → Prop := fun xs H Q => ∃ (c : V) (cv : Value) (b : Bool) (dd : Addr) (fs : List (Str × V)), xs = [.ref a, c] ∧ cls = .ref D ∧ d = some dd ∧ H dd = some (.xd fs) ∧ (∀ u, RelV c u → u = cv) ∧ PySem.W.kitOne K (.ref D) cv = some b ∧ Q (.bl b) H
theorem call_isD (C : ExcD X.K D) (hz : Zc cls d oe) (hf : ∃ vs, oe.data = .fields vs) : CallR (X.suite a ((a, oe) :: pn)) (.builtin "isinstance") (rIsD X.K D a cls d) := by
  intro pins s σ H xs us Q I r h
  obtain ⟨c, cv, b, dd, fs, rfl, ec, ed, ea, hcv, e, q⟩ := h
  obtain ⟨u1, u2, rfl, r1, r2⟩ := vals2 r
  cases (show u1 = Value.ref a from r1)
  obtain rfl := hcv _ r2
  obtain ⟨od, J⟩ := inst_of_err hz hf ec ed ea I
  exact PySem.W.kia_one (PySem.W.kitx_exc C.hc C.hg C.hk C.hs C.ha C.hn C.ht C.hm) I.kIn J e (fun z => nomatch z) fun tk => ⟨.bl b, H, I.kept (t' := tk) fun _ _ z => z, rfl, q⟩
/-- isinstance(e, (C1, C2, ..)) -/
def rIsDT (K : PySem.W.Frag) (D a : Addr) (cls : Value) (d : Option Addr) : List V → Hp → VK → Prop := fun xs H Q => ∃ (tp : Addr) (cs : List Addr) (b : Bool) (dd : Addr) (fs : List (Str × V)), xs = [.ref a, .ref tp] ∧ cls = .ref D ∧ d = some dd ∧ H dd = some (.xd fs) ∧ H tp = some (.tup (cs.map V.ref)) ∧ PySem.W.kitAny K (.ref D) (cs.map Value.ref) = some b ∧ Q (.bl b) H
theorem refs_all : ∀ {cs : List Addr} {us : List Value}, Vals (cs.map V.ref) us → us = cs.map Value.ref
  | [], _, r => by cases r; rfl
  | c :: cs, _, r => by
    cases r with
    | cons r1 r2 =>
      rw [refs_all r2, (show _ = Value.ref c from r1)]
      rfl
theorem call_isDT (C : ExcD X.K D) (hz : Zc cls d oe) (hf : ∃ vs, oe.data = .fields vs) : CallR (X.suite a ((a, oe) :: pn)) (.builtin "isinstance") (rIsDT X.K D a cls d) := by
  intro pins s σ H xs us Q I r h
  obtain ⟨tp, cs, b, dd, fs, rfl, ec, ed, ea, hT, e, q⟩ := h
  obtain ⟨u1, u2, rfl, r1, r2⟩ := vals2 r
  cases (show u1 = Value.ref a from r1)
  cases (show u2 = Value.ref tp from r2)
  obtain ⟨od, J⟩ := inst_of_err hz hf ec ed ea I
  obtain ⟨_, its, rv, o, h1, h2, n, h3⟩ := (show ObjOk X.prog X.w H s.heap tp (.tup (cs.map V.ref)) from I.hok tp _ hT)
  have e3 := refs_all rv
  subst e3
  obtain ⟨oc, od2, dt, sl⟩ := o
  simp only at h2 h3
  subst h2 h3
  exact PySem.W.kia_tup (PySem.W.kitx_exc C.hc C.hg C.hk C.hs C.ha C.hn C.ht C.hm) I.kIn J h1 e (fun z => nomatch z) fun tk => ⟨.bl b, H, I.kept (t' := tk) fun _ _ z => z, rfl, q⟩
end
/-- C(e, .., k = v, ..), what __init__ lets out told at the slots -/
def tMakeNS (C : Addr) (n m : Nat) (sp : Sp) (gV : List V → List V → List V) (E : St → XK) (t tk : TA) : TE := fun σ H Q => t σ H fun vs G1 => tk σ G1 fun zs G2 => vs.length = n ∧ zs.length = m ∧
  ∀ o od, G2 o = none → G2 od = none → od ≠ o → sp (gV (.ref o :: vs) zs) (upd (upd G2 od (.own o)) o (.ins C od [])) (fun v G3 => v = .non ∧ Q (.ref o) G3) (E σ)
section
variable {X : Cx} {CX : CXT} {k n : Nat} {f C : Addr} {fd : FuncData} {ps ks : List Str} {sp : Sp} {E : St → XK} {x : Str} {p pos : Pos} {e : Expr} {es : List Expr} {kws : List Keyword} {t tk : TA} {g : List Value → List Value → List Value} {gV : List V → List V → List V}
theorem pe_makeNS (M : Mk X.K C f) (F : FnOk X.prog X.w X.K X.mg X.base CX k f fd ps sp) (hr : Room (k + 1) X.A) (hg : Gl X x) (hm : X.mg x = some (.ref C)) (hb : KBn X.K fd ps (n + 1) ks g gV) (hx : ∀ σ, PassesAt CX X σ (E σ))
    (ha : PA X (e :: es) t) (hkw : PK X kws tk) (h1 : (backToKw pos (keywordEach kws X.env)).all (·.1.isSome) = true := by rfl) (h2 : (backToKw pos (keywordEach kws X.env)).filterMap (·.1) = ks := by rfl)
    (h3 : (x == ("__debug__" : Str)) = false := by decide) (h4 : starEach (e :: es) X.env = (false, eval e X.env) :: starEach es X.env := by rfl)
    (h5 : ((backTo pos (starEach (e :: es) X.env)).any (·.1) || (backToKw pos (keywordEach kws X.env)).any (·.1.isNone)) = false := by rfl) :
    PE X (.Call (.Name x p) (e :: es) kws pos) (tMakeNS C n ks.length sp gV E t tk) := by
  refine ⟨fun pins s σ H Q I h => ?_⟩
  refine wpAny_Call_Name_kw (ld_glob I hg hm ?_ h3)
  refine PySem.W.callWith_KW (h₀ := X.base) I.ok.mod.kin M.kp h1 (thn (ha.run pos pins s σ H _ I h) fun us s1 ⟨vs, G1, I1, r, q⟩ => ?_) h5 h4
  refine thn (hkw.run pos pins s1 σ G1 _ I1 q) fun ws s2 ⟨zs, G2, I2, rz, l1, l2, q2⟩ => ⟨I2.kIn, ?_⟩
  rw [h2]
  have hq := q2 (s2.heap.objs.size + 1) s2.heap.objs.size (I2.hok.fresh (Nat.le_succ _)) (I2.hok.fresh (Nat.le_refl _)) (Nat.ne_of_lt (Nat.lt_succ_self _))
  have J := Inv.made (C := C) I2
  have ra : Vals (V.ref (s2.heap.objs.size + 1) :: vs) (Value.ref (s2.heap.objs.size + 1) :: us) := .cons rfl r
  have e1 : (Value.ref (s2.heap.objs.size + 1) :: us).length = n + 1 := ra.length.symm.trans (congrArg Nat.succ l1)
  refine wpAny_call (make_map (f := f) I2.kIn M.makes M.init (beq_iff_eq.mp M.fn) (codeAny_mono (F.run _ X.stack _ _ ⟨Value.ref (s2.heap.objs.size + 1) :: us, ks.zip ws⟩ (g (Value.ref (s2.heap.objs.size + 1) :: us) ws) _ _ (E σ) (hr.make C us (ks.zip ws)) (J.env0.make C us (ks.zip ws)) (hb.to _ (Value.ref (s2.heap.objs.size + 1) :: us) ws J.kIn e1 (rz.length.symm.trans l2)) (hb.rel ra rz) hq) fun r s3 hq3 => ?_))
  cases r with
  | error er => exact hx σ pins _ _ er s3 J hq3
  | ok fl =>
    cases fl with
    | ret u =>
      obtain ⟨v, G3, I3, rv, ev, q3⟩ := J.after hq3
      subst ev
      exact ⟨rv, ⟨V.ref (s2.heap.objs.size + 1), G3, I3, rfl, q3⟩⟩
    | next => exact False.elim hq3
    | brk => exact False.elim hq3
    | cont => exact False.elim hq3
end
end L2
set_option Elab.async false
set_option linter.all false
set_option maxRecDepth 100000
namespace TW
open PySem PySem.Spec PyProof.Rows L2
/-! heaps: all but p and c stays -/
def Fr (p c : Addr) (H H' : Hp) : Prop := ∀ b o, b ≠ p → b ≠ c → H b = some o → H' b = some o
theorem Fr.refl (p c : Addr) (H : Hp) : Fr p c H H := fun _ _ _ _ h => h
theorem Fr.trans {p c : Addr} {H H1 H2 : Hp} (a : Fr p c H H1) (b : Fr p c H1 H2) : Fr p c H H2 := fun x o h1 h2 h => b x o h1 h2 (a x o h1 h2 h)
theorem Fr.of_same {p c : Addr} {H H' : Hp} (a : Same H H') : Fr p c H H' := fun b o _ _ h => a b o h
theorem Fr.updP {p c : Addr} {H H' : Hp} {o : HO} (a : Fr p c H H') : Fr p c H (upd H' p o) := fun b x h1 h2 h => by
  rw [upd_ne h1]; exact a b x h1 h2 h
theorem Fr.updC {p c : Addr} {H H' : Hp} {o : HO} (a : Fr p c H H') : Fr p c H (upd H' c o) := fun b x h1 h2 h => by
  rw [upd_ne h2]; exact a b x h1 h2 h
theorem Fr.updN {p c q : Addr} {H H' : Hp} {o : HO} (a : Fr p c H H') (n : H q = none) : Fr p c H (upd H' q o) := fun b x h1 h2 h => by
  rw [upd_ne (ne_of_none h n)]; exact a b x h1 h2 h
/-- the pool at p, its cells at c -/
structure Pool (p c : Addr) (H : Hp) : Prop where
  ne : p ≠ c
  ex : ∃ (xs : List Int) (at' n : Nat), H p = some (.lst [.ref c, .int (at' : Int), .int (n : Int)]) ∧ H c = some (.lst (xs.map V.int)) ∧ xs.length ≤ 63
theorem Pool.frN {p c q : Addr} {H : Hp} {o : HO} (P : Pool p c H) (n : H q = none) : Pool p c (upd H q o) := by
  obtain ⟨xs, a, m, h1, h2, h3⟩ := P.ex
  exact ⟨P.ne, xs, a, m, by rw [upd_ne (ne_of_none h1 n)]; exact h1, by rw [upd_ne (ne_of_none h2 n)]; exact h2, h3⟩
theorem Pool.same {p c : Addr} {H H' : Hp} (P : Pool p c H) (s : Same H H') : Pool p c H' := by
  obtain ⟨xs, a, m, h1, h2, h3⟩ := P.ex
  exact ⟨P.ne, xs, a, m, s _ _ h1, s _ _ h2, h3⟩
theorem Pool.np {p c q : Addr} {H : Hp} (P : Pool p c H) (n : H q = none) : q ≠ p ∧ q ≠ c := by
  obtain ⟨xs, a, m, h1, h2, h3⟩ := P.ex
  exact ⟨(ne_of_none h1 n).symm, (ne_of_none h2 n).symm⟩
def spDraw : Sp := fun vs H Q _ => ∃ (p c : Addr) (l : Int), vs = [.ref p, .int l] ∧ Pool p c H ∧ 0 < l ∧ l.natAbs.log2 < 9000 ∧
  ∀ (r : Int) (H' : Hp), 0 ≤ r → r < l → Pool p c H' → Fr p c H H' → Q (.int r) H'
theorem atI_of {α : Type} {xs : List α} {i : Int} {j : Nat} {v : α} (e : i = (j : Int)) (h : xs[j]? = some v) : atI xs i = some v := by
  subst e; exact atI_nat h
theorem ixN_of {n : Nat} {i : Int} {j : Nat} (e : i = (j : Int)) (h : j < n) : ixN n i = some j := by
  subst e
  unfold ixN
  rw [if_pos (by omega), if_pos (by omega)]
  simp
theorem get_map_int {xs : List Int} {j : Nat} (h : j < xs.length) : (xs.map V.int)[j]? = some (.int xs[j]) := by
  rw [List.getElem?_map, List.getElem?_eq_getElem h]; rfl
theorem pos1 : (0 : Int) < 2147483629 := by decide
theorem pos2 : (0 : Int) < 2147483647 := by decide
theorem pos3 : (0 : Int) < 2147483399 := by decide
theorem cmul_l {i j m : Int} (h : 0 < m) (h2 : m < 2 ^ 64) : CMul (i % m) j := by
  have h3 := Int.emod_nonneg i (show m ≠ 0 by omega)
  have h4 := Int.emod_lt_of_pos i h
  exact .inl ⟨by omega, by omega⟩
section
variable {P : Program} {w : World} {K : PySem.W.Frag} {mg : Str → Option Value} {base : Heap}
abbrev S_law_draw : Stmt := topS 49
abbrev N_law_draw : List Str := ["_law_pool", "_law_limit", "_law_cells", "_law_at", "_law_digit", "_law_cell", "_law_number"]
abbrev P_law_draw : List Str := ["_law_pool", "_law_limit"]
theorem sc_law_draw : FnScope N_law_draw P_law_draw (defScope S_law_draw) := ⟨rfl, rfl, rfl, by decide +kernel, rfl, by decide +kernel, by decide +kernel⟩
set_option maxHeartbeats 4000000 in
theorem ok_draw {f : Addr} {fd : FuncData} (F : Fun K "_law_draw" "_law_draw" S_law_draw f fd) (B : Bl mg) : FnOk P w K mg base CX0 1 f fd ["_law_pool", "_law_limit"] spDraw := by
  refine F.ok sc_law_draw (fun vs H Q E h => ?_) (fun cdv A outer s H vs Q E hr h => ?_)
  · obtain ⟨p, c, l, rfl, _⟩ := h
    rfl
  · obtain ⟨p, c, l, rfl, PL, hl, hb, k⟩ := h
    obtain ⟨ne, xs, at', n, hp, hc, hx⟩ := PL
    refine ⟨_, (pss_cons (ps_set (i := 2) sc_law_draw.nd rfl (by first | exact Or.inl rfl | exact Or.inr rfl) (pe_ix ix_list (pv 0) pe_int (fun _ _ => rfl)))
 (pss_cons (ps_set (i := 3) sc_law_draw.nd rfl (by first | exact Or.inl rfl | exact Or.inr rfl) (pe_ix ix_list (pv 0) pe_int (fun _ _ => rfl)))
 (pss_cons (ps_asg (pe_op op_add (pe_ix ix_list (pv 0) pe_int (fun _ _ => rfl)) pe_int) (pg_sub (pv 0) pe_int set_list))
 (pss_cons (ps_if (PW.pt (pw_and (pt_cmpR op_lt (pv 3) (pe_callB call_len_seq (by rfl) B.m_len PySem.boot_len (pa_cons (pv 2) pa_nil)) (nomark _)) (pw_and1 (pt_cmpR op_ge (pe_ix ix_list (pv 2) (pv 3) (fun _ _ => rfl)) (pe_op op_pow pe_int pe_int) (nomark _))))) (pss_cons (ps_set (i := 4) sc_law_draw.nd rfl (by first | exact Or.inl rfl | exact Or.inr rfl) (pe_op op_mod (pe_callTy call_int1 (by rfl) B.m_int (by decide +kernel) (pa_cons (pe_ix ix_list (pv 2) (pv 3) (fun _ _ => rfl)) pa_nil)) (pv 1)))
 (pss_cons (ps_asg (pe_op op_fdivW (pe_ix ix_list (pv 2) (pv 3) (fun _ _ => rfl)) (pv 1)) (pg_sub (pv 2) (pv 3) set_list))
 (pss_cons (ps_if (pt_cmpR op_lt (pe_ix ix_list (pv 2) (pv 3) (fun _ _ => rfl)) (pe_op op_pow pe_int pe_int) (nomark _)) (pss_one (ps_asg (pe_op op_add (pv 3) pe_int) (pg_sub (pv 0) pe_int set_list))) pss_nil)
 (pss_one (ps_ret (pv 4)))))) pss_nil)
 (pss_cons (ps_asg (pe_op op_add (pv 3) pe_int) (pg_sub (pv 0) pe_int set_list))
 (pss_cons (ps_set (i := 5) sc_law_draw.nd rfl (by first | exact Or.inl rfl | exact Or.inr rfl) pe_int)
 (pss_cons (ps_if (pt_cmpR op_gt (pe_callB call_len_seq (by rfl) B.m_len PySem.boot_len (pa_cons (pv 2) pa_nil)) pe_int (nomark _)) (pss_one (ps_set (i := 5) sc_law_draw.nd rfl (by first | exact Or.inl rfl | exact Or.inr rfl) (pe_ix ix_list (pv 2) (pe_op op_mod (pv 3) (pe_callB call_len_seq (by rfl) B.m_len PySem.boot_len (pa_cons (pv 2) pa_nil))) (fun _ _ => rfl)))) pss_nil)
 (pss_cons (ps_set (i := 6) sc_law_draw.nd rfl (by first | exact Or.inl rfl | exact Or.inr rfl) (pe_op op_mod (pe_op op_mul (pe_callTy call_int1 (by rfl) B.m_int (by decide +kernel) (pa_cons (pe_op op_add (pe_op op_add (pe_op op_mod (pe_callTy call_int1 (by rfl) B.m_int (by decide +kernel) (pa_cons (pv 5) pa_nil)) pe_int) (pe_op op_mul pe_int (pe_ix ix_list (pv 0) pe_int (fun _ _ => rfl)))) pe_int) pa_nil)) pe_int) pe_int))
 (pss_cons (ps_set (i := 6) sc_law_draw.nd rfl (by first | exact Or.inl rfl | exact Or.inr rfl) (pe_op op_mod (pe_callTy call_int1 (by rfl) B.m_int (by decide +kernel) (pa_cons (pe_op op_mul (pv 6) (pe_op op_add (pe_op op_fdiv (pv 6) pe_int) pe_int)) pa_nil)) pe_int))
 (pss_cons (ps_set (i := 6) sc_law_draw.nd rfl (by first | exact Or.inl rfl | exact Or.inr rfl) (pe_op op_mod (pe_callTy call_int1 (by rfl) B.m_int (by decide +kernel) (pa_cons (pe_op op_mul (pv 6) (pe_op op_add (pe_op op_fdiv (pv 6) pe_int) pe_int)) pa_nil)) pe_int))
 (pss_one (ps_ret (pe_op op_mod (pe_callTy call_int1 (by rfl) B.m_int (by decide +kernel) (pa_cons (pe_op op_fdiv (pv 6) pe_int) pa_nil)) (pv 1)))))))))))))), ?_⟩
    have hp1 : H p = some (.lst [.ref c, .int (at' : Int), .int (n : Int)]) := hp
    -- cells, at, pool[2]
    refine ⟨_, rfl, p, _, _, _, rfl, rfl, SqL.of hp, atI_nat (j := 0) rfl, _, rfl, p, _, _, _, rfl, rfl, SqL.of hp, atI_nat (j := 1) rfl, ?_⟩
    refine ⟨_, rfl, p, _, _, _, rfl, rfl, SqL.of hp, atI_nat (j := 2) rfl, _, _, rfl, rfl, _, rfl, p, _, _, 2, rfl, rfl, hp, rfl, ?_⟩
    let H1 : Hp := upd H p (.lst [.ref c, .int (at' : Int), .int ((n + 1 : Nat) : Int)])
    have hc1 : H1 c = some (.lst (xs.map V.int)) := (upd_ne ne.symm).trans hc
    have hq1 : H1 p = some (.lst [.ref c, .int (at' : Int), .int ((n + 1 : Nat) : Int)]) := upd_same
    have fr1 : Fr p c H H1 := (Fr.refl p c H).updP
    -- the rest behind the if
    have hlen : (xs.map V.int).length = xs.length := List.length_map ..
    -- if at < len(cells) and ..
    refine ⟨_, rfl, _, rfl, c, _, rfl, .inl (SqL.of hc1), _, _, rfl, rfl, _, rfl, ?_⟩
    by_cases h1 : (at' : Int) < ((xs.map V.int).length : Int)
    case' pos =>
      have ha : at' < xs.length := by rw [hlen] at h1; omega
      have hg : (xs.map V.int)[at']? = some (.int xs[at']) := get_map_int ha
      rw [decide_eq_true h1]
      refine iteT ?_
      refine ⟨_, rfl, _, rfl, c, _, _, _, rfl, rfl, SqL.of hc1, atI_nat hg, _, _, rfl, rfl, ⟨by decide, by decide, by decide⟩, _, _, rfl, rfl, _, rfl, ?_⟩
      refine ite2 (fun h2 => ?great) (fun h2 => ?small)
      case great =>
        refine ⟨_, rfl, _, rfl, c, _, _, _, rfl, rfl, SqL.of hc1, atI_nat hg, .inl ⟨_, rfl, _, rfl, _, _, rfl, rfl, hl, ?_⟩⟩
        refine ⟨_, rfl, _, rfl, c, _, _, _, rfl, rfl, SqL.of hc1, atI_nat hg, _, rfl, _, _, rfl, rfl, ⟨hl, hb⟩, _, rfl, _, rfl, c, _, _, at', rfl, rfl, hc1, ixN_of rfl (by rw [hlen]; exact ha), ?_⟩
        have hs : (xs.map V.int).set at' (V.int (xs[at'] / l)) = (xs.set at' (xs[at'] / l)).map V.int := by rw [List.map_set]
        rw [hs]
        let H2 : Hp := upd H1 c (.lst ((xs.set at' (xs[at'] / l)).map V.int))
        have hc2 : H2 c = some (.lst ((xs.set at' (xs[at'] / l)).map V.int)) := upd_same
        have hq2 : H2 p = some (.lst [.ref c, .int (at' : Int), .int ((n + 1 : Nat) : Int)]) := (upd_ne ne).trans hq1
        have fr2 : Fr p c H H2 := fr1.updC
        have r0 : 0 ≤ xs[at'] % l := Int.emod_nonneg _ (by omega)
        have r1 : xs[at'] % l < l := Int.emod_lt_of_pos _ hl
        have ha2 : at' < (xs.set at' (xs[at'] / l)).length := by rw [List.length_set]; exact ha
        have hx2 : (xs.set at' (xs[at'] / l)).length ≤ 63 := by rw [List.length_set]; exact hx
        refine ⟨_, rfl, _, rfl, c, _, _, _, rfl, rfl, SqL.of hc2, atI_nat (get_map_int ha2), _, _, rfl, rfl, ⟨by decide, by decide, by decide⟩, _, _, rfl, rfl, _, rfl, ?_⟩
        refine ite2 (fun h3 => ?_) (fun h3 => ?_)
        · refine ⟨_, rfl, _, _, rfl, rfl, _, rfl, p, _, _, 1, rfl, rfl, hq2, rfl, _, rfl, ?_⟩
          exact k _ _ r0 r1 ⟨ne, _, at' + 1, n + 1, upd_same, by rw [upd_ne ne.symm]; exact hc2, hx2⟩ fr2.updP
        · refine ⟨_, rfl, ?_⟩
          exact k _ _ r0 r1 ⟨ne, _, at', n + 1, hq2, hc2, hx2⟩ fr2
    case' neg =>
      rw [decide_eq_false h1]
      refine iteF ?_
      refine iteF ?_
    all_goals
      refine ⟨_, rfl, _, _, rfl, rfl, _, rfl, p, _, _, 1, rfl, rfl, hq1, rfl, ?_⟩
      let H3 : Hp := upd H1 p (.lst [.ref c, .int ((at' + 1 : Nat) : Int), .int ((n + 1 : Nat) : Int)])
      have hc3 : H3 c = some (.lst (xs.map V.int)) := (upd_ne ne.symm).trans hc1
      have hq3 : H3 p = some (.lst [.ref c, .int ((at' + 1 : Nat) : Int), .int ((n + 1 : Nat) : Int)]) := upd_same
      have fr3 : Fr p c H H3 := fr1.updP
      refine ⟨_, rfl, c, _, rfl, .inl (SqL.of hc3), _, _, rfl, rfl, _, rfl, ?_⟩
      by_cases h4 : (0 : Int) < ((xs.map V.int).length : Int)
      case' pos =>
        have h5 : 0 < xs.length := by rw [hlen] at h4; omega
        have h6 : at' % xs.length < xs.length := Nat.mod_lt _ h5
        rw [decide_eq_true h4]
        refine iteT ?_
        refine ⟨_, rfl, _, rfl, _, rfl, c, _, rfl, .inl (SqL.of hc3), _, _, rfl, rfl, h4, c, _, _, _, rfl, rfl, SqL.of hc3, atI_of (j := at' % xs.length) (by rw [hlen]; exact (Int.natCast_emod _ _).symm) (get_map_int h6), ?_⟩
        generalize xs[at' % xs.length] = z
      case' neg =>
        rw [decide_eq_false h4]
        refine iteF ?_
      all_goals
        refine ⟨_, rfl, .inl ⟨_, rfl, _, _, rfl, rfl, pos1, _, rfl, p, _, _, _, rfl, rfl, SqL.of hq3, atI_nat (j := 2) rfl, _, _, rfl, rfl, .inl ⟨by decide, by decide⟩, _, _, rfl, rfl, _, _, rfl, rfl, .inl ⟨_, rfl, _, _, rfl, rfl, .inr ⟨by decide, by decide⟩, _, _, rfl, rfl, pos2, ?_⟩⟩⟩
        refine ⟨_, rfl, _, rfl, _, _, rfl, rfl, ⟨by decide, by decide⟩, _, _, rfl, rfl, _, _, rfl, rfl, cmul_l pos2 (by decide), .inl ⟨_, rfl, _, _, rfl, rfl, pos2, ?_⟩⟩
        refine ⟨_, rfl, _, rfl, _, _, rfl, rfl, ⟨by decide, by decide⟩, _, _, rfl, rfl, _, _, rfl, rfl, cmul_l pos2 (by decide), .inl ⟨_, rfl, _, _, rfl, rfl, pos3, ?_⟩⟩
        refine ⟨_, rfl, _, _, rfl, rfl, ⟨by decide, by decide⟩, .inl ⟨_, rfl, _, rfl, _, _, rfl, rfl, hl, ?_⟩⟩
        exact k _ _ (Int.emod_nonneg _ (by omega)) (Int.emod_lt_of_pos _ hl) ⟨ne, xs, at' + 1, n + 1, hq3, hc3, hx⟩ fr3
end
end TW
set_option Elab.async false
set_option linter.all false
set_option maxRecDepth 100000
namespace TW
open PySem PySem.Spec PyProof.Rows L2 TL
abbrev St' := L2.St
/-! ### mathematics -/
theorem len_le_of_sub {α : Type} [DecidableEq α] : ∀ (l m : List α), l.Nodup → (∀ x ∈ l, x ∈ m) → l.length ≤ m.length
  | [], _, _, _ => Nat.zero_le _
  | x :: l, m, nd, h => by
    have hx : x ∈ m := h x (List.mem_cons_self ..)
    have nd' := List.nodup_cons.mp nd
    have ih := len_le_of_sub l (m.erase x) nd'.2 (fun y hy => (List.mem_erase_of_ne (fun e => nd'.1 (by rw [← e]; exact hy))).mpr (h y (List.mem_cons_of_mem _ hy)))
    rw [List.length_erase_of_mem hx] at ih
    have : 0 < m.length := List.length_pos_of_mem hx
    rw [List.length_cons]
    omega
/-- a word: 1 to 8 letters -/
def IsW (z : Str) : Prop := 1 ≤ z.length ∧ z.length ≤ 8 ∧ ∀ c ∈ z.cps.toList, 97 ≤ c ∧ c ≤ 122
def rep8 (c : Nat) : Str := ⟨#[c, c, c, c, c, c, c, c]⟩
theorem rep8_w {c : Nat} (h : 97 ≤ c ∧ c ≤ 122) : IsW (rep8 c) := ⟨(by show 1 ≤ 8; decide), (by show 8 ≤ 8; decide), fun d hd => by
  have : d = c := by simpa [rep8] using hd
  subst this; exact h⟩
theorem rep8_inj {c d : Nat} (h : rep8 c = rep8 d) : c = d := by
  unfold rep8 at h
  simp only [Str.mk.injEq] at h
  have := congrArg (fun a : Array Nat => a[0]?) h
  simpa using this
theorem reps_full {ws : List Str} (h : ∀ j, j < 26 → rep8 (97 + j) ∈ ws) : 26 ≤ ws.length := by
  have e := len_le_of_sub ((List.range 26).map fun j => rep8 (97 + j)) ws ?_ ?_
  · simpa using e
  · refine List.Pairwise.map _ (fun a b hab h' => hab ?_) (List.nodup_range (n := 26))
    have := rep8_inj h'
    omega
  · intro x hx
    obtain ⟨j, hj, rfl⟩ := List.mem_map.mp hx
    exact h j (List.mem_range.mp hj)
theorem abc_at : ∀ r : Fin 26, ((Str.ofString "abcdefghijklmnopqrstuvwxyz").cps.toList)[(r : Nat)]? = some (97 + (r : Nat)) := by decide +kernel
theorem abc_at' {i c : Nat} (h : (Str.ofString "abcdefghijklmnopqrstuvwxyz").cps[i]? = some c) : i < 26 ∧ c = 97 + i := by
  have h' : (Str.ofString "abcdefghijklmnopqrstuvwxyz").cps.toList[i]? = some c := by rw [← h]; simp
  have hl : (Str.ofString "abcdefghijklmnopqrstuvwxyz").cps.toList.length = 26 := by decide +kernel
  have hi : i < 26 := by
    have := (List.getElem?_eq_some_iff.mp h').1
    omega
  have := abc_at ⟨i, hi⟩
  simp only at this
  rw [h'] at this
  exact ⟨hi, Option.some.inj this⟩
theorem join_signs : ∀ cs : List Nat, tl (Str.join Str.empty (cs.map fun c => (⟨#[c]⟩ : Str))) = cs
  | [] => rfl
  | [c] => rfl
  | c :: d :: r => by
    have ih := join_signs (d :: r)
    rw [tl_join] at ih ⊢
    show [c] ++ ([] ++ _) = _
    rw [List.nil_append]
    show c :: _ = c :: (d :: r)
    exact congrArg (c :: ·) ih
theorem join_cps (cs : List Nat) : (Txt.join Str.empty (cs.map fun c => (⟨#[c]⟩ : Str))).cps.toList = cs := by
  rw [join_eq]
  exact join_signs cs
theorem flat_strs : ∀ ws : List Str, (ws.map V.str).all flatV = true
  | [] => rfl
  | _ :: ws => flat_strs ws
theorem inV_strs {z : Str} {ws : List Str} : inV (.str z) (ws.map V.str) = decide (z ∈ ws) := by
  induction ws with
  | nil => rfl
  | cons y ws ih =>
    show (eqV (.str y) (.str z) || inV (.str z) (ws.map V.str)) = _
    rw [ih]
    by_cases h : z = y
    · subst h
      simp [eqV]
    · have h2 : ¬ y = z := fun e => h e.symm
      simp [eqV, h, h2]
theorem ite_dec {b : Bool} {A C : Prop} (h1 : b = true → A) (h2 : b = false → C) : if b = true then A else C := by
  cases b
  · exact (if_neg Bool.false_ne_true).mpr (h2 rfl)
  · exact (if_pos rfl).mpr (h1 rfl)
theorem not_inT {z : Str} {ws : List Str} (h : (if true = true then !inV (.str z) (ws.map V.str) else inV (.str z) (ws.map V.str)) = true) : z ∉ ws := by
  rw [inV_strs] at h
  simpa using h
theorem not_inF {z : Str} {ws : List Str} (h : (if true = true then !inV (.str z) (ws.map V.str) else inV (.str z) (ws.map V.str)) = false) : z ∈ ws := by
  rw [inV_strs] at h
  simpa using h
theorem yes_of {σ : St'} {H : Hp} {A C : Hp → Prop} (h : A H) : tYes σ H fun b H3 => if b = true then A H3 else C H3 := iteT (A := A H) (B := C H) h
/-! ### rules of mine -/
section
variable {X : Cx}
def rMulS : R2 := fun x y H Q => ∃ z n, x = .str z ∧ y = .int n ∧ MulOk z n ∧ Q (.str (Txt.mul z n)) H
theorem op_mulS : OpR X (binaryOp .Mult) rMulS := by
  intro pins s σ H x y v u Q I rx ry h
  obtain ⟨z, n, rfl, rfl, hm, q⟩ := h
  obtain ⟨t, rfl⟩ := rx
  obtain ⟨t', rfl⟩ := ry
  exact SB.mul hm fun t2 k => ⟨.str _, H, I.tok k, ⟨_, rfl⟩, q⟩
end
theorem mul8_ok (c : Nat) : MulOk ⟨#[c]⟩ 8 := ⟨by decide, fun _ _ => by show ¬ ((1 : Int) > (2 ^ 63 - 1) / 8); decide, fun _ _ => by show Builtin.Str.tooLong (1 * 8) = false; decide⟩
theorem mul8 (c : Nat) : Txt.mul ⟨#[c]⟩ 8 = rep8 c := rfl
theorem for_str {x : Str} {g : TG} {tb : TS} {D : Ends} {σ : St'} {H : Hp} (Pv : Nat → St' → Hp → Prop) (h0 : Pv 0 σ H)
    (hs : ∀ i c σ H, x.cps[i]? = some c → Pv i σ H → g (.str ⟨#[c]⟩) σ H fun σ2 H2 => tb { D with nx := Pv (i + 1), ct := Pv (i + 1), bk := D.nx } σ2 H2) (hd : ∀ σ H, Pv x.cps.size σ H → D.nx σ H) :
    ∃ W : Nat → Nat → St' → Hp → Prop, (∃ m, W 0 m σ H) ∧ ∀ i m σ H, W i m σ H →
      ((Its x).stop i H ∧ D.nx σ H) ∨ ((Its x).go i H ∧ ∃ N : St' → Hp → Prop, (∀ σ' H', N σ' H' → ∃ m', m' < m ∧ W (i + 1) m' σ' H') ∧ ∀ y H', (Its x).yld i H y H' → g y σ H' fun σ2 H2 => tb { D with nx := N, ct := N, bk := D.nx } σ2 H2) := by
  refine ⟨fun i m σ H => m = x.cps.size - i ∧ i ≤ x.cps.size ∧ Pv i σ H, ⟨x.cps.size, by simp, Nat.zero_le _, h0⟩, ?_⟩
  rintro i m σ H ⟨rfl, hi, p⟩
  by_cases hlt : i < x.cps.size
  · refine .inr ⟨hlt, Pv (i + 1), fun σ' H' p' => ⟨x.cps.size - (i + 1), by omega, rfl, hlt, p'⟩, fun y H' hy => ?_⟩
    obtain ⟨e, c, hc, rfl⟩ := hy
    subst e
    exact hs i c σ _ hc p
  · have e : i = x.cps.size := by omega
    subst e
    exact .inl ⟨Nat.le_refl _, hd σ H p⟩
/-! ### the promises -/
/-- a list or tuple of mine (not the pool's) -/
structure SeqSt (p c : Addr) (H : Hp) (a : Addr) (xs : List V) : Prop where
  np : a ≠ p
  nc : a ≠ c
  at' : H a = some (.lst xs) ∨ H a = some (.tup xs)
theorem SeqSt.fr {p c a : Addr} {H H' : Hp} {xs : List V} (S : SeqSt p c H a xs) (f : Fr p c H H') : SeqSt p c H' a xs :=
  ⟨S.np, S.nc, S.at'.elim (fun h => .inl (f _ _ S.np S.nc h)) (fun h => .inr (f _ _ S.np S.nc h))⟩
theorem SeqSt.lt {p c a : Addr} {H : Hp} {xs : List V} {K : PySem.W.Frag} (S : SeqSt p c H a xs) : SqL K H a xs ∨ SqT K H a xs := S.at'.elim (fun h => .inl (SqL.of h)) (fun h => .inr (SqT.of h))
def spPick : Sp := fun vs H Q _ => ∃ (p c a : Addr) (xs : List V), vs = [.ref p, .ref a] ∧ Pool p c H ∧ SeqSt p c H a xs ∧ xs ≠ [] ∧ xs.length ≤ 1000000 ∧
  ∀ (v : V) (i : Nat) (H' : Hp), xs[i]? = some v → Pool p c H' → Fr p c H H' → Q v H'
def spWord : Sp := fun vs H Q _ => ∃ (p c a : Addr) (ws : List Str), vs = [.ref p, .ref a] ∧ Pool p c H ∧ SeqSt p c H a (ws.map V.str) ∧
  ∀ (z : Str) (H' : Hp), IsW z → (ws.length < 26 → z ∉ ws) → Pool p c H' → Fr p c H H' → Q (.str z) H'
def spWords : Sp := fun vs H Q _ => ∃ (p c : Addr) (lo hi : Nat), vs = [.ref p, .int (lo : Int), .int (hi : Int)] ∧ Pool p c H ∧ lo ≤ hi ∧ hi ≤ 20 ∧
  ∀ (q : Addr) (ws : List Str) (H' : Hp), H q = none → H' q = some (.lst (ws.map V.str)) → lo ≤ ws.length → ws.length ≤ hi → ws.Nodup → (∀ z ∈ ws, IsW z) → Pool p c H' → Fr p c H H' → Q (.ref q) H'
theorem log_small {l : Int} (h0 : 0 < l) (h : l ≤ 2 ^ 64) : l.natAbs.log2 < 9000 := by
  have h1 : l.natAbs < 2 ^ 65 := by omega
  have h2 : l.natAbs ≠ 0 := by omega
  have := (Nat.log2_lt h2).mpr h1
  omega
abbrev S_law_pick : Stmt := topS 50
abbrev N_law_pick : List Str := ["_law_pool", "_law_row"]
abbrev P_law_pick : List Str := ["_law_pool", "_law_row"]
theorem sc_law_pick : FnScope N_law_pick P_law_pick (defScope S_law_pick) := ⟨rfl, rfl, rfl, by decide +kernel, rfl, by decide +kernel, by decide +kernel⟩
abbrev S_law_word : Stmt := topS 51
abbrev N_law_word : List Str := ["_law_pool", "_law_taken", "_law_letters", "_law_size", "_law_word_here", "_law_k", "_law_letter"]
abbrev P_law_word : List Str := ["_law_pool", "_law_taken"]
theorem sc_law_word : FnScope N_law_word P_law_word (defScope S_law_word) := ⟨rfl, rfl, rfl, by decide +kernel, rfl, by decide +kernel, by decide +kernel⟩
abbrev S_law_words : Stmt := topS 52
abbrev N_law_words : List Str := ["_law_pool", "_law_least", "_law_most", "_law_words_here", "_law_k"]
abbrev P_law_words : List Str := ["_law_pool", "_law_least", "_law_most"]
theorem sc_law_words : FnScope N_law_words P_law_words (defScope S_law_words) := ⟨rfl, rfl, rfl, by decide +kernel, rfl, by decide +kernel, by decide +kernel⟩
section
variable {P : Program} {w : World} {K : PySem.W.Frag} {mg : Str → Option Value} {base : Heap}
set_option maxHeartbeats 4000000 in
theorem ok_pick {f fD : Addr} {fd fdD : FuncData} (F : Fun K "_law_pick" "_law_pick" S_law_pick f fd) (B : Bl mg) (d_law_draw : Df K mg "_law_draw" S_law_draw fD fdD P_law_draw) (G_law_draw : FnOk P w K mg base CX0 1 fD fdD P_law_draw spDraw) : FnOk P w K mg base CX0 2 f fd P_law_pick spPick := by
  refine F.ok sc_law_pick (fun vs H Q E h => ?_) (fun cdv A outer s H vs Q E hr h => ?_)
  · obtain ⟨p, c, a, xs, rfl, _⟩ := h
    rfl
  · obtain ⟨p, c, a, xs, rfl, PL, S, hne, hl, k⟩ := h
    have hr_law_draw : Room 1 _ := hr.mono (Nat.le_refl 1)
    refine ⟨_, (pss_one (ps_ret (pe_ix ix_seq (pv 1) (pe_call G_law_draw hr_law_draw rfl d_law_draw.g d_law_draw.F.kp d_law_draw.b .nil pass0 (pa_cons (pv 0) (pa_cons (pe_callB call_len (by rfl) B.m_len PySem.boot_len (pa_cons (pv 1) pa_nil)) pa_nil))) (fun _ _ => rfl)))), ?_⟩
    have hpos : 0 < xs.length := List.length_pos_iff.mpr hne
    refine ⟨_, rfl, _, rfl, _, rfl, .ref a, xs.length, rfl, S.at'.elim (fun h => .inl ⟨_, SqL.of h, rfl⟩) (fun h => .inr ⟨_, SqT.of h, rfl⟩), ?_⟩
    refine ⟨p, c, _, rfl, PL, by omega, log_small (by omega) (by omega), fun r H' h0 h1 P' f' => ?_⟩
    have S' := S.fr f'
    have hr' : r.toNat < xs.length := by omega
    have hat : atI xs r = some xs[r.toNat] := atI_of (j := r.toNat) (by omega) (List.getElem?_eq_getElem hr')
    have q := k xs[r.toNat] r.toNat H' (List.getElem?_eq_getElem hr') P' f'
    rcases S'.at' with h | h
    · exact .inl ⟨a, _, _, _, rfl, rfl, SqL.of h, hat, q⟩
    · exact .inr (.inl ⟨a, _, _, _, rfl, rfl, SqT.of h, hat, q⟩)
set_option maxHeartbeats 4000000 in
theorem ok_word {f fD : Addr} {fd fdD : FuncData} (F : Fun K "_law_word" "_law_word" S_law_word f fd) (B : Bl mg) (d_law_draw : Df K mg "_law_draw" S_law_draw fD fdD P_law_draw) (G_law_draw : FnOk P w K mg base CX0 1 fD fdD P_law_draw spDraw) : FnOk P w K mg base CX0 2 f fd P_law_word spWord := by
  refine F.ok sc_law_word (fun vs H Q E h => ?_) (fun cdv A outer s H vs Q E hr h => ?_)
  · obtain ⟨p, c, a, xs, rfl, _⟩ := h
    rfl
  · obtain ⟨p, c, a, ws, rfl, PL, S, k⟩ := h
    have hr_law_draw : Room 1 _ := hr.mono (Nat.le_refl 1)
    refine ⟨_, (pss_cons (ps_set (i := 2) sc_law_word.nd rfl (by first | exact Or.inl rfl | exact Or.inr rfl) pe_str)
 (pss_cons (ps_set (i := 3) sc_law_word.nd rfl (by first | exact Or.inl rfl | exact Or.inr rfl) (pe_op op_add pe_int (pe_call G_law_draw hr_law_draw rfl d_law_draw.g d_law_draw.F.kp d_law_draw.b .nil pass0 (pa_cons (pv 0) (pa_cons pe_int pa_nil)))))
 (pss_cons (ps_set (i := 4) sc_law_word.nd rfl (by first | exact Or.inl rfl | exact Or.inr rfl) (pe_join pe_str (pe_lc (own := [("_law_k", 5)]) (g := gName 5) (tt := tYes) rfl sc_law_word.nd (pi_range1 (by rfl) B.m_range (pa_cons (pv 3) pa_nil)) (blkOk_by (own := [("_law_k", 5)]) (N := N_law_word) (sc := defScope S_law_word) (by decide +kernel)) (fun _ _ _ _ _ => (pg_name (i := 5) sc_law_word.nd rfl (by first | exact Or.inl rfl | exact Or.inr rfl))) (fun _ _ _ _ _ => pts_nil) (fun _ _ _ _ _ => (pe_ix ix_str (pv 2) (pe_call G_law_draw hr_law_draw rfl d_law_draw.g d_law_draw.F.kp d_law_draw.b .nil pass0 (pa_cons (pv 0) (pa_cons pe_int pa_nil))) (fun _ _ => rfl))))))
 (pss_cons (ps_if (pt_cmpR op_notIn_seq (pv 4) (pv 1) (by rfl)) (pss_one (ps_ret (pv 4))) pss_nil)
 (pss_cons (ps_for PassesOwn.never rfl (pi_str (pv 2)) (pg_name (i := 6) sc_law_word.nd rfl (by first | exact Or.inl rfl | exact Or.inr rfl)) (pss_one (ps_if (pt_cmpR op_notIn_seq (pe_op op_mulS (pv 6) pe_int) (pv 1) (by rfl)) (pss_one (ps_ret (pe_op op_mulS (pv 6) pe_int))) pss_nil)))
 (pss_one (ps_ret (pv 4)))))))), ?_⟩
    -- letters; size
    refine ⟨_, rfl, p, c, 8, rfl, PL, by decide, by decide, fun r1 H1 r10 r11 P1 f1 => ?_⟩
    refine ⟨_, _, rfl, rfl, ?_⟩
    -- the text
    refine ⟨⟨_, rfl⟩, _, rfl, _, rfl, by omega, by omega, fun D hD => ?_⟩
    obtain ⟨dp, dc⟩ := P1.np hD
    have P1' : Pool p c (upd H1 D (.lst [])) := P1.frN hD
    have f1' : Fr p c H (upd H1 D (.lst [])) := fun b o h1 h2 h => by
      have e := f1 b o h1 h2 h
      rw [upd_ne (ne_of_none e hD)]; exact e
    refine lc_range (lo := 0) (n := (1 + r1).toNat) (fun i H2 => Pool p c H2 ∧ Fr p c H H2 ∧ ∃ cs : List Nat, cs.length = i ∧ (∀ x ∈ cs, 97 ≤ x ∧ x ≤ 122) ∧ H2 D = some (.lst ((cs.map fun x => (⟨#[x]⟩ : Str)).map V.str)))
      ⟨P1', f1', [], rfl, fun x hx => (nomatch hx), upd_same⟩ ?_ ?_
    · rintro i H2 hi ⟨P2, f2, cs, hcs, hr2, hD2⟩
      refine ⟨rfl, yes_of ?_⟩
      refine ⟨_, rfl, _, rfl, p, c, 26, rfl, P2, by decide, by decide, fun r3 H3 r30 r31 P3 f3 => ?_⟩
      have hlt : r3.toNat < 26 := by omega
      have hat := abc_at ⟨r3.toNat, hlt⟩
      simp only at hat
      refine ⟨_, _, 97 + r3.toNat, rfl, rfl, by decide, atI_of (j := r3.toNat) (by omega) hat, ?_⟩
      have hD3 := f3 _ _ dp dc hD2
      refine ⟨_, hD3, by rw [List.length_map, List.length_map, hcs]; exact Nat.lt_of_lt_of_le (show i < 100 by omega) (by decide), ?_⟩
      have hnD : ∀ {o : HO}, Pool p c (upd H3 D o) := fun {o} => by
        obtain ⟨xs, a2, m2, g1, g2, g3⟩ := P3.ex
        exact ⟨P3.ne, xs, a2, m2, by rw [upd_ne dp.symm]; exact g1, by rw [upd_ne dc.symm]; exact g2, g3⟩
      refine ⟨hnD, fun b o h1 h2 h => ?_, cs ++ [97 + r3.toNat], by rw [List.length_append, hcs]; rfl, fun x hx => ?_, ?_⟩
      · have e1 := f1 b o h1 h2 h
        have hbD : b ≠ D := ne_of_none e1 hD
        rw [upd_ne hbD]
        exact f3 _ _ h1 h2 (f2 _ _ h1 h2 h)
      · rcases List.mem_append.mp hx with hx | hx
        · exact hr2 x hx
        · have := List.mem_singleton.mp hx
          omega
      · rw [upd_same, List.map_append, List.map_append]
        rfl
    · rintro H2 ⟨P2, f2, cs, hcs, hr2, hD2⟩
      have hsz : (((cs.map fun x => (⟨#[x]⟩ : Str))).map (·.length)).sum = cs.length := by
        clear hcs hr2 hD2
        induction cs with
        | nil => rfl
        | cons x cs ih =>
          rw [List.map_cons, List.map_cons, List.sum_cons, ih, List.length_cons]
          show 1 + _ = _
          omega
      refine ⟨_, D, cs.map fun x => (⟨#[x]⟩ : Str), rfl, rfl, .inl (SqL.of hD2), ?_, ?_⟩
      · rw [hsz, hcs]
        show (1 + r1).toNat + _ * 0 ≤ _
        omega
      have hz : (Txt.join Str.empty (cs.map fun x => (⟨#[x]⟩ : Str))).cps.toList = cs := join_cps cs
      have hw : IsW (Txt.join Str.empty (cs.map fun x => (⟨#[x]⟩ : Str))) := by
        have hl : (Txt.join Str.empty (cs.map fun x => (⟨#[x]⟩ : Str))).length = cs.length := by
          show Array.size _ = _
          rw [← Array.length_toList, hz]
        refine ⟨by rw [hl, hcs]; omega, by rw [hl, hcs]; omega, fun x hx => ?_⟩
        rw [hz] at hx
        exact hr2 x hx
      have S2 := S.fr f2
      -- if it is not taken
      refine ⟨_, rfl, _, rfl, a, _, rfl, S2.lt, rfl, flat_strs ws, _, rfl, ?_⟩
      refine ite_dec (fun hb => ?_) (fun hb => ?_)
      rotate_left
      · have hin := not_inF hb
        -- for letter in letters
        refine ⟨_, rfl, _, rfl, for_str (x := Str.ofString "abcdefghijklmnopqrstuvwxyz") (fun i σ H3 => H3 = H2 ∧ (∀ j, j < i → rep8 (97 + j) ∈ ws) ∧ σ.length = 7 ∧ ∃ z1 z2 z3, σ[0]? = some (some (.ref p)) ∧ σ[1]? = some (some (.ref a)) ∧ σ = [some (.ref p), some (.ref a), z1, z2, some (.str (Txt.join Str.empty (cs.map fun x => (⟨#[x]⟩ : Str)))), none, z3]) ⟨rfl, fun j hj => (nomatch hj), rfl, _, _, _, rfl, rfl, rfl⟩ ?_ ?_⟩
        · rintro i c' σ H3 hc' ⟨rfl, hj, _, z1, z2, z3, _, _, rfl⟩
          obtain ⟨hi, rfl⟩ := abc_at' hc'
          refine ⟨_, rfl, _, _, rfl, rfl, mul8_ok _, _, rfl, a, _, rfl, S2.lt, rfl, flat_strs ws, _, rfl, ?_⟩
          refine ite_dec (fun hb2 => ?_) (fun hb2 => ?_)
          rotate_left
          · have hin2 : rep8 (97 + i) ∈ ws := not_inF hb2
            refine ⟨rfl, fun j hj2 => ?_, rfl, _, _, _, rfl, rfl, rfl⟩
            rcases Nat.lt_or_ge j i with h | h
            · exact hj j h
            · have : j = i := by omega
              subst this; exact hin2
          · have hin2 : rep8 (97 + i) ∉ ws := not_inT hb2
            exact ⟨_, rfl, _, _, rfl, rfl, mul8_ok _, k _ _ (rep8_w (c := 97 + i) (by omega)) (fun _ => hin2) P2 f2⟩
        · rintro σ H3 ⟨rfl, hj, _, z1, z2, z3, _, _, rfl⟩
          refine ⟨_, rfl, k _ _ hw (fun hlt => ?_) P2 f2⟩
          have := reps_full (ws := ws) fun j hj' => hj j (Nat.lt_of_lt_of_le hj' (by decide +kernel))
          omega
      · have hin := not_inT hb
        exact ⟨_, rfl, k _ _ hw (fun _ => hin) P2 f2⟩
set_option maxHeartbeats 4000000 in
theorem ok_words {f fD fW : Addr} {fd fdD fdW : FuncData} (F : Fun K "_law_words" "_law_words" S_law_words f fd) (B : Bl mg) (d_law_draw : Df K mg "_law_draw" S_law_draw fD fdD P_law_draw) (G_law_draw : FnOk P w K mg base CX0 1 fD fdD P_law_draw spDraw)
    (d_law_word : Df K mg "_law_word" S_law_word fW fdW P_law_word) (G_law_word : FnOk P w K mg base CX0 2 fW fdW P_law_word spWord) : FnOk P w K mg base CX0 3 f fd P_law_words spWords := by
  refine F.ok sc_law_words (fun vs H Q E h => ?_) (fun cdv A outer s H vs Q E hr h => ?_)
  · obtain ⟨p, c, lo, hi, rfl, _⟩ := h
    rfl
  · obtain ⟨p, c, lo, hi, rfl, PL, hlh, hhi, k⟩ := h
    have hr_law_draw : Room 1 _ := hr.mono (by decide)
    have hr_law_word : Room 2 _ := hr.mono (by decide)
    refine ⟨_, (pss_cons (ps_set (i := 3) sc_law_words.nd rfl (by first | exact Or.inl rfl | exact Or.inr rfl) (pe_lst pa_nil))
 (pss_cons (ps_for PassesOwn.never rfl (pi_range1 (by rfl) B.m_range (pa_cons (pe_op op_add (pv 1) (pe_call G_law_draw hr_law_draw rfl d_law_draw.g d_law_draw.F.kp d_law_draw.b .nil pass0 (pa_cons (pv 0) (pa_cons (pe_op op_add (pe_op op_sub (pv 2) (pv 1)) pe_int) pa_nil)))) pa_nil)) (pg_name (i := 4) sc_law_words.nd rfl (by first | exact Or.inl rfl | exact Or.inr rfl)) (pss_one (ps_expr (pe_bm PySem.F.plainAttrs_list PySem.F.slot_list_append PySem.F.type_list_append mt_append (pv 3) (pa_cons (pe_call G_law_word hr_law_word rfl d_law_word.g d_law_word.F.kp d_law_word.b .nil pass0 (pa_cons (pv 0) (pa_cons (pv 3) pa_nil))) pa_nil)))))
 (pss_one (ps_ret (pv 3))))), ?_⟩
    refine ⟨Nat.zero_le _, fun q hq => ?_⟩
    obtain ⟨qp, qc⟩ := PL.np hq
    have P0 : Pool p c (upd H q (.lst [])) := PL.frN hq
    have f0 : Fr p c H (upd H q (.lst [])) := (Fr.refl p c H).updN hq
    refine ⟨_, rfl, _, rfl, _, rfl, _, rfl, _, _, rfl, rfl, _, _, rfl, rfl, p, c, _, rfl, P0, by omega, log_small (by omega) (by omega), fun r H1 r0 r1 P1 f1 => ?_⟩
    have hq1 : H1 q = some (.lst []) := f1 _ _ qp qc upd_same
    refine ⟨_, _, rfl, rfl, _, rfl, by omega, by omega, ?_⟩
    refine for_range (lo := 0) (n := ((lo : Int) + r).toNat) (fun i σ H2 => ∃ (ws : List Str) (z : Option V), σ = [some (.ref p), some (.int (lo : Int)), some (.int (hi : Int)), some (.ref q), z] ∧ H2 q = some (.lst (ws.map V.str)) ∧ ws.length = i ∧ ws.Nodup ∧ (∀ z ∈ ws, IsW z) ∧ Pool p c H2 ∧ Fr p c H H2)
      ⟨[], _, rfl, hq1, rfl, List.nodup_nil, fun z hz => (nomatch hz), P1, f0.trans f1⟩ ?_ ?_
    · rintro i σ H2 hi' ⟨ws, z, rfl, h2, hl, nd, hw, P2, f2⟩
      refine ⟨_, rfl, .inl ⟨rfl, _, SqL.of h2⟩, _, rfl, _, rfl, p, c, q, ws, rfl, P2, ⟨qp, qc, .inl h2⟩, fun z2 H3 w2 fresh P3 f3 => ?_⟩
      have h3 := f3 _ _ qp qc h2
      refine ⟨q, _, _, rfl, rfl, h3, by rw [List.length_map]; exact small1000 (by omega), ?_⟩
      refine ⟨ws ++ [z2], _, rfl, by rw [upd_same, List.map_append]; rfl, by rw [List.length_append, hl]; rfl, ?_, fun y hy => ?_, ?_, ?_⟩
      · refine List.nodup_append.mpr ⟨nd, by simp, fun x hx y hy => ?_⟩
        have := List.mem_singleton.mp hy
        subst this
        exact fun e => fresh (by omega) (by rw [← e]; exact hx)
      · rcases List.mem_append.mp hy with hy | hy
        · exact hw y hy
        · rw [List.mem_singleton.mp hy]; exact w2
      · obtain ⟨xs, a2, m2, g1, g2, g3⟩ := P3.ex
        exact ⟨P3.ne, xs, a2, m2, by rw [upd_ne qp.symm]; exact g1, by rw [upd_ne qc.symm]; exact g2, g3⟩
      · exact (f2.trans f3).updN hq
    · rintro σ H2 ⟨ws, z, rfl, h2, hl, nd, hw, P2, f2⟩
      exact ⟨_, rfl, k q ws H2 hq h2 (by omega) (by omega) nd hw P2 f2⟩
end
end TW
set_option Elab.async false
set_option linter.all false
set_option maxRecDepth 100000
/-! how many unlike texts: len(set(texts)) -/
namespace TW
open PySem PySem.Spec PyProof.Rows
def cntR : List Str → Nat
  | [] => 0
  | x :: r => if x ∈ r then cntR r else cntR r + 1
def cnt (l : List Str) : Nat := cntR l.reverse
theorem cnt_snoc (l : List Str) (x : Str) : cnt (l ++ [x]) = if x ∈ l then cnt l else cnt l + 1 := by
  unfold cnt
  rw [List.reverse_append, List.reverse_singleton, List.singleton_append]
  show (if x ∈ l.reverse then _ else _) = _
  by_cases h : x ∈ l
  · rw [if_pos h, if_pos (List.mem_reverse.mpr h)]
  · rw [if_neg h, if_neg (fun z => h (List.mem_reverse.mp z))]
theorem cntR_le : ∀ l : List Str, cntR l ≤ l.length
  | [] => Nat.le_refl _
  | x :: r => by
    have := cntR_le r
    show (if x ∈ r then cntR r else cntR r + 1) ≤ r.length + 1
    split <;> omega
theorem cntR_eq : ∀ l : List Str, cntR l = l.length ↔ l.Nodup
  | [] => by simp [cntR]
  | x :: r => by
    have h1 := cntR_le r
    have h2 := cntR_eq r
    show (if x ∈ r then cntR r else cntR r + 1) = r.length + 1 ↔ _
    rw [List.nodup_cons]
    by_cases h : x ∈ r
    · rw [if_pos h]
      exact ⟨fun e => by omega, fun e => absurd h e.1⟩
    · rw [if_neg h]
      exact ⟨fun e => ⟨h, h2.mp (by omega)⟩, fun e => by rw [h2.mpr e.2]⟩
theorem cnt_le (l : List Str) : cnt l ≤ l.length := by
  have := cntR_le l.reverse
  rw [List.length_reverse] at this
  exact this
theorem cnt_eq (l : List Str) : cnt l = l.length ↔ l.Nodup := by
  have := cntR_eq l.reverse
  rw [List.length_reverse] at this
  refine this.trans ?_
  unfold List.Nodup
  rw [List.pairwise_reverse]
  exact ⟨fun z => z.imp fun h e => h e.symm, fun z => z.imp fun h e => h e.symm⟩
/-- the texts so far, as a test -/
def hasS (l : List Str) (k : Str) : Bool := decide (k ∈ l)
theorem hasS_snoc (l : List Str) (x k : Str) : (hasS l k || decide (k = x)) = hasS (l ++ [x]) k := by
  unfold hasS
  by_cases h : k ∈ l <;> by_cases e : k = x <;> simp [h, e]
theorem taken_more {xs : List Str} {i : Nat} (h : i < xs.length) : xs.take (i + 1) = xs.take i ++ [xs.getD i Str.empty] := by
  rw [List.take_add_one, List.getElem?_eq_getElem h]
  simp [List.getD, List.getElem?_eq_getElem h]
abbrev HasN (prog : Program) (w : World) (h : Heap) (S : Addr) (l : List Str) : Prop := h.SetOf (PySem.strKind prog w) S (hasS l) (cnt l)
theorem HasN.move {prog : Program} {w : World} {h h' : Heap} {S : Addr} {l : List Str} (x : HasN prog w h S l) (k : ∀ o, h.get? S = some o → h'.get? S = some o) : HasN prog w h' S l :=
  let ⟨o, es, ep, t, ho, r⟩ := x; ⟨o, es, ep, t, k o ho, r⟩
section
variable {prog : Program} {w : World} {A : Around} {R : Result → Shared → Prop} {it : Addr} {fp wr : List Addr} {G : Array GenState → Array GenState → Prop} {n : Nat} {P : Nat → Value → Prop} {St : Nat → Shared → Prop}
theorem strs_into (W : WalksS prog w A.in1 it fp wr G n P St) {S : Addr} (out : S ∉ fp) {xs : List Str} (len : xs.length = n) (small : n + 1 < scanBound) (vals : ∀ i v, P i v → ∃ t, v = .str (xs.getD i Str.empty) t) :
    ∀ (left i : Nat) (s : Shared), i + left = n → St i s → HasN prog w s.heap S (xs.take i) →
      (∀ s', Moved (S :: wr) G s s' → HasN prog w s'.heap S xs → R (.ok (.ret .none)) s') → codeAny (model prog w) A (.builtin "set.update.loop" ⟨[.ref S, .ref it], []⟩) R s := by
  have nwr : S ∉ wr := fun z => out (W.sub _ z)
  have sub : ∀ b ∈ wr, b ∈ S :: wr := fun b z => .tail _ z
  intro left
  induction left with
  | zero =>
    intro i s e st has fin
    refine codeAny_builtin PyProof.Rows.F.entry_set_update_loop ?_
    rw [Around.under_plainId PyProof.Rows.F.plain_set_update_loop]
    obtain rfl : i = n := e
    refine wpAny_bind (W.done s _ _ st fun s' mv => ?_)
    rw [List.take_of_length_le (Nat.le_of_eq len)] at has
    exact wpAny_pure (fin s' (mv.mono sub) (has.move fun o ho => mv.heap S o nwr ho))
  | succ left ih =>
    intro i s e st has fin
    have lt : i < n := by omega
    refine codeAny_builtin PyProof.Rows.F.entry_set_update_loop ?_
    rw [Around.under_plainId PyProof.Rows.F.plain_set_update_loop]
    refine wpAny_bind (W.item i s _ _ lt st fun v s' pv st' mv => ?_)
    obtain ⟨t, rfl⟩ := vals i v pv
    have has' : HasN prog w s'.heap S (xs.take i) := has.move fun o ho => mv.heap S o nwr ho
    refine wpAny_bind (wpAny_holding ?_)
    unfold setAdd
    refine wpAny_holding (wpAny_bind ((PySem.strKind prog w).pyHash (k := xs.getD i Str.empty) (strKind_is ..) ?_))
    have room : cnt (xs.take i) + 1 < scanBound := by
      have := cnt_le (xs.take i)
      rw [List.length_take] at this
      omega
    refine wpAny_setAddHashed_of (s := { s' with toks := s'.toks + 1 }) (strKind_is ..) rfl has' room fun h2 but has2 => ?_
    have more : HasN prog w h2 S (xs.take (i + 1)) := by
      rw [taken_more (by omega)]
      refine SetOf_congr has2 (fun k => hasS_snoc ..) ?_
      rw [cnt_snoc]
      unfold hasS
      by_cases z : xs.getD i Str.empty ∈ xs.take i <;> simp [z]
    refine wpAny_pure ⟨plainId_quiet PyProof.Rows.F.plain_set_update_loop _, ih (i + 1) _ (by omega) (W.frame _ s' _ _ st' (Nat.le_succ _) fun b hb o z => ?_) more fun s2 mv2 has3 => ?_⟩
    · exact (but.2 b fun y => out (y ▸ hb)).trans z
    · exact fin s2 (Moved.trans W.gtrans ((mv.mono sub).then_heap (Nat.le_succ _) fun b o hb z => (but.2 b fun y => hb (y ▸ List.mem_cons_self)).trans z) mv2) has3
end

section
variable {prog : Program} {w : World} {A : Around} {E : Value → Shared → Prop} {s : Shared}
abbrev newSet (led : Bool) : Obj := { cls := .type "set", dict := none, data := .set #[] 0 (.fresh 0 0 led) }
/-- behind set(v) -/
def SetEnd (prog : Program) (w : World) (s : Shared) (xs : List Str) (Q : Value → Shared → Prop) : Prop :=
  ∀ (h' : Heap) (tk : Nat), HasN prog w h' s.heap.objs.size xs → (∀ b o, s.heap.get? b = some o → h'.get? b = some o) → Q (.ref s.heap.objs.size) { s with heap := h', toks := tk }
/-- set.__init__ over v, its turns told by W -/
def InitsBy (prog : Program) (w : World) (A : Around) (s : Shared) (v : Value) (xs : List Str) : Prop :=
  ∀ (led : Bool) (R : Fin → Shared → Prop) (E' : Value → Shared → Prop), (∀ h' tk, HasN prog w h' s.heap.objs.size xs → (∀ b o, s.heap.get? b = some o → h'.get? b = some o) → R (.done (.ret .none)) { s with heap := h', toks := tk }) →
    wpAny (model prog w) A (Builtin.«set.__init__» ⟨[.ref s.heap.objs.size, v], []⟩) R E' { s with heap := s.heap.push (newSet led) }
set_option maxHeartbeats 3200000 in
theorem set_of {v : Value} {xs : List Str} {Q : Value → Shared → Prop} (hi : InitsBy prog w A.in1.in1 s v xs) (q : SetEnd prog w s xs Q) : wpAny (model prog w) A (call (.type "set") [v]) Q E s := by
  have CS := PySem.F.called_set
  obtain ⟨c, tl, hmro⟩ := CS.mro
  have f1 := CS.made
  have f2 := CS.sub
  have f3 := CS.notType
  have f4 := CS.canCreate
  have f5 := PySem.F.typeCall_set_1 v
  refine wpAny_call (codeAny_of_tree ?_)
  show wpAny _ _ (callAny (.type "set") _) _ _ _
  refine wpAny_pure ⟨Code.quiet_builtin _ (by decide +kernel), codeAny_builtin PySem.F.entry_type_call ?_⟩
  rw [Around.under_plain (weight_type_call_type "set" [v] []) rfl]
  repeat (any_goals (first | assumption | wp_step))
  refine codeAny_mono (code_set_new_1 v (E := E) (Q₁ := fun x y => ∃ led, x = .ref s.heap.objs.size ∧ y = { s with heap := s.heap.push (newSet led) }) fun led => ⟨led, rfl, rfl⟩) fun r y hr => ?_
  match r, hr with
  | .error _, hr => exact hr
  | .ok (.ret x), hr =>
    obtain ⟨led, rfl, rfl⟩ := hr
    have at0 : (s.heap.push (newSet led)).get? s.heap.objs.size = some (newSet led) := Heap.get?_push_size _ rfl
    have ty : Shared.TypeIs { s with heap := s.heap.push (newSet led) } (.ref s.heap.objs.size) "set" := ⟨_, at0, rfl⟩
    have g1 := CS.init.lookup
    have g2 := CS.init.bind (.ref s.heap.objs.size)
    repeat (any_goals (first | assumption | wp_step))
    refine codeAny_mono (codeAny_call_builtin (R := wants (fun r y => r = .none ∧ ∃ h' tk, y = { s with heap := h', toks := tk } ∧ HasN prog w h' s.heap.objs.size xs ∧ ∀ b o, s.heap.get? b = some o → h'.get? b = some o) E) CS.init.plain PySem.F.entry_set_init (check_set_init_1 ty (hi led _ _ fun h' tk a b => ⟨rfl, h', tk, rfl, a, b⟩))) fun r2 y2 hr2 => ?_
    match r2, hr2 with
    | .error _, hr2 => exact hr2
    | .ok (.ret x), hr2 =>
      obtain ⟨rfl, h', tk, rfl, a, b⟩ := hr2
      repeat (any_goals (first | assumption | wp_step))
      exact q h' tk a b
    | .ok .next, hr2 => exact hr2.elim
    | .ok .brk, hr2 => exact hr2.elim
    | .ok .cont, hr2 => exact hr2.elim
  | .ok .next, hr => exact hr.elim
  | .ok .brk, hr => exact hr.elim
  | .ok .cont, hr => exact hr.elim

theorem not_two {a b c : Addr} (h : a ≠ b) (k : a ≠ c) : a ∉ [b, c] := fun z => by
  rcases List.mem_cons.mp z with z | z
  · exact h z
  · exact k (List.mem_singleton.mp z)
/-- the walk of a list or tuple at l into the new set -/
theorem inits_end {l : Addr} {items : Array Value} {xs : List Str} {led : Bool} {R : Fin → Shared → Prop} {A' : Around} {P : Nat → Value → Prop} {St : Nat → Shared → Prop} {I0 : Obj} (hl : l < s.heap.objs.size)
    (W : WalksS prog w A'.in1 (s.heap.objs.size + 1) [s.heap.objs.size + 1, l] [s.heap.objs.size + 1] (fun g g' => g' = g) items.size P St)
    (vals : ∀ i v, P i v → ∃ t, v = .str (xs.getD i Str.empty) t) (len : xs.length = items.size) (small : items.size + 1 < scanBound)
    (st : St 0 { s with heap := (s.heap.push (newSet led)).push I0 })
    (q : ∀ h' tk, HasN prog w h' s.heap.objs.size xs → (∀ b o, s.heap.get? b = some o → h'.get? b = some o) → R (.done (.ret .none)) { s with heap := h', toks := tk }) :
    codeAny (model prog w) A' (.builtin "set.update.loop" ⟨[.ref s.heap.objs.size, .ref (s.heap.objs.size + 1)], []⟩) (fun r s' => r = .ok (.ret .none) ∧ R (.done (.ret .none)) s') { s with heap := (s.heap.push (newSet led)).push I0 } := by
  have at0 : (s.heap.push (newSet led)).get? s.heap.objs.size = some (newSet led) := Heap.get?_push_size _ rfl
  refine strs_into W (S := s.heap.objs.size) (xs := xs) (not_two (Nat.ne_of_lt (Nat.lt_succ_self _)) (Nat.ne_of_gt hl)) len small vals items.size 0 _ (by omega) st ?_ fun s' mv has => ?_
  · exact SetOf_congr ((setObjOf_fresh (knd := PySem.strKind prog w) led).setOf (Heap.get?_push_of_some _ at0) (by unfold scanBound; omega)) (fun _ => rfl) rfl
  · obtain ⟨h', g', d', tk', os'⟩ := s'
    obtain rfl : g' = s.gens := mv.gens
    obtain rfl : d' = s.drawn := mv.drawn
    obtain rfl : os' = s.os := mv.os
    refine ⟨rfl, q h' tk' has fun b o e => ?_⟩
    have hb := Heap.lt_size e
    exact mv.heap b o (not_two (Nat.ne_of_lt hb) (Nat.ne_of_lt (Nat.lt_succ_of_lt hb))) (Heap.get?_push_of_some _ (Heap.get?_push_of_some _ e))

theorem vals_at {items : Array Value} {xs : List Str} (hi : StrsAre items.toList xs) : ∀ (i : Nat) (v : Value), items[i]? = some v → ∃ t, v = Value.str (xs.getD i Str.empty) t := fun i v hv => SS.strs_at hi i v (by rw [Array.getElem?_toList]; exact hv)
set_option maxHeartbeats 3200000 in
theorem inits_list {l : Addr} {items : Array Value} {xs : List Str} (hh : A.handled = none) (hl : s.heap.IsList l items) (hi : StrsAre items.toList xs) (small : items.size + 1 < scanBound) : InitsBy prog w A s (.ref l) xs := by
  intro led R E' q
  obtain ⟨⟨oc, od, oda, osl⟩, ho, hc, nl, hd⟩ := id hl
  dsimp only at hc hd
  subst hc hd
  have lt := Heap.lt_size ho
  have ho' : (s.heap.push (newSet led)).get? l = some { cls := .type "list", dict := od, data := .seq items nl, slots := osl } := Heap.get?_push_of_some _ ho
  have f1 := PySem.F.sub_list_set
  have f2 := PySem.F.sub_list_frozenset
  have f3 : (Value.type "list" == Value.type "dict") = false := by decide
  have il : (s.heap.push (newSet led)).IsList l items := ⟨_, ho', rfl, nl, rfl⟩
  have len : xs.length = items.size := by rw [← StrsAre.len_eq hi, Array.length_toList]
  unfold Builtin.«set.__init__» noKeywords Builtin.Frozenset.updateFrom
  generalize hP : pyIter = PI
  wp_walk
  subst hP
  refine wpAny_pyIter_list il ?_
  refine wpAny_bind (wpAny_runValue ?_)
  rw [Heap.size_push]
  have h3 : A.in1.handled = none := by simp [hh]
  refine codeAny_mono (inits_end (led := led) lt ((Walks.list h3 (s.heap.objs.size + 1) l (Nat.ne_of_lt (Nat.lt_succ_of_lt lt)) items).toS) (vals_at hi) len small ⟨⟨_, Heap.get?_push_at (Heap.size_push ..).symm rfl, rfl, rfl⟩, il.push _⟩ q) fun r s' h => ?_
  obtain ⟨rfl, h⟩ := h
  show wpAny _ _ _ _ _ _
  refine wpAny_pure ?_
  show wpAny _ _ (ret Value.none) _ _ _
  exact wpAny_pure h
set_option maxHeartbeats 3200000 in
theorem inits_tuple {l : Addr} {items : Array Value} {xs : List Str} (hh : A.handled = none) (hl : s.heap.IsTuple l items) (hi : StrsAre items.toList xs) (small : items.size + 1 < scanBound) : InitsBy prog w A s (.ref l) xs := by
  intro led R E' q
  obtain ⟨⟨oc, od, oda, osl⟩, ho, hc, nl, hd⟩ := id hl
  dsimp only at hc hd
  subst hc hd
  have lt := Heap.lt_size ho
  have ho' : (s.heap.push (newSet led)).get? l = some { cls := .type "tuple", dict := od, data := .seq items nl, slots := osl } := Heap.get?_push_of_some _ ho
  have f1 := PySem.F.sub_tuple_set
  have f2 := PySem.F.sub_tuple_frozenset
  have f3 : (Value.type "tuple" == Value.type "dict") = false := by decide
  have il : (s.heap.push (newSet led)).IsTuple l items := ⟨_, ho', rfl, nl, rfl⟩
  have len : xs.length = items.size := by rw [← StrsAre.len_eq hi, Array.length_toList]
  unfold Builtin.«set.__init__» noKeywords Builtin.Frozenset.updateFrom
  generalize hP : pyIter = PI
  wp_walk
  subst hP
  refine wpAny_pyIter_tuple il ?_
  refine wpAny_bind (wpAny_runValue ?_)
  rw [Heap.size_push]
  have h3 : A.in1.handled = none := by simp [hh]
  refine codeAny_mono (inits_end (led := led) lt ((Walks.tuple h3 (s.heap.objs.size + 1) l (Nat.ne_of_lt (Nat.lt_succ_of_lt lt)) items).toS) (vals_at hi) len small ⟨⟨_, Heap.get?_push_at (Heap.size_push ..).symm rfl, rfl, rfl⟩, il.push _⟩ q) fun r s' h => ?_
  obtain ⟨rfl, h⟩ := h
  show wpAny _ _ _ _ _ _
  refine wpAny_pure ?_
  show wpAny _ _ (ret Value.none) _ _ _
  exact wpAny_pure h

end
end TW
namespace TW
open PySem PySem.Spec PyProof.Rows L2
/-- len(set(words)), the words in a list or tuple -/
def tLenSetN (K : PySem.W.Frag) (ta : TE) : TE := fun σ H Q => ta σ H fun x H1 => ∃ l, ∃ xs : List Str, x = .ref l ∧ (SqL K H1 l (xs.map V.str) ∨ SqT K H1 l (xs.map V.str)) ∧ xs.length ≤ 1000 ∧ Q (.int (cnt xs : Nat)) H1
theorem pe_lenSetN {X : Cx} {a : Expr} {ta : TE} {p p2 q pos : Pos} (hc : X.calm = true) (hg : Gl X "len") (hm : X.mg "len" = none) (hg2 : Gl X "set") (hm2 : X.mg "set" = none) (ha : PE X a ta)
    (na : starEach [a] X.env = (false, eval a X.env) :: starEach [] X.env := by rfl) : PE X (.Call (.Name "len" p) [.Call (.Name "set" p2) [a] [] q] [] pos) (tLenSetN X.K ta) := by
  refine ⟨fun pins s σ H Q I h => ?_⟩
  refine Call_ (ld_blt I hg hm boot_len (PyProof.Rows.callWith_builtin1 (PyProof.Rows.args_cons (Call_ (ld_blt I hg2 hm2 boot_set ?_)) rfl) rfl rfl))
  refine PyProof.Rows.callWith_type1 (PyProof.Rows.args_cons (thn (ha.run pins s σ H _ I h) fun v s1 h1 => PyProof.Rows.args_nil ?_) na) na rfl
  obtain ⟨x, H1, I1, r1, l, xs, rfl, hq, small, q1⟩ := h1
  cases r1
  have go : InitsBy X.prog X.w X.A.in1.in1 s1 (.ref l) xs := by
    have hh : X.A.in1.in1.handled = none := by simp [I1.ok.hd hc]
    rcases hq with hq | hq
    · obtain ⟨its, r, pl, hz⟩ := I1.list hq
      have e : its.toArray.size = xs.length := by rw [List.size_toArray, ← r.length, List.length_map]
      exact inits_list hh pl.isList (by simpa using strsAre_of r) (by rw [e]; unfold scanBound; omega)
    · obtain ⟨its, r, pl, hz⟩ := I1.tuple hq
      have e : its.toArray.size = xs.length := by rw [List.size_toArray, ← r.length, List.length_map]
      exact inits_tuple hh pl (by simpa using strsAre_of r) (by rw [e]; unfold scanBound; omega)
  refine set_of go fun h' tk has keep => PyProof.Rows.args_nil ?_
  have le := cnt_le xs
  obtain ⟨o, es, ep, t, ho, hex, hd, _, _, _, hf, hn⟩ := has
  have I2 : Inv X pins σ H1 { s1 with heap := h', toks := tk } := I1.kept keep
  exact call_len_set ho hex hd hf (by rw [hn]; omega) ⟨.int (cnt xs : Nat), H1, I2.tok _, ⟨_, by rw [hn]⟩, q1⟩
end TW
set_option Elab.async false
set_option linter.all false
set_option maxRecDepth 100000
namespace TW
open PySem PySem.Spec PyProof.Rows L2 TL
/-! ### kinds of values -/
def kd7 : List String := ["NoneType", "bool", "int", "str", "list", "tuple", "dict"]
theorem tyx_same {K : PySem.W.Frag} {H H' : Hp} {x : V} {t : Value} (s : Same H H') (h : TyX K H x t) : TyX K H' x t := by
  cases h with
  | base b =>
    refine .base ?_
    cases b with
    | non => exact .non
    | bl x => exact .bl x
    | int i => exact .int i
    | str z => exact .str z
    | flt z => exact .flt z
    | lst e => exact .lst (s _ _ e)
    | frz e => exact .frz (s _ _ e)
    | tup e => exact .tup (s _ _ e)
    | dK e => exact .dK (s _ _ e)
    | dT e => exact .dT (s _ _ e)
    | ins e cl ha hn ht hm => exact .ins (s _ _ e) cl ha hn ht hm
  | byt b => exact .byt b
  | set e => exact .set (s _ _ e)
  | kList e c => exact .kList e c
  | kTuple e c => exact .kTuple e c
  | kDict e c => exact .kDict e c
  | fTuple e => exact .fTuple (s _ _ e)
  | fDict e => exact .fDict (s _ _ e)
/-- of one of the seven kinds; texts are short -/
structure Kd (K : PySem.W.Frag) (H : Hp) (x : V) (T : String) : Prop where
  m : T ∈ kd7
  t : TyX K H x (.type T)
  z : ∀ z, x = .str z → z.length ≤ 1000000
theorem Kd.same {K : PySem.W.Frag} {H H' : Hp} {x : V} {T : String} (s : Same H H') (h : Kd K H x T) : Kd K H' x T := ⟨h.m, tyx_same s h.t, h.z⟩
theorem ty_inv {K : PySem.W.Frag} {H : Hp} {x : V} {t : Value} (h : TyX K H x t) : (t = .type "int" ↔ ∃ i, x = .int i) ∧ (t = .type "str" ↔ ∃ i, x = .str i) ∧ (t = .type "NoneType" ↔ x = .non) := by
  have no : ∀ {a b : String} {p : Prop}, a ≠ b → Value.type a = Value.type b → p := fun ne e => by injection e with e; exact absurd e ne
  have no2 : ∀ {a : Addr} {b : String} {p : Prop}, Value.ref a = Value.type b → p := fun e => nomatch e
  cases h with
  | base b =>
    cases b with
    | non => exact ⟨⟨no (by decide), fun ⟨_, e⟩ => nomatch e⟩, ⟨no (by decide), fun ⟨_, e⟩ => nomatch e⟩, ⟨fun _ => rfl, fun _ => rfl⟩⟩
    | bl x => exact ⟨⟨no (by decide), fun ⟨_, e⟩ => nomatch e⟩, ⟨no (by decide), fun ⟨_, e⟩ => nomatch e⟩, ⟨no (by decide), fun e => nomatch e⟩⟩
    | int i => exact ⟨⟨fun _ => ⟨_, rfl⟩, fun _ => rfl⟩, ⟨no (by decide), fun ⟨_, e⟩ => nomatch e⟩, ⟨no (by decide), fun e => nomatch e⟩⟩
    | str z => exact ⟨⟨no (by decide), fun ⟨_, e⟩ => nomatch e⟩, ⟨fun _ => ⟨_, rfl⟩, fun _ => rfl⟩, ⟨no (by decide), fun e => nomatch e⟩⟩
    | flt z => exact ⟨⟨no (by decide), fun ⟨_, e⟩ => nomatch e⟩, ⟨no (by decide), fun ⟨_, e⟩ => nomatch e⟩, ⟨no (by decide), fun e => nomatch e⟩⟩
    | lst e => exact ⟨⟨no (by decide), fun ⟨_, e⟩ => nomatch e⟩, ⟨no (by decide), fun ⟨_, e⟩ => nomatch e⟩, ⟨no (by decide), fun e => nomatch e⟩⟩
    | frz e => exact ⟨⟨no (by decide), fun ⟨_, e⟩ => nomatch e⟩, ⟨no (by decide), fun ⟨_, e⟩ => nomatch e⟩, ⟨no (by decide), fun e => nomatch e⟩⟩
    | tup e => exact ⟨⟨no (by decide), fun ⟨_, e⟩ => nomatch e⟩, ⟨no (by decide), fun ⟨_, e⟩ => nomatch e⟩, ⟨no (by decide), fun e => nomatch e⟩⟩
    | dK e => exact ⟨⟨no (by decide), fun ⟨_, e⟩ => nomatch e⟩, ⟨no (by decide), fun ⟨_, e⟩ => nomatch e⟩, ⟨no (by decide), fun e => nomatch e⟩⟩
    | dT e => exact ⟨⟨no (by decide), fun ⟨_, e⟩ => nomatch e⟩, ⟨no (by decide), fun ⟨_, e⟩ => nomatch e⟩, ⟨no (by decide), fun e => nomatch e⟩⟩
    | ins e cl ha hn ht hm => exact ⟨⟨no2, fun ⟨_, e⟩ => nomatch e⟩, ⟨no2, fun ⟨_, e⟩ => nomatch e⟩, ⟨no2, fun e => nomatch e⟩⟩
  | byt b => exact ⟨⟨no (by decide), fun ⟨_, e⟩ => nomatch e⟩, ⟨no (by decide), fun ⟨_, e⟩ => nomatch e⟩, ⟨no (by decide), fun e => nomatch e⟩⟩
  | set e => exact ⟨⟨no (by decide), fun ⟨_, e⟩ => nomatch e⟩, ⟨no (by decide), fun ⟨_, e⟩ => nomatch e⟩, ⟨no (by decide), fun e => nomatch e⟩⟩
  | kList e c => exact ⟨⟨no (by decide), fun ⟨_, e⟩ => nomatch e⟩, ⟨no (by decide), fun ⟨_, e⟩ => nomatch e⟩, ⟨no (by decide), fun e => nomatch e⟩⟩
  | kTuple e c => exact ⟨⟨no (by decide), fun ⟨_, e⟩ => nomatch e⟩, ⟨no (by decide), fun ⟨_, e⟩ => nomatch e⟩, ⟨no (by decide), fun e => nomatch e⟩⟩
  | kDict e c => exact ⟨⟨no (by decide), fun ⟨_, e⟩ => nomatch e⟩, ⟨no (by decide), fun ⟨_, e⟩ => nomatch e⟩, ⟨no (by decide), fun e => nomatch e⟩⟩
  | fTuple e => exact ⟨⟨no (by decide), fun ⟨_, e⟩ => nomatch e⟩, ⟨no (by decide), fun ⟨_, e⟩ => nomatch e⟩, ⟨no (by decide), fun e => nomatch e⟩⟩
  | fDict e => exact ⟨⟨no (by decide), fun ⟨_, e⟩ => nomatch e⟩, ⟨no (by decide), fun ⟨_, e⟩ => nomatch e⟩, ⟨no (by decide), fun e => nomatch e⟩⟩
theorem ty_int {K : PySem.W.Frag} {H : Hp} {x : V} {T : String} (h : TyX K H x (.type T)) : T = "int" ↔ ∃ i, x = .int i :=
  ⟨fun e => (ty_inv h).1.mp (by rw [e]), fun e => by have := (ty_inv h).1.mpr e; injection this⟩
theorem ty_str {K : PySem.W.Frag} {H : Hp} {x : V} {T : String} (h : TyX K H x (.type T)) : T = "str" ↔ ∃ i, x = .str i :=
  ⟨fun e => (ty_inv h).2.1.mp (by rw [e]), fun e => by have := (ty_inv h).2.1.mpr e; injection this⟩
theorem ty_non {K : PySem.W.Frag} {H : Hp} {x : V} {T : String} (h : TyX K H x (.type T)) : T = "NoneType" ↔ x = .non :=
  ⟨fun e => (ty_inv h).2.2.mp (by rw [e]), fun e => by have := (ty_inv h).2.2.mpr e; injection this⟩
theorem all7 {p : String → Bool} (h : kd7.all p = true) {T : String} (m : T ∈ kd7) : p T = true := List.all_eq_true.mp h T m
theorem kit7_int {K : PySem.W.Frag} {T : String} (m : T ∈ kd7) : PySem.W.kitOne K (.type T) (.type "int") = some (T == "int" || T == "bool") :=
  kit_ty (eq_of_beq (all7 (p := fun T => kitB T "int" == some (T == "int" || T == "bool")) (by decide +kernel) m))
theorem kit7_bool {K : PySem.W.Frag} {T : String} (m : T ∈ kd7) : PySem.W.kitOne K (.type T) (.type "bool") = some (T == "bool") :=
  kit_ty (eq_of_beq (all7 (p := fun T => kitB T "bool" == some (T == "bool")) (by decide +kernel) m))
theorem kit7_str {K : PySem.W.Frag} {T : String} (m : T ∈ kd7) : PySem.W.kitOne K (.type T) (.type "str") = some (T == "str") :=
  kit_ty (eq_of_beq (all7 (p := fun T => kitB T "str" == some (T == "str")) (by decide +kernel) m))
theorem kit7_list {K : PySem.W.Frag} {T : String} (m : T ∈ kd7) : PySem.W.kitOne K (.type T) (.type "list") = some (T == "list") :=
  kit_ty (eq_of_beq (all7 (p := fun T => kitB T "list" == some (T == "list")) (by decide +kernel) m))
theorem kit7_tuple {K : PySem.W.Frag} {T : String} (m : T ∈ kd7) : PySem.W.kitOne K (.type T) (.type "tuple") = some (T == "tuple") :=
  kit_ty (eq_of_beq (all7 (p := fun T => kitB T "tuple" == some (T == "tuple")) (by decide +kernel) m))
theorem kit7_dict {K : PySem.W.Frag} {T : String} (m : T ∈ kd7) : PySem.W.kitOne K (.type T) (.type "dict") = some (T == "dict") :=
  kit_ty (eq_of_beq (all7 (p := fun T => kitB T "dict" == some (T == "dict")) (by decide +kernel) m))
theorem kit7_seq {K : PySem.W.Frag} {T : String} (m : T ∈ kd7) : PySem.W.kitAny K (.type T) [.type "list", .type "tuple"] = some (T == "list" || T == "tuple") := by
  unfold PySem.W.kitAny
  rw [kit7_list m]
  by_cases h : T = "list"
  · subst h; rfl
  · have h' : (T == "list") = false := by simpa using h
    rw [h']
    show PySem.W.kitAny K (.type T) [.type "tuple"] = _
    unfold PySem.W.kitAny
    rw [kit7_tuple m]
    by_cases h2 : T = "tuple"
    · subst h2; rfl
    · have h2' : (T == "tuple") = false := by simpa using h2
      rw [h2']
      rfl
/-! ### the mirrors -/
def btw (x : V) (lo hi : Int) : Bool := match x with
  | .int i => decide (lo ≤ i) && decide (i ≤ hi)
  | _ => false
instance (z : Str) : Decidable (IsW z) := by unfold IsW; infer_instance
def isWb (x : V) : Bool := match x with
  | .str z => decide (IsW z)
  | _ => false
/-! ### a comprehension over a text -/
theorem lc_str {x : Str} {g : TG} {tt : TT} {te : TE} {vs : List Nat} {σ : St'} {H1 : Hp} {D : Addr} {Qd : Hp → Prop} (Pv : Nat → Hp → Prop) (h0 : Pv 0 (upd H1 D (.lst [])))
    (hs : ∀ i c H, x.cps[i]? = some c → Pv i H → g (.str ⟨#[c]⟩) (wipe σ vs) H fun σ2 H2 => wipe σ2 vs = wipe σ vs ∧ tt σ2 H2 fun b H3 =>
      if b = true then te σ2 H3 fun y H4 => ∃ acc, H4 D = some (.lst acc) ∧ acc.length < sizeLine ∧ Pv (i + 1) (upd H4 D (.lst (acc ++ [y]))) else Pv (i + 1) H3) (hd : ∀ H, Pv x.cps.size H → Qd H) :
    ∃ W : Nat → Nat → Hp → Prop, (∃ m, W 0 m (upd H1 D (.lst []))) ∧ ∀ i m H, W i m H →
      ((Its x).stop i H ∧ Qd H) ∨ ((Its x).go i H ∧ ∃ Nx : Hp → Prop, (∀ H', Nx H' → ∃ m', m' < m ∧ W (i + 1) m' H') ∧ ∀ y H', (Its x).yld i H y H' → g y (wipe σ vs) H' fun σ2 H2 => wipe σ2 vs = wipe σ vs ∧ tt σ2 H2 fun b H3 =>
        if b = true then te σ2 H3 fun y H4 => ∃ acc, H4 D = some (.lst acc) ∧ acc.length < sizeLine ∧ Nx (upd H4 D (.lst (acc ++ [y]))) else Nx H3) := by
  refine ⟨fun i m H => m = x.cps.size - i ∧ i ≤ x.cps.size ∧ Pv i H, ⟨x.cps.size, by simp, Nat.zero_le _, h0⟩, ?_⟩
  rintro i m H ⟨rfl, hi, p⟩
  by_cases hlt : i < x.cps.size
  · refine .inr ⟨hlt, Pv (i + 1), fun H' p' => ⟨x.cps.size - (i + 1), by omega, rfl, hlt, p'⟩, fun y H' hy => ?_⟩
    obtain ⟨e, c, hc, rfl⟩ := hy
    subst e
    exact hs i c _ hc p
  · have e : i = x.cps.size := by omega
    subst e
    exact .inl ⟨Nat.le_refl _, hd H p⟩
theorem one_lt (a b : Nat) : ([a] : List Nat) < [b] ↔ a < b := by
  rw [List.cons_lt_cons_iff]
  constructor
  · rintro (h | ⟨_, h⟩)
    · exact h
    · exact absurd h (by simp)
  · exact .inl
theorem sign_a : (Str.ofString "a").cps.toList = [97] := by decide +kernel
theorem sign_z : (Str.ofString "z").cps.toList = [122] := by decide +kernel
theorem le_a {c : Nat} {b : Bool} (g : (!decide (([c] : List Nat) < (Str.ofString "a").cps.toList)) = b) : b = decide (97 ≤ c) := by
  rw [sign_a] at g
  rw [← g]
  by_cases h : c < 97
  · rw [decide_eq_true ((one_lt c 97).mpr h), decide_eq_false (by omega)]; rfl
  · rw [decide_eq_false (fun z => h ((one_lt c 97).mp z)), decide_eq_true (by omega)]; rfl
theorem le_z (c : Nat) : (!decide ((Str.ofString "z").cps.toList < ([c] : List Nat))) = decide (c ≤ 122) := by
  rw [sign_z]
  by_cases h : 122 < c
  · rw [decide_eq_true ((one_lt 122 c).mpr h), decide_eq_false (by omega)]; rfl
  · rw [decide_eq_false (fun z => h ((one_lt 122 c).mp z)), decide_eq_true (by omega)]; rfl
theorem take_next' {α : Type} {ws : List α} {i : Nat} {z : α} (hz : ws[i]? = some z) : ws.take (i + 1) = ws.take i ++ [z] := by
  rw [List.take_add_one, hz]; rfl
/-! ### a word, by its kinds of signs -/
set_option maxRecDepth 100000 in
theorem sign_kinds : ∀ c : Fin 128, ((Unicode.isAlpha c.val && !(Unicode.isUpper c.val || Unicode.isTitle c.val)) = (decide (97 ≤ c.val ∧ c.val ≤ 122))) ∧ ((decide (97 ≤ c.val ∧ c.val ≤ 122)) = true → Unicode.isLower c.val = true) := by decide +kernel
theorem word_kinds {z : Str} (h : 0 < z.length) : (Txt.isascii z && (Txt.isalpha z && Txt.islower z)) = decide (∀ c ∈ z.cps.toList, 97 ≤ c ∧ c ≤ 122) := by
  have hl : z.cps.toList.length = z.length := Array.length_toList ..
  unfold Txt.isascii Txt.isalpha Txt.islower
  rw [decide_eq_true (show z.length > 0 from h), Bool.true_and]
  rw [← Array.all_toList, ← Array.all_toList, ← Array.any_toList, ← Array.any_toList]
  by_cases w : ∀ c ∈ z.cps.toList, 97 ≤ c ∧ c ≤ 122
  · rw [decide_eq_true w]
    have k : ∀ c ∈ z.cps.toList, c < 128 ∧ Unicode.isAlpha c = true ∧ (Unicode.isUpper c || Unicode.isTitle c) = false ∧ Unicode.isLower c = true := fun c hc => by
      have b := w c hc
      have s := sign_kinds ⟨c, by omega⟩
      have s1 := s.1
      rw [decide_eq_true b] at s1
      have s2 := s.2 (decide_eq_true b)
      have s3 := Bool.and_eq_true_iff.mp s1
      exact ⟨by omega, s3.1, by simpa using s3.2, s2⟩
    have a1 : (z.cps.toList.all fun x => decide (x < 128)) = true := List.all_eq_true.mpr fun c hc => decide_eq_true (k c hc).1
    have a2 : z.cps.toList.all Unicode.isAlpha = true := List.all_eq_true.mpr fun c hc => (k c hc).2.1
    have a3 : (z.cps.toList.any fun c => Unicode.isUpper c || Unicode.isTitle c) = false := List.any_eq_false.mpr fun c hc => by rw [(k c hc).2.2.1]; simp
    have a4 : z.cps.toList.any Unicode.isLower = true := by
      obtain ⟨c, r, e⟩ : ∃ c r, z.cps.toList = c :: r := by
        cases e : z.cps.toList with
        | nil => rw [e] at hl; simp at hl; omega
        | cons c r => exact ⟨c, r, rfl⟩
      exact List.any_eq_true.mpr ⟨c, by rw [e]; exact List.mem_cons_self .., (k c (by rw [e]; exact List.mem_cons_self ..)).2.2.2⟩
    rw [a1, a2, a3, a4]; rfl
  · rw [decide_eq_false w]
    refine Bool.eq_false_iff.mpr fun e => w fun c hc => ?_
    have e1 := Bool.and_eq_true_iff.mp e
    have e2 := Bool.and_eq_true_iff.mp e1.2
    have e3 := Bool.and_eq_true_iff.mp e2.2
    have l := of_decide_eq_true (List.all_eq_true.mp e1.1 c hc)
    have s := (sign_kinds ⟨c, l⟩).1
    have al := List.all_eq_true.mp e2.1 c hc
    have up : (Unicode.isUpper c || Unicode.isTitle c) = false := by
      have := List.any_eq_false.mp (by simpa using e3.2 : (z.cps.toList.any fun c => Unicode.isUpper c || Unicode.isTitle c) = false) c hc
      simpa using this
    show 97 ≤ c ∧ c ≤ 122
    rw [show Unicode.isAlpha (⟨c, l⟩ : Fin 128).val = true from al, show (Unicode.isUpper (⟨c, l⟩ : Fin 128).val || Unicode.isTitle (⟨c, l⟩ : Fin 128).val) = false from up] at s
    exact of_decide_eq_true s.symm
/-! ### the promises -/
def spIsInt (K : PySem.W.Frag) : Sp := fun vs H Q _ => ∃ x T, vs = [x] ∧ Kd K H x T ∧ Q (.bl (T == "int")) H
def spBtw (K : PySem.W.Frag) : Sp := fun vs H Q _ => ∃ x T lo hi, vs = [x, .int lo, .int hi] ∧ Kd K H x T ∧ Q (.bl (btw x lo hi)) H
def spIsW (K : PySem.W.Frag) : Sp := fun vs H Q _ => ∃ x T, vs = [x] ∧ Kd K H x T ∧ ∀ H', Same H H' → Q (.bl (isWb x)) H'
abbrev S_is_integer : Stmt := topS 13
abbrev N_is_integer : List Str := ["value"]
abbrev P_is_integer : List Str := ["value"]
theorem sc_is_integer : FnScope N_is_integer P_is_integer (defScope S_is_integer) := ⟨rfl, rfl, rfl, by decide +kernel, rfl, by decide +kernel, by decide +kernel⟩
abbrev S_is_between : Stmt := topS 14
abbrev N_is_between : List Str := ["value", "least", "most"]
abbrev P_is_between : List Str := ["value", "least", "most"]
theorem sc_is_between : FnScope N_is_between P_is_between (defScope S_is_between) := ⟨rfl, rfl, rfl, by decide +kernel, rfl, by decide +kernel, by decide +kernel⟩
abbrev S_is_word : Stmt := topS 15
abbrev N_is_word : List Str := ["value"]
abbrev P_is_word : List Str := ["value"]
theorem sc_is_word : FnScope N_is_word P_is_word (defScope S_is_word) := ⟨rfl, rfl, rfl, by decide +kernel, rfl, by decide +kernel, by decide +kernel⟩
section
variable {P : Program} {w : World} {K : PySem.W.Frag} {mg : Str → Option Value} {base : Heap}
set_option maxHeartbeats 4000000 in
theorem ok_is_integer {f : Addr} {fd : FuncData} (F : Fun K "is_integer" "is_integer" S_is_integer f fd) (B : Bl mg) : FnOk P w K mg base CX0 1 f fd P_is_integer (spIsInt K) := by
  refine F.ok sc_is_integer (fun vs H Q E h => ?_) (fun cdv A outer s H vs Q E hr h => ?_)
  · obtain ⟨x, T, rfl, _⟩ := h
    rfl
  · obtain ⟨x, T, rfl, hk, k⟩ := h
    refine ⟨_, (pss_one (ps_ret (pe_and (pe_callB call_isi (by rfl) B.m_isinstance (by decide +kernel) (pa_cons (pv 0) (pa_cons (pe_bltn (v := .ty "int") (by rfl) B.m_int (by decide +kernel) rfl) pa_nil))) (pe_one (pe_not (pe_callB call_isi (by rfl) B.m_isinstance (by decide +kernel) (pa_cons (pv 0) (pa_cons (pe_bltn (v := .ty "bool") (by rfl) B.m_bool (by decide +kernel) rfl) pa_nil)))))))), ?_⟩
    refine ⟨_, rfl, _, _, _, _, _, rfl, .ty "int", hk.t, kit7_int hk.m, _, rfl, ?_⟩
    refine ite_dec (fun hb => ?_) (fun hb => ?_)
    · refine ⟨_, rfl, _, _, _, _, _, rfl, .ty "bool", hk.t, kit7_bool hk.m, _, rfl, ?_⟩
      have e : (!(T == "bool")) = (T == "int") := by
        rcases Bool.or_eq_true_iff.mp hb with h | h
        · have := eq_of_beq h; subst this; rfl
        · have := eq_of_beq h; subst this; rfl
      rw [e]; exact k
    · have e : (T == "int") = false := (Bool.or_eq_false_iff.mp hb).1
      rw [← e]; exact k
set_option maxHeartbeats 4000000 in
theorem ok_is_between {f fI : Addr} {fd fdI : FuncData} (F : Fun K "is_between" "is_between" S_is_between f fd) (B : Bl mg) (d_is_integer : Df K mg "is_integer" S_is_integer fI fdI P_is_integer) (G_is_integer : FnOk P w K mg base CX0 1 fI fdI P_is_integer (spIsInt K)) : FnOk P w K mg base CX0 2 f fd P_is_between (spBtw K) := by
  refine F.ok sc_is_between (fun vs H Q E h => ?_) (fun cdv A outer s H vs Q E hr h => ?_)
  · obtain ⟨x, T, lo, hi, rfl, _⟩ := h
    rfl
  · obtain ⟨x, T, lo, hi, rfl, hk, k⟩ := h
    have hr_is_integer : Room 1 _ := hr.mono (Nat.le_refl 1)
    refine ⟨_, (pss_one (ps_ret (pe_and (pe_call G_is_integer hr_is_integer rfl d_is_integer.g d_is_integer.F.kp d_is_integer.b .nil pass0 (pa_cons (pv 0) pa_nil)) (pe_one (pe_chain op_le op_le (pv 1) (pv 0) (pv 2)))))), ?_⟩
    refine ⟨_, rfl, x, T, rfl, hk, _, rfl, ?_⟩
    refine ite_dec (fun hb => ?_) (fun hb => ?_)
    · obtain ⟨i, rfl⟩ := (ty_int hk.t).mp (eq_of_beq hb)
      refine ⟨_, rfl, _, rfl, _, _, rfl, rfl, _, rfl, ?_⟩
      refine ite_dec (fun h1 => ?_) (fun h1 => ?_)
      · refine ⟨_, rfl, _, _, rfl, rfl, ?_⟩
        have h1' : lo ≤ i := of_decide_eq_true h1
        have e : btw (.int i) lo hi = decide (i ≤ hi) := by simp [btw, h1']
        rw [e] at k; exact k
      · have h1' : ¬ lo ≤ i := of_decide_eq_false h1
        have e : btw (.int i) lo hi = false := by simp [btw, h1']
        rw [e] at k; exact k
    · have e : btw x lo hi = false := by
        cases x <;> try rfl
        have := (ty_int hk.t).mpr ⟨_, rfl⟩
        subst this
        cases hb
      rw [← e]; exact k
set_option maxHeartbeats 4000000 in
theorem ok_is_word {f : Addr} {fd : FuncData} {t : Tok} (F : Fun K "is_word" "is_word" S_is_word f fd) (B : Bl mg) (m_MOST_LETTERS : mg "MOST_LETTERS" = some (.int 8 t)) : FnOk P w K mg base CX0 1 f fd P_is_word (spIsW K) := by
  refine F.ok sc_is_word (fun vs H Q E h => ?_) (fun cdv A outer s H vs Q E hr h => ?_)
  · obtain ⟨x, T, rfl, _⟩ := h
    rfl
  · obtain ⟨x, T, rfl, hk, k⟩ := h
    refine ⟨_, (pss_cons (ps_if (PW.pt (pw_or (pt_not (pt_val (pe_callB call_isi (by rfl) B.m_isinstance (by decide +kernel) (pa_cons (pv 0) (pa_cons (pe_bltn (v := .ty "str") (by rfl) B.m_str (by decide +kernel) rfl) pa_nil))))) (pw_or1 (pt_not (pt_chain op_le op_le pe_int (pe_callB call_len_str (by rfl) B.m_len PySem.boot_len (pa_cons (pv 0) pa_nil)) (pe_glob (v := .int _) rfl m_MOST_LETTERS ⟨_, rfl⟩)))))) (pss_one (ps_ret pe_bl)) pss_nil)
 (pss_one (ps_ret (pe_and (pe_m0 PySem.F.slot_str_isascii PySem.F.type_str_isascii mt_isascii (pv 0)) (pe_and (pe_m0 PySem.F.slot_str_isalpha PySem.F.type_str_isalpha mt_isalpha (pv 0)) (pe_one (pe_m0 PySem.F.slot_str_islower PySem.F.type_str_islower mt_islower (pv 0)))))))), ?_⟩
    refine ⟨_, rfl, _, _, _, _, _, rfl, .ty "str", hk.t, kit7_str hk.m, _, rfl, ?_⟩
    refine ite_dec (fun hb => ?_) (fun hb => ?_)
    · have hb' : (T == "str") = false := by simpa using hb
      have e : isWb x = false := by
        cases x <;> try rfl
        have := (ty_str hk.t).mpr ⟨_, rfl⟩
        subst this
        cases hb'
      refine iteT ?_
      rw [← e]; exact k H (Same.refl H)
    · have hb' : (T == "str") = true := by simpa using hb
      obtain ⟨z, rfl⟩ := (ty_str hk.t).mp (eq_of_beq hb')
      have hz := hk.z z rfl
      have hzl : z.length ≤ sizeLine := Nat.le_trans hz (by decide)
      refine ⟨_, rfl, z, rfl, hzl, _, _, rfl, rfl, _, rfl, ?_⟩
      refine ite_dec (fun h1 => ?_) (fun h1 => ?_)
      · have h1' : (1 : Int) ≤ (z.length : Int) := of_decide_eq_true h1
        refine ⟨_, _, rfl, rfl, _, rfl, ?_⟩
        refine ite_dec (fun h2 => ?_) (fun h2 => ?_)
        · have h2' : ¬ (z.length : Int) ≤ 8 := by simpa using h2
          have e : isWb (.str z) = false := decide_eq_false (fun w => by have := w.2.1; omega)
          rw [← e]; exact k H (Same.refl H)
        · have h2' : (z.length : Int) ≤ 8 := by simpa using h2
          have hl0 : 0 < z.length := by have : (1 : Int) ≤ (z.length : Int) := h1'; omega
          have all : isWb (.str z) = (Txt.isascii z && (Txt.isalpha z && Txt.islower z)) := by
            rw [word_kinds hl0]
            show decide (IsW z) = _
            by_cases wz : ∀ c ∈ z.cps.toList, 97 ≤ c ∧ c ≤ 122
            · rw [decide_eq_true (show IsW z from ⟨by omega, by omega, wz⟩), decide_eq_true wz]
            · rw [decide_eq_false (fun z' : IsW z => wz z'.2.2), decide_eq_false wz]
          refine ⟨_, rfl, ⟨_, rfl⟩, z, rfl, rfl, trivial, _, rfl, ?_⟩
          refine ite_dec (fun g1 => ?_) (fun g1 => ?_)
          · refine ⟨_, rfl, ⟨_, rfl⟩, z, rfl, rfl, trivial, _, rfl, ?_⟩
            refine ite_dec (fun g2 => ?_) (fun g2 => ?_)
            · refine ⟨_, rfl, ⟨_, rfl⟩, z, rfl, rfl, trivial, ?_⟩
              have e : isWb (.str z) = Txt.islower z := by rw [all, g1, g2]; rfl
              rw [← e]; exact k H (Same.refl H)
            · have e : isWb (.str z) = false := by rw [all, g1, g2]; rfl
              rw [← e]; exact k H (Same.refl H)
          · have e : isWb (.str z) = false := by rw [all, g1]; rfl
            rw [← e]; exact k H (Same.refl H)
      · have h1' : ¬ (1 : Int) ≤ (z.length : Int) := of_decide_eq_false h1
        have e : isWb (.str z) = false := decide_eq_false (fun w => by have := w.1; omega)
        refine ⟨_, rfl, ?_⟩
        refine iteT ?_
        rw [← e]; exact k H (Same.refl H)
end
end TW
set_option Elab.async false
set_option linter.all false
set_option maxRecDepth 100000
namespace TW
open PySem PySem.Spec PyProof.Rows L2 TL
/-- what a field or a name holds -/
def hv : Option Nat → V
  | none => .non
  | some i => .int (i : Int)
theorem hv_some {m : Int} (h : 0 ≤ m) : hv (some m.toNat) = .int m := by
  show V.int ((m.toNat : Nat) : Int) = _
  rw [Int.toNat_of_nonneg h]
/-- a dict from words to such -/
def dk (l : List (Str × Option Nat)) : List (Key × V) := l.map fun p => ((Sum.inr p.1 : Key), hv p.2)
theorem dk_len (l : List (Str × Option Nat)) : (dk l).length = l.length := List.length_map ..
theorem dk_valV (k : Str) : ∀ l : List (Str × Option Nat), valV (dk l) (Sum.inr k : Key) = (l.lookup k).map hv
  | [] => rfl
  | (f, v) :: l => by
    have ih := dk_valV k l
    by_cases h : f = k
    · subst h
      rw [show dk ((f, v) :: l) = ((Sum.inr f : Key), hv v) :: dk l from rfl, valV_pos rfl, List.lookup_cons, beq_self_eq_true]
      rfl
    · have h2 : (k == f) = false := by simpa [beq_iff_eq] using fun e : k = f => h e.symm
      rw [show dk ((f, v) :: l) = ((Sum.inr f : Key), hv v) :: dk l from rfl, valV_neg (fun e => h (Sum.inr.inj e)), List.lookup_cons, h2, ih]
theorem lookup_none {k : Str} : ∀ {l : List (Str × Option Nat)}, k ∉ l.map (·.1) → l.lookup k = none
  | [], _ => rfl
  | (f, v) :: l, h => by
    have h2 : (k == f) = false := by simpa [beq_iff_eq] using fun e : k = f => h (e ▸ List.mem_cons_self ..)
    rw [List.lookup_cons, h2]
    exact lookup_none fun z => h (List.mem_cons_of_mem _ z)
theorem dk_put {l : List (Str × Option Nat)} {k : Str} {v : Option Nat} (h : k ∉ l.map (·.1)) : putK (dk l) (Sum.inr k : Key) (hv v) = dk (l ++ [(k, v)]) := by
  rw [putK_new _ (by rw [dk_valV, lookup_none h]; rfl)]
  unfold dk
  rw [List.map_append]
  rfl
theorem dk_map_put {k : Str} {v : Option Nat} : ∀ {l : List (Str × Option Nat)}, k ∉ l.map (·.1) → (dk l).map (fun kv => if kv.1 = (Sum.inr k : Key) then (kv.1, hv v) else kv) = dk l
  | [], _ => rfl
  | (f, x) :: l, h => by
    have hf : f ≠ k := fun e => h (by rw [← e]; exact List.mem_cons_self ..)
    have ih := dk_map_put (v := v) (l := l) (fun z => h (List.mem_cons_of_mem _ z))
    show (if (Sum.inr f : Key) = Sum.inr k then _ else _) :: (dk l).map _ = ((Sum.inr f : Key), hv x) :: dk l
    rw [if_neg (fun e => hf (Sum.inr.inj e)), ih]
theorem dk_again {l : List (Str × Option Nat)} {k : Str} {u v : Option Nat} (h : k ∉ l.map (·.1)) : putK (dk (l ++ [(k, u)])) (Sum.inr k : Key) (hv v) = dk (l ++ [(k, v)]) := by
  unfold putK
  rw [if_pos]
  · show (dk (l ++ [(k, u)])).map _ = _
    unfold dk
    rw [List.map_append, List.map_append, List.map_append]
    have := dk_map_put (v := v) h
    unfold dk at this
    rw [this]
    simp
  · rw [valV_any, dk_valV]
    have : (l ++ [(k, u)]).lookup k = some u := by
      rw [List.lookup_append, lookup_none h]
      simp
    rw [this]
    rfl
/-- values in bounds -/
def okv (n : Nat) : Option Nat → Prop
  | none => True
  | some i => i < n
def okl (n : Nat) (l : List (Str × Option Nat)) : Prop := ∀ p ∈ l, okv n p.2
abbrev Ob := List (Str × Option Nat)
/-- the objects of the law: a list at q of dicts at ds -/
structure ObjsAt (H : Hp) (q : Addr) (ds : List Addr) (fs : List Str) (n : Nat) (os : List Ob) : Prop where
  ls : H q = some (.lst (ds.map V.ref))
  len : ds.length = os.length
  nd : ds.Nodup
  at' : ∀ (i : Nat) (d : Addr) (o : Ob), ds[i]? = some d → os[i]? = some o → H d = some (.dK (dk o))
  ks : ∀ o ∈ os, (o.map (·.1)).Perm fs
  ok : ∀ o ∈ os, okl n o
/-- not the pool's -/
def Off (p c : Addr) (l : List Addr) : Prop := ∀ a ∈ l, a ≠ p ∧ a ≠ c
theorem ObjsAt.fr {p c q : Addr} {H H' : Hp} {ds : List Addr} {fs : List Str} {n : Nat} {os : List Ob} (O : ObjsAt H q ds fs n os) (hq : q ≠ p ∧ q ≠ c) (hd : Off p c ds) (f : Fr p c H H') : ObjsAt H' q ds fs n os :=
  ⟨f _ _ hq.1 hq.2 O.ls, O.len, O.nd, fun i d o h1 h2 => let z := hd d (List.mem_of_getElem? h1); f _ _ z.1 z.2 (O.at' i d o h1 h2), O.ks, O.ok⟩
theorem ObjsAt.same {q : Addr} {H H' : Hp} {ds : List Addr} {fs : List Str} {n : Nat} {os : List Ob} (O : ObjsAt H q ds fs n os) (f : Same H H') : ObjsAt H' q ds fs n os :=
  ⟨f _ _ O.ls, O.len, O.nd, fun i d o h1 h2 => f _ _ (O.at' i d o h1 h2), O.ks, O.ok⟩
def spValue : Sp := fun vs H Q _ => ∃ (p c : Addr) (n : Nat), vs = [.ref p, .int (n : Int)] ∧ Pool p c H ∧ n ≤ 1000 ∧
  ∀ (v : Option Nat) (H' : Hp), okv n v → Pool p c H' → Fr p c H H' → Q (hv v) H'
def spObjects : Sp := fun vs H Q _ => ∃ (p c a : Addr) (fs : List Str) (n : Nat), vs = [.ref p, .ref a, .int (n : Int)] ∧ Pool p c H ∧ (a ≠ p ∧ a ≠ c) ∧ H a = some (.lst (fs.map V.str)) ∧ fs.Nodup ∧ fs.length ≤ 20 ∧ n ≤ 1000 ∧
  ∀ (q : Addr) (ds : List Addr) (os : List Ob) (H' : Hp), H q = none → (∀ d ∈ ds, H d = none ∧ d ≠ q) → os.length = n → ObjsAt H' q ds fs n os → Pool p c H' → Fr p c H H' → Q (.ref q) H'
def spNames : Sp := fun vs H Q _ => ∃ (p c a : Addr) (ws : List Str) (n : Nat), vs = [.ref p, .ref a, .int (n : Int)] ∧ Pool p c H ∧ (a ≠ p ∧ a ≠ c) ∧ H a = some (.lst (ws.map V.str)) ∧ ws.Nodup ∧ ws.length ≤ 20 ∧ n ≤ 1000 ∧
  ∀ (q : Addr) (l : Ob) (H' : Hp), H q = none → H' q = some (.dK (dk l)) → l.map (·.1) = ws → okl n l → Pool p c H' → Fr p c H H' → Q (.ref q) H'
theorem Pool.upd2 {p c q : Addr} {H : Hp} (P : Pool p c H) (h : q ≠ p ∧ q ≠ c) (o : HO) : Pool p c (upd H q o) := by
  obtain ⟨xs, a2, m2, g1, g2, g3⟩ := P.ex
  exact ⟨P.ne, xs, a2, m2, by rw [upd_ne h.1.symm]; exact g1, by rw [upd_ne h.2.symm]; exact g2, g3⟩
theorem get_str {ws : List Str} {i : Nat} {x : V} (hx : (ws.map V.str)[i]? = some x) : ∃ z, ws[i]? = some z ∧ x = V.str z := by
  rw [List.getElem?_map] at hx
  cases e : ws[i]? with
  | none => rw [e] at hx; cases hx
  | some z => rw [e] at hx; exact ⟨z, rfl, (Option.some.inj hx).symm⟩
theorem nodup_fresh {ws : List Str} {i : Nat} {z : Str} (nd : ws.Nodup) (hz : ws[i]? = some z) : z ∉ ws.take i := fun hm => by
  obtain ⟨j, hj, e⟩ := List.mem_take_iff_getElem.mp hm
  have hj' : ws[j]? = some z := by rw [← e]; exact List.getElem?_eq_getElem _
  have hj2 := (List.getElem?_eq_some_iff.mp hj').1
  have := (List.getElem?_inj hj2 nd).mp (hj'.trans hz.symm)
  omega
theorem take_next {α : Type} {ws : List α} {i : Nat} {z : α} (hz : ws[i]? = some z) : ws.take (i + 1) = ws.take i ++ [z] := by
  rw [List.take_add_one, hz]; rfl
end TW
set_option Elab.async false
set_option linter.all false
set_option maxRecDepth 100000
namespace TW
open PySem PySem.Spec PyProof.Rows L2 TL
/-- a list or tuple of things of the seven kinds -/
structure SeqK (K : PySem.W.Frag) (H : Hp) (a : Addr) (xs : List V) : Prop where
  at' : SqL K H a xs ∨ SqT K H a xs
  z : xs.length ≤ 1000000
  ks : ∀ y ∈ xs, ∃ T, Kd K H y T
theorem sqt_same {K : PySem.W.Frag} {H H' : Hp} {a : Addr} {xs : List V} (e : Same H H') (h : SqT K H a xs) : SqT K H' a xs := by
  rcases h with (h | ⟨o, h⟩) | h
  · exact .inl (.inl (e _ _ h))
  · exact .inl (.inr ⟨o, e _ _ h⟩)
  · exact .inr h
theorem seq_same {K : PySem.W.Frag} {H H' : Hp} {a : Addr} {xs : List V} (e : Same H H') (h : SqL K H a xs ∨ SqT K H a xs) : SqL K H' a xs ∨ SqT K H' a xs := h.elim (fun h => .inl (e.seq h)) fun h => .inr (sqt_same e h)
theorem SeqK.same {K : PySem.W.Frag} {H H' : Hp} {a : Addr} {xs : List V} (e : Same H H') (S : SeqK K H a xs) : SeqK K H' a xs := ⟨seq_same e S.at', S.z, fun y hy => let ⟨T, h⟩ := S.ks y hy; ⟨T, h.same e⟩⟩
theorem same_new {H : Hp} {p : Addr} {o : HO} (h : H p = none) : Same H (upd H p o) := fun b x e => by
  rw [upd_ne (ne_of_none e h)]; exact e
/-- unlike words, so many -/
def AreW (xs : List V) (lo hi : Int) : Prop := ∃ ws : List Str, xs = ws.map V.str ∧ (∀ z ∈ ws, IsW z) ∧ ws.Nodup ∧ lo ≤ (ws.length : Int) ∧ (ws.length : Int) ≤ hi
theorem isWb_str {x : V} (h : isWb x = true) : ∃ z, x = .str z ∧ IsW z := by
  cases x <;> try (cases h; done)
  exact ⟨_, rfl, of_decide_eq_true h⟩
theorem all_strs : ∀ {xs : List V}, xs.all isWb = true → ∃ ws : List Str, xs = ws.map V.str ∧ ∀ z ∈ ws, IsW z
  | [], _ => ⟨[], rfl, fun z h => (nomatch h)⟩
  | x :: xs, h => by
    rw [List.all_cons, Bool.and_eq_true] at h
    obtain ⟨z, rfl, hz⟩ := isWb_str h.1
    obtain ⟨ws, rfl, hw⟩ := all_strs h.2
    exact ⟨z :: ws, rfl, fun y hy => by
      rcases List.mem_cons.mp hy with rfl | hy
      · exact hz
      · exact hw y hy⟩
theorem all_of_strs {ws : List Str} (h : ∀ z ∈ ws, IsW z) : (ws.map V.str).all isWb = true := List.all_eq_true.mpr fun x hx => by
  obtain ⟨z, hz, rfl⟩ := List.mem_map.mp hx
  exact decide_eq_true (h z hz)
theorem str_inj {l m : List Str} (h : l.map V.str = m.map V.str) : l = m := by
  induction l generalizing m with
  | nil => cases m with
    | nil => rfl
    | cons y m => cases h
  | cons x l ih => cases m with
    | nil => cases h
    | cons y m =>
      injection h with h1 h2
      injection h1 with h1
      rw [h1, ih h2]
def spAreW (K : PySem.W.Frag) : Sp := fun vs H Q _ => ∃ x T lo hi, vs = [x, .int lo, .int hi] ∧ Kd K H x T ∧ hi ≤ 1000 ∧
  ((T ≠ "list" ∧ T ≠ "tuple" ∧ ∀ H', Same H H' → Q (.bl false) H') ∨
    ((T = "list" ∨ T = "tuple") ∧ ∃ a xs, x = .ref a ∧ SeqK K H a xs ∧ ∀ b H', Same H H' → (b = true ↔ AreW xs lo hi) → Q (.bl b) H'))
def spAreF (K : PySem.W.Frag) : Sp := fun vs H Q _ => ∃ x T, vs = [x] ∧ Kd K H x T ∧
  ((T ≠ "list" ∧ T ≠ "tuple" ∧ ∀ H', Same H H' → Q (.bl false) H') ∨
    ((T = "list" ∨ T = "tuple") ∧ ∃ a xs, x = .ref a ∧ SeqK K H a xs ∧ ∀ b H', Same H H' → (b = true ↔ AreW xs 1 2) → Q (.bl b) H'))
abbrev S_are_words : Stmt := topS 17
abbrev N_are_words : List Str := ["value", "least", "most", "word"]
abbrev P_are_words : List Str := ["value", "least", "most"]
theorem sc_are_words : FnScope N_are_words P_are_words (defScope S_are_words) := ⟨rfl, rfl, rfl, by decide +kernel, rfl, by decide +kernel, by decide +kernel⟩
abbrev S_are_fields : Stmt := topS 18
abbrev N_are_fields : List Str := ["value"]
abbrev P_are_fields : List Str := ["value"]
theorem sc_are_fields : FnScope N_are_fields P_are_fields (defScope S_are_fields) := ⟨rfl, rfl, rfl, by decide +kernel, rfl, by decide +kernel, by decide +kernel⟩
abbrev S_is_one_of : Stmt := topS 16
abbrev N_is_one_of : List Str := ["value", "words"]
abbrev P_is_one_of : List Str := ["value", "words"]
theorem sc_is_one_of : FnScope N_is_one_of P_is_one_of (defScope S_is_one_of) := ⟨rfl, rfl, rfl, by decide +kernel, rfl, by decide +kernel, by decide +kernel⟩
/-- what is walked: a name's list or tuple -/
def iSeqv (K : PySem.W.Frag) (i : Nat) : TI := fun σ H R => ∃ a, σ[i]? = some (some (.ref a)) ∧ (((∃ xs, SqL K H a xs) ∧ R (Itl K a) H) ∨ ((∃ xs, SqT K H a xs) ∧ R (Itt K a) H))
theorem pi_seqv {X : Cx} {tg : Expr} (i : Nat) {x : Str} {pos : Pos} (hN : X.N[i]? = some x := by rfl) (hv : Vis X.env.scope x := by first | exact Or.inl rfl | exact Or.inr (Or.inl rfl) | exact Or.inr (Or.inr rfl)) (hd : (x == ("__debug__" : Str)) = false := by decide)
    (hcd : (x == ("__classdict__" : Str)) = false := by decide) : PI X tg (.Name x pos) (iSeqv X.K i) := by
  refine ⟨fun pins s σ H R I h => ?_⟩
  obtain ⟨a, e, h | h⟩ := h
  · exact (pi_list (tg := tg) (pe_var hN hv hd hcd)).run pins s σ H R I ⟨_, e, a, rfl, h⟩
  · exact (pi_tup (tg := tg) (pe_var hN hv hd hcd)).run pins s σ H R I ⟨_, e, a, rfl, h⟩
theorem seq_go {K : PySem.W.Frag} {H : Hp} {a : Addr} {xs : List V} {A C : Prop} (h : SqL K H a xs ∨ SqT K H a xs) (l : SqL K H a xs → A) (t : SqT K H a xs → C) :
    ((∃ xs, SqL K H a xs) ∧ A) ∨ ((∃ xs, SqT K H a xs) ∧ C) := h.elim (fun h => .inl ⟨⟨_, h⟩, l h⟩) fun h => .inr ⟨⟨_, h⟩, t h⟩
theorem lookup_none' {k : Str} : ∀ {l : List (Str × Option Nat)}, l.lookup k = none → k ∉ l.map (·.1)
  | [], _ => by simp
  | (f, v) :: l, h => by
    rw [List.lookup_cons] at h
    cases e : k == f with
    | true => rw [e] at h; cases h
    | false =>
      rw [e] at h
      have := lookup_none' h
      intro hm
      rcases List.mem_cons.mp hm with hm | hm
      · subst hm; simp at e
      · exact this hm
theorem kd_list {K : PySem.W.Frag} {H : Hp} {a : Addr} {T : String} (h : T = "list" ∨ T = "tuple") : (T == "list" || T == "tuple") = true := by
  rcases h with h | h <;> subst h <;> rfl
/-- a comprehension over a list or tuple -/
theorem for_either {K : PySem.W.Frag} {H : Hp} {a : Addr} {xs : List V} {α : Prop} (h : SqL K H a xs ∨ SqT K H a xs) (l : SqL K H a xs → α) (t : SqT K H a xs → α) : α := h.elim l t
section
variable {P : Program} {w : World} {K : PySem.W.Frag} {mg : Str → Option Value} {base : Heap}
set_option maxHeartbeats 8000000 in
theorem ok_are_words {f fW : Addr} {fd fdW : FuncData} (F : Fun K "are_words" "are_words" S_are_words f fd) (B : Bl mg) (d_is_word : Df K mg "is_word" S_is_word fW fdW P_is_word) (G_is_word : FnOk P w K mg base CX0 1 fW fdW P_is_word (spIsW K)) : FnOk P w K mg base CX0 2 f fd P_are_words (spAreW K) := by
  refine F.ok sc_are_words (fun vs H Q E h => ?_) (fun cdv A outer s H vs Q E hr h => ?_)
  · obtain ⟨x, T, lo, hi, rfl, _⟩ := h
    rfl
  · obtain ⟨x, T, lo, hi, rfl, hk, hh, k⟩ := h
    have hr_is_word : Room 1 _ := hr.mono (Nat.le_refl 1)
    rcases k with ⟨n1, n2, k⟩ | ⟨hT, a, xs, rfl, S, k⟩
    · refine ⟨_, (pss_cons (ps_if (PW.pt (pw_or (pt_not (pt_val (pe_callB call_isiT (by rfl) B.m_isinstance (by decide +kernel) (pa_cons (pv 0) (pa_cons (pe_tup (pa_cons (pe_bltn (v := .ty "list") (by rfl) B.m_list (by decide +kernel) rfl) (pa_cons (pe_bltn (v := .ty "tuple") (by rfl) B.m_tuple (by decide +kernel) rfl) pa_nil))) pa_nil))))) (pw_or1 (pt_not (pt_chain op_le op_le (pv 1) (pe_callB call_len_seq (by rfl) B.m_len PySem.boot_len (pa_cons (pv 0) pa_nil)) (pv 2)))))) (pss_one (ps_ret pe_bl)) pss_nil)
 (pss_one (ps_ret (pe_and (pe_callB (cr_all rfl) (by rfl) B.m_all (by decide +kernel) (pa_cons (pe_lc (own := [("word", 3)]) (g := gName 3) (tt := tYes) rfl sc_are_words.nd (pi_seqv 0) (blkOk_by (own := [("word", 3)]) (N := N_are_words) (sc := defScope S_are_words) (by decide +kernel)) (fun _ _ _ _ _ => (pg_name (i := 3) sc_are_words.nd rfl (by first | exact Or.inl rfl | exact Or.inr rfl))) (fun _ _ _ _ _ => pts_nil) (fun _ _ _ _ _ => (pe_call G_is_word hr_is_word rfl d_is_word.g d_is_word.F.kp d_is_word.b .nil pass0 (pa_cons (pv 3) pa_nil)))) pa_nil)) (pe_one (pe_cmpR op_eq (pe_lenSetN rfl (by rfl) B.m_len (by rfl) B.m_set (pv 0)) (pe_callB call_len_seq (by rfl) B.m_len PySem.boot_len (pa_cons (pv 0) pa_nil)) (nomark _))))))), ?_⟩
      refine ⟨_, rfl, (by show 2 ≤ sizeLine; decide), fun t ht => ⟨_, t, _, _, [.type "list", .type "tuple"], _, rfl, upd_same, .cons (.ty "list") (.cons (.ty "tuple") .nil), (hk.same (same_new ht)).t, kit7_seq hk.m, _, rfl, ?_⟩⟩
      have e : (T == "list" || T == "tuple") = false := by simp [n1, n2]
      rw [e]
      exact k _ (same_new ht)
    · refine ⟨_, (pss_cons (ps_if (PW.pt (pw_or (pt_not (pt_val (pe_callB call_isiT (by rfl) B.m_isinstance (by decide +kernel) (pa_cons (pv 0) (pa_cons (pe_tup (pa_cons (pe_bltn (v := .ty "list") (by rfl) B.m_list (by decide +kernel) rfl) (pa_cons (pe_bltn (v := .ty "tuple") (by rfl) B.m_tuple (by decide +kernel) rfl) pa_nil))) pa_nil))))) (pw_or1 (pt_not (pt_chain op_le op_le (pv 1) (pe_callB call_len_seq (by rfl) B.m_len PySem.boot_len (pa_cons (pv 0) pa_nil)) (pv 2)))))) (pss_one (ps_ret pe_bl)) pss_nil)
 (pss_one (ps_ret (pe_and (pe_callB (cr_all rfl) (by rfl) B.m_all (by decide +kernel) (pa_cons (pe_lc (own := [("word", 3)]) (g := gName 3) (tt := tYes) rfl sc_are_words.nd (pi_seqv 0) (blkOk_by (own := [("word", 3)]) (N := N_are_words) (sc := defScope S_are_words) (by decide +kernel)) (fun _ _ _ _ _ => (pg_name (i := 3) sc_are_words.nd rfl (by first | exact Or.inl rfl | exact Or.inr rfl))) (fun _ _ _ _ _ => pts_nil) (fun _ _ _ _ _ => (pe_call G_is_word hr_is_word rfl d_is_word.g d_is_word.F.kp d_is_word.b .nil pass0 (pa_cons (pv 3) pa_nil)))) pa_nil)) (pe_one (pe_cmpR op_eq (pe_lenSetN rfl (by rfl) B.m_len (by rfl) B.m_set (pv 0)) (pe_callB call_len_seq (by rfl) B.m_len PySem.boot_len (pa_cons (pv 0) pa_nil)) (nomark _))))))), ?_⟩
      refine ⟨_, rfl, (by show 2 ≤ sizeLine; decide), fun t ht => ⟨_, t, _, _, [.type "list", .type "tuple"], _, rfl, upd_same, .cons (.ty "list") (.cons (.ty "tuple") .nil), (hk.same (same_new ht)).t, kit7_seq hk.m, _, rfl, ?_⟩⟩
      have s1 := same_new (H := H) (o := HO.tup [V.ty "list", V.ty "tuple"]) ht
      have S1 := S.same s1
      have e : (T == "list" || T == "tuple") = true := kd_list (K := K) (H := H) (a := a) hT
      rw [e]
      refine iteF ?_
      refine ⟨_, rfl, _, rfl, a, xs, rfl, S1.at', _, _, rfl, rfl, _, rfl, ?_⟩
      have no : ∀ H', Same H H' → (¬ lo ≤ (xs.length : Int) ∨ ¬ (xs.length : Int) ≤ hi) → Q (.bl false) H' := fun H' s' n => k false H' s' ⟨fun z => (nomatch z), fun ⟨ws, e, _, _, h1, h2⟩ => by
        rw [e, List.length_map] at n
        rcases n with n | n
        · exact absurd h1 n
        · exact absurd h2 n⟩
      refine ite_dec (fun h1 => ?_) (fun h1 => ?_)
      · have h1' : lo ≤ (xs.length : Int) := of_decide_eq_true h1
        refine ⟨_, rfl, _, _, rfl, rfl, _, rfl, ?_⟩
        refine ite_dec (fun h2 => ?_) (fun h2 => ?_)
        · have h2' : ¬ (xs.length : Int) ≤ hi := by simpa using h2
          exact no _ s1 (.inr h2')
        · have h2' : (xs.length : Int) ≤ hi := by simpa using h2
          -- all([is_word(word) for word in value])
          refine ⟨a, rfl, seq_go S1.at' (fun hS => ?_) (fun hS => ?_)⟩
          all_goals
            intro D hD
            first
              | refine lc_list (xs := xs) (fun i H2 => Same (upd H t (.tup [V.ty "list", V.ty "tuple"])) H2 ∧ H2 D = some (.lst (((xs.take i).map isWb).map V.bl))) ?_ ?_ ?_ ?_
              | refine lc_tup (xs := xs) (fun i H2 => Same (upd H t (.tup [V.ty "list", V.ty "tuple"])) H2 ∧ H2 D = some (.lst (((xs.take i).map isWb).map V.bl))) ?_ ?_ ?_ ?_
            · exact ⟨same_new hD, upd_same⟩
            · rintro i H2 hi2 ⟨s2, h2D⟩
              first
                | exact s2.seq hS
                | exact sqt_same s2 hS
            · rintro i x H2 hx ⟨s2, h2D⟩
              refine ⟨rfl, yes_of ?_⟩
              obtain ⟨T2, hk2⟩ := S.ks x (List.mem_of_getElem? hx)
              refine ⟨_, rfl, x, T2, rfl, hk2.same (s1.trans s2), fun H3 s3 => ?_⟩
              refine ⟨_, s3 _ _ h2D, by rw [List.length_map, List.length_map, List.length_take]; exact Nat.lt_of_le_of_lt (Nat.le_trans (Nat.min_le_right _ _) S.z) (by decide), ?_⟩
              refine ⟨fun b o e => by rw [upd_ne (ne_of_none e hD)]; exact s3 _ _ (s2 _ _ e), ?_⟩
              rw [upd_same, take_next' hx, List.map_append, List.map_append]
              rfl
            · rintro H2 ⟨s2, h2D⟩
              rw [List.take_length] at h2D
              refine ⟨D, _, rfl, SqL.of h2D, _, rfl, ?_⟩
              refine ite_dec (fun hb => ?_) (fun hb => ?_)
              · rw [List.all_map] at hb
                obtain ⟨ws, rfl, hw⟩ := all_strs (xs := xs) hb
                have S2 := S1.same s2
                refine ⟨_, rfl, a, ws, rfl, S2.at', ?_, _, rfl, a, _, rfl, S2.at', rfl, ?_⟩
                · rw [List.length_map] at h2'; omega
                · refine k _ H2 (s1.trans s2) ?_
                  have e2 : (V.int (cnt ws : Nat) = V.int ((ws.map V.str).length : Nat)) ↔ ws.Nodup := by
                    rw [List.length_map, ← cnt_eq ws]
                    exact ⟨fun z => by injection z with z; omega, fun z => by rw [z]⟩
                  rw [List.length_map] at h1' h2'
                  rw [decide_eq_true_iff]
                  refine e2.trans ⟨fun nd => ⟨ws, rfl, hw, nd, h1', h2'⟩, fun ⟨ws2, e, _, nd, _⟩ => by rw [str_inj e]; exact nd⟩
              · refine k _ H2 (s1.trans s2) ⟨fun z => (nomatch z), fun ⟨ws, e, hw, _⟩ => ?_⟩
                rw [List.all_map] at hb
                have : xs.all isWb = true := by rw [e]; exact all_of_strs hw
                rw [show (xs.all (id ∘ isWb)) = xs.all isWb from rfl, this] at hb
                cases hb
      · have h1' : ¬ lo ≤ (xs.length : Int) := of_decide_eq_false h1
        refine ⟨_, rfl, ?_⟩
        refine iteT ?_
        exact no _ s1 (.inl h1')

set_option maxHeartbeats 4000000 in
theorem ok_are_fields {f fW : Addr} {fd fdW : FuncData} {t : Tok} (F : Fun K "are_fields" "are_fields" S_are_fields f fd) (m_MOST_FIELDS : mg "MOST_FIELDS" = some (.int 2 t)) (d_are_words : Df K mg "are_words" S_are_words fW fdW P_are_words) (G_are_words : FnOk P w K mg base CX0 2 fW fdW P_are_words (spAreW K)) : FnOk P w K mg base CX0 3 f fd P_are_fields (spAreF K) := by
  refine F.ok sc_are_fields (fun vs H Q E h => ?_) (fun cdv A outer s H vs Q E hr h => ?_)
  · obtain ⟨x, T, rfl, _⟩ := h
    rfl
  · obtain ⟨x, T, rfl, hk, k⟩ := h
    have hr_are_words : Room 2 _ := hr.mono (Nat.le_refl 2)
    refine ⟨_, (pss_one (ps_ret (pe_call G_are_words hr_are_words rfl d_are_words.g d_are_words.F.kp d_are_words.b .nil pass0 (pa_cons (pv 0) (pa_cons pe_int (pa_cons (pe_glob (v := .int _) rfl m_MOST_FIELDS ⟨_, rfl⟩) pa_nil)))))), ?_⟩
    exact ⟨_, rfl, x, T, 1, 2, rfl, hk, by decide, k⟩
/-- x one of the words of a dict, or of a list or tuple -/
def oneOf (x : V) (ws : List Str) : Bool := match x with
  | .str z => decide (z ∈ ws)
  | _ => false
def spOneOf (K : PySem.W.Frag) : Sp := fun vs H Q _ => ∃ x T a ws, vs = [x, .ref a] ∧ Kd K H x T ∧ ((∃ l : Ob, H a = some (.dK (dk l)) ∧ l.map (·.1) = ws) ∨ SqL K H a (ws.map V.str) ∨ SqT K H a (ws.map V.str)) ∧ Q (.bl (oneOf x ws)) H
set_option maxHeartbeats 4000000 in
theorem ok_is_one_of {f : Addr} {fd : FuncData} (F : Fun K "is_one_of" "is_one_of" S_is_one_of f fd) (B : Bl mg) : FnOk P w K mg base CX0 1 f fd P_is_one_of (spOneOf K) := by
  refine F.ok sc_is_one_of (fun vs H Q E h => ?_) (fun cdv A outer s H vs Q E hr h => ?_)
  · obtain ⟨x, T, a, ws, rfl, _⟩ := h
    rfl
  · obtain ⟨x, T, a, ws, rfl, hk, S, k⟩ := h
    have hu := hu_of hr
    have nstr : (T == "str") = false → oneOf x ws = false := fun h => by
      cases x <;> try rfl
      have := (ty_str hk.t).mpr ⟨_, rfl⟩
      subst this
      cases h
    rcases S with ⟨l, hd, hl⟩ | S
    · refine ⟨_, (pss_one (ps_ret (pe_and (pe_callB call_isi (by rfl) B.m_isinstance (by decide +kernel) (pa_cons (pv 0) (pa_cons (pe_bltn (v := .ty "str") (by rfl) B.m_str (by decide +kernel) rfl) pa_nil))) (pe_one (pe_cmp (pc_din hu (pv 0) (pv 1)) rfl))))), ?_⟩
      refine ⟨_, rfl, _, _, _, _, _, rfl, .ty "str", hk.t, kit7_str hk.m, _, rfl, ?_⟩
      refine ite_dec (fun hb => ?_) (fun hb => ?_)
      · obtain ⟨z, rfl⟩ := (ty_str hk.t).mp (eq_of_beq hb)
        refine ⟨_, rfl, _, rfl, a, _, rfl, DGet.k (k := (Sum.inr z : Key)) hd, ?_⟩
        have e : (valV (dk l) (Sum.inr z : Key)).isSome = oneOf (.str z) ws := by
          rw [dk_valV]
          show ((l.lookup z).map hv).isSome = decide (z ∈ ws)
          rw [← hl, Option.isSome_map]
          by_cases h : z ∈ l.map (·.1)
          · rw [decide_eq_true h]
            cases e : l.lookup z with
            | some v => rfl
            | none => exact absurd h (lookup_none' e)
          · rw [decide_eq_false h, lookup_none h]; rfl
        rw [e]; exact k
      · rw [nstr hb] at k; exact k
    · refine ⟨_, (pss_one (ps_ret (pe_and (pe_callB call_isi (by rfl) B.m_isinstance (by decide +kernel) (pa_cons (pv 0) (pa_cons (pe_bltn (v := .ty "str") (by rfl) B.m_str (by decide +kernel) rfl) pa_nil))) (pe_one (pe_cmpR op_in_seq (pv 0) (pv 1) (by rfl)))))), ?_⟩
      refine ⟨_, rfl, _, _, _, _, _, rfl, .ty "str", hk.t, kit7_str hk.m, _, rfl, ?_⟩
      refine ite_dec (fun hb => ?_) (fun hb => ?_)
      · obtain ⟨z, rfl⟩ := (ty_str hk.t).mp (eq_of_beq hb)
        refine ⟨_, rfl, _, rfl, a, _, rfl, S, rfl, TW.flat_strs ws, ?_⟩
        have e : inV (.str z) (ws.map V.str) = oneOf (.str z) ws := inV_strs
        rw [← e] at k; exact k
      · rw [nstr hb] at k; exact k
end
end TW
set_option Elab.async false
set_option linter.all false
set_option maxRecDepth 100000
set_option maxHeartbeats 2000000
/-! defs that are called where no repr is under way: they may call repr -/
namespace L2
open PySem PySem.Spec PyProof.Rows
/-- no repr is under way -/
def Still (A : Around) : Prop := A.guards = some []
theorem Still.down {A : Around} (h : Still A) (e : Env) : Still (A.deeper e) := h
theorem still_top : Still callerA := rfl
/-- what a def promises there -/
structure FnG (P : Program) (w : World) (K : PySem.W.Frag) (mg : Str → Option Value) (base : Heap) (CX : CXT) (k : Nat) (f : Addr) (fd : FuncData) (ps : List Str) (sp : Sp) : Prop where
  ln : ∀ vs H Q E, sp vs H Q E → vs.length = ps.length
  go : ∀ A : Around, Still A → Room k A → ∀ (st : List Env) (s : Shared) (H : Hp), Env0 P w K mg base A st s H → ∀ (ag : Args) (us : List Value) (vs : List V) (Q : VK) (E : XK), BindsTo s fd ag (ps.zip us) → Vals vs us → sp vs H Q E →
    codeAny (model P w) A (.call (.ref f) ag) (CR CX st P w H s Q E) s
theorem FnOk.still {P : Program} {w : World} {K : PySem.W.Frag} {mg : Str → Option Value} {base : Heap} {CX : CXT} {k : Nat} {f : Addr} {fd : FuncData} {ps : List Str} {sp : Sp} (F : FnOk P w K mg base CX k f fd ps sp) : FnG P w K mg base CX k f fd ps sp :=
  ⟨F.len, fun A _ hr st s H e0 ag us vs Q E hb r h => F.run A st s H ag us vs Q E hr e0 hb r h⟩
section
variable {P : Program} {w : World} {K : PySem.W.Frag} {mg : Str → Option Value} {base : Heap}
/-- a def by its body, called where no repr is under way -/
theorem Fun.still {x qual : Str} {st : Stmt} {f : Addr} {fd : FuncData} {N ps : List Str} {k : Nat} {sp : Sp} (F : Fun K x qual st f fd) (S : FnScope N ps (defScope st)) (ln : ∀ vs H Q E, sp vs H Q E → vs.length = ps.length)
    (bd : ∀ (cdv : Value) (A : Around) (up : List Env) (s : Shared) (H : Hp) (vs : List V) (Q : VK) (E : XK), Still (A.deeper (envOfC qual (defScope st) s.heap.objs.size f cdv)) → Room k (A.deeper (envOfC qual (defScope st) s.heap.objs.size f cdv)) → sp vs H Q E →
      ∃ t, PSs (cxOf CX0 P w K mg base N qual (defScope st) f cdv A up s H E).nox (defBody st) t ∧ t { nx := fun _ H' => Q .non H', rt := Q } (start N vs) H) : FnG P w K mg base CX0 (k + 1) f fd ps sp := by
  obtain ⟨oc, od, kV, dc, pm, an, cdv, ct, sl, rfl, lk, hc⟩ := F.ex
  refine ⟨ln, fun A hg hr up s H e0 ag us vs Q E bt rv h0 => ?_⟩
  have nl := ln _ _ _ _ h0
  have kin : K.In s.heap := e0.mod.kin.keeps fun _ _ z => (e0.bs _ _ z).1
  have free : s.heap.NoLimit := e0.mod.nolimit.keeps fun _ _ z => (e0.bs _ _ z).1
  have kinds : ∀ y ∈ ps.zip us, (defScope st).names.lookup y.1 = some .local ∨ ((defScope st).names.lookup y.1 = some .cell ∧ ((cellsFrom (s.heap.objs.size + 1) (defScope st).names []).lookup y.1).isSome = true) := by
    rintro ⟨n, v⟩ hy
    exact (S.par n (List.of_mem_zip hy).1).imp id fun c => ⟨c, PySem.W.cellsFrom_some _ _ _ (.inl c)⟩
  refine codeAny_call_function hr.depth (kin _ _ lk) rfl S.co S.gen rfl (PySem.W.codeRec_of kin hc) (bt _ _ _ _ (wpAny_newFunctionEnv_cells S.kind kinds fun en hn s1 y => ?_))
  subst hn
  refine ⟨free.keeps y.toInCall.keep, codeAny_func ?_⟩
  obtain ⟨t, ht, q0⟩ := bd cdv A up s H vs Q E (hg.down _) (hr.deeper _) h0
  have I0 : Inv (cxOf CX0 P w K mg base N qual (defScope st) f cdv A up s H E) [] (start N vs) H s1 := inv_start S hr.hd e0 nl rv y
  refine wpAny_mono (ht.nox.run [] s1 (start N vs) H _ I0 q0) (fun fl s2 z => ?_) fun _ _ z => z
  match fl, z with
  | .ret u, ⟨v, _, H2, J, r, q⟩ => exact ⟨v, H2, J.os, J.bare, J.base, J.hok, r, q⟩
  | .next, ⟨_, H2, J, q⟩ => exact ⟨.non, H2, J.os, J.bare, J.base, J.hok, rfl, q⟩
  | .brk, ⟨_, _, _, q⟩ => exact False.elim q
  | .cont, ⟨_, _, _, q⟩ => exact False.elim q
end
section
variable {X : Cx} {CX : CXT} {k : Nat} {f : Addr} {fd : FuncData} {ps : List Str} {sp : Sp} {dvs : List V} {ds : List Value} {E : XK} {x : Str} {p pos : Pos} {e : Expr} {es : List Expr} {t : TA}
theorem run_still {pins : List (Addr × Obj)} {σ : St} {H : Hp} {s : Shared} {Q : VK} {us : List Value} {vs : List V} (F : FnG X.prog X.w X.K X.mg X.base CX k f fd ps sp) (hs : Still X.A) (hr : Room k X.A) (hb : Binds X.K fd ps ds) (hd : Vals dvs ds) (hx : Passes CX X E)
    (I : Inv X pins σ H s) (r : Vals vs us) (h : sp (vs ++ dvs) H Q E) : wpAny (model X.prog X.w) X.A (call (.ref f) us) (EP X pins σ Q) X.xe s := by
  have rr : Vals (vs ++ dvs) (us ++ ds) := r.append hd
  have nl : (us ++ ds).length = ps.length := rr.length.symm.trans (F.ln _ _ _ _ h)
  refine wpAny_call (codeAny_mono (F.go X.A hs hr X.stack s H I.env0 ⟨us, []⟩ _ _ Q E (hb s us I.kIn nl) rr h) fun z s2 hz => ?_)
  match z, hz with
  | .error er, hz => exact hx pins σ H s er s2 I hz
  | .ok (.ret u), hz => exact I.after hz
  | .ok .next, hz => exact False.elim hz
  | .ok .brk, hz => exact False.elim hz
  | .ok .cont, hz => exact False.elim hz
/-- f(e, ..) of such a def -/
theorem pe_callG (F : FnG X.prog X.w X.K X.mg X.base CX k f fd ps sp) (hs : Still X.A) (hr : Room k X.A) (hg : Gl X x) (hm : X.mg x = some (.ref f)) (hk : PySem.W.keepIn X.K (.ref f) = true) (hb : Binds X.K fd ps ds) (hd : Vals dvs ds) (hx : Passes CX X E)
    (ha : PA X (e :: es) t) (ndb : (x == ("__debug__" : Str)) = false := by decide) (hst : starEach (e :: es) X.env = (false, eval e X.env) :: starEach es X.env := by rfl) (hpl : (backTo pos (starEach es X.env)).any (·.1) = false := by rfl) :
    PE X (.Call (.Name x p) (e :: es) [] pos) (tCall sp dvs E t) := by
  constructor
  intro pins s σ H Q I h
  refine wpAny_Call_Name_kw (ld_glob I hg hm (PySem.W.callWith_K (h₀ := X.base) I.ok.mod.kin hk (thn (ha.run pos pins s σ H _ I h) ?_) hst hpl) ndb)
  rintro us s1 ⟨vs, H1, I1, r, q⟩
  exact ⟨I1.kIn, run_still F hs hr hb hd hx I1 r q⟩
/-- repr(x), x data of any depth -/
def rRepr (K : PySem.W.Frag) : List V → Hp → VK → Prop := fun vs H Q => ∃ (a : Addr) (d : PyData), vs = [.ref a] ∧ Dp K H (.ref a) d ∧ d.showable = true ∧ d.hasDict = false ∧ d.depth ≤ 60 ∧ d.shown.length ≤ sizeLine ∧ Q (.str d.shown) H
theorem call_reprD (hs : Still X.A) (hu : X.A.units + 64 < cLine) : CallR X (.builtin "repr") (rRepr X.K) := by
  rintro pins s σ H vs us Q I r ⟨a, d, rfl, hd, sh, nd, dp, sz, q⟩
  obtain rfl := Vals.ref1 r
  obtain ⟨as, rd⟩ := Dp.reads I d _ _ hd rfl
  exact repr_of_reads' rd sh (PyData.noDict_hsm nd) hs (by omega) (fun _ _ z => z) (fun h' u tk hk => ⟨.str d.shown, H, I.kept hk, ⟨u, rfl⟩, q⟩) sz
end
/-! the law's own def, from the top -/
section
variable {P : Program} {w : World} {K : PySem.W.Frag} {mg mb : Str → Option Value} {CX : CXT} {k : Nat} {fa a : Addr} {fd : FuncData} {x : Str} {sp : Sp} {t : Shared} {vs : List Value} {ns : List Int}
theorem still_from {H : Hp} (kin : K.In t.heap) (gl : t.heap.Ns mainGlobals mg) (bl : t.heap.Ns builtinsNs mb) (bb : ∀ x : Str, x ≠ "__name__" → mb x = bootBuiltins x) (nolim : t.heap.NoLimit) (gen : t.gens = #[]) (ha : t.heap.get? a = some { cls := .type "list", data := .seq vs.toArray }) (hr : Room k callerA)
    (F : ∀ base : Heap, K.In base → base.Ns mainGlobals mg → FnG P w K mg base CX k fa fd [x] sp) (bind : ∀ (s : Shared) (u : Value), BindsTo s fd ⟨[u], []⟩ [(x, u)]) (low : ∀ H e s', CX [] H t (fun _ _ _ => False) e s' → False)
    (hO : Only H) (hs : sp [.ref a] H (fun v _ => v = .bl true) fun _ _ _ => False) (ok : HOk P w H t.heap) (one : ∀ b, H b ≠ none → b = a) (off : H a ≠ none → K.lookup a = none) :
    codeAny (model P w) callerA (.call (.ref fa) ⟨[.ref a], []⟩) (fun r s' => r = .ok (.ret (.bool true)) ∧ OldK t.heap s'.heap ∧ s'.os = t.os ∧ AllBare s'.gens) t := by
  have away : ∀ {b : Addr} {o : Obj}, t.heap.get? b = some o → o.data ≠ .seq vs.toArray → H b = none := fun {b o} g ne => by
    refine Decidable.byContradiction fun z => ?_
    rw [one b z, ha] at g
    cases g
    exact ne rfl
  have ns' : ∀ {b : Addr} {m : Str → Option Value}, t.heap.Ns b m → (hidT t.heap H).Ns b m := fun {b m} h => by
    obtain ⟨o, es, ep, g, d, r⟩ := h
    exact ⟨o, es, ep, hidT_get g (away g (by rw [d]; exact fun z => nomatch z)), d, r⟩
  have kin' : K.In (hidT t.heap H) := fun b o g => hidT_get (kin b o g) (Decidable.byContradiction fun z => by
    have e := one b z
    subst e
    rw [off z] at g
    cases g)
  have md : Mod K mg (hidT t.heap H) := by
    obtain ⟨mc, l1, l2⟩ := nolim
    exact ⟨kin', ns' gl, ⟨mb, ns' bl, bb⟩, mc, ns' l1, l2⟩
  have e0 : Env0 P w K mg (hidT t.heap H) callerA [] t H := ⟨rfl, md, fun _ _ g => of_hidT g, Nat.le_of_eq (hidT_size _ _), trivial, fun b z => (nomatch z), ok, .of_eq gen⟩
  refine codeAny_mono ((F _ kin' (ns' gl)).go callerA still_top hr [] t H e0 ⟨[.ref a], []⟩ [.ref a] [.ref a] _ _ (bind t _) (.cons rfl .nil) hs) fun z s2 hz => ?_
  match z, hz with
  | .error er, hz => exact (low H er s2 hz).elim
  | .ok .next, hz => exact False.elim hz
  | .ok .brk, hz => exact False.elim hz
  | .ok .cont, hz => exact False.elim hz
  | .ok (.ret u), ⟨v, H2, os, bare, un, ok2, rv, ev⟩ =>
    have ev' : v = .bl true := ev
    subst ev'
    have eu : u = Value.bool true := rv
    subst eu
    refine ⟨rfl, OldK.of_keep fun b o g => ?_, os, bare⟩
    rcases hO b with n | ⟨ob, xs, e⟩
    · exact un.keep b o g n (fun z => (nomatch z)) (fun z => (nomatch z))
    · have g1 := (ok b _ e).1
      rw [g] at g1
      cases g1
      exact (ok2 b _ (un.frzs b _ _ e)).1
theorem law_still (kin : K.In t.heap) (gl : t.heap.Ns mainGlobals mg) (bl : t.heap.Ns builtinsNs mb) (bb : ∀ x : Str, x ≠ "__name__" → mb x = bootBuiltins x) (nolim : t.heap.NoLimit) (gen : t.gens = #[]) (ha : t.heap.get? a = some { cls := .type "list", data := .seq vs.toArray })
    (hi : IntsAre vs ns) (hl : ns.length ≤ sizeLine) (hr : Room k callerA)
    (F : ∀ base : Heap, K.In base → base.Ns mainGlobals mg → FnG P w K mg base CX k fa fd [x] sp) (bind : ∀ (s : Shared) (u : Value), BindsTo s fd ⟨[u], []⟩ [(x, u)]) (low : ∀ H e s', CX [] H t (fun _ _ _ => False) e s' → False)
    (hs : ∀ H : Hp, Only H → SqL K H a (ns.map V.int) → sp [.ref a] H (fun v _ => v = .bl true) fun _ _ _ => False) :
    codeAny (model P w) callerA (.call (.ref fa) ⟨[.ref a], []⟩) (fun r s' => r = .ok (.ret (.bool true)) ∧ OldK t.heap s'.heap ∧ s'.os = t.os ∧ AllBare s'.gens) t := by
  have rv := vals_ints hi
  have nl := hi.length
  obtain ⟨ob, eo⟩ : ∃ ob : Obj, ob = { cls := .type "list", data := .seq vs.toArray } := ⟨_, rfl⟩
  cases hk : K.lookup a with
  | some o =>
    have g := kin a o hk
    rw [ha] at g
    cases g
    have hO : Only fun _ => none := fun _ => .inl rfl
    refine still_from kin gl bl bb nolim gen ha hr F bind low hO (hs _ hO (.inr ⟨_, vs.toArray, _, hk, rfl, rfl, rfl, ?_, ?_⟩)) (fun b u z => nomatch z) (fun b z => absurd rfl z) (fun z => absurd rfl z)
    · rw [List.size_toArray, nl]
      exact hl
    · simpa using rv
  | none =>
    have here : ∀ b, (upd (fun _ => none) a (.frz ob (.lst (ns.map V.int)))) b ≠ none → b = a := fun b z => Decidable.byContradiction fun n => z (upd_ne n)
    have hO : Only (upd (fun _ => none) a (.frz ob (.lst (ns.map V.int)))) := fun b => by
      by_cases n : b = a
      · subst n
        exact .inr ⟨_, _, upd_same⟩
      · exact .inl (upd_ne n)
    refine still_from kin gl bl bb nolim gen ha hr F bind low hO (hs _ hO (.inl (.inr ⟨ob, upd_same⟩))) (fun b u z => ?_) here (fun _ => hk)
    have e := here b (by rw [z]; exact fun y => nomatch y)
    subst e
    rw [upd_same] at z
    cases z
    subst eo
    exact ⟨ha, by rw [List.length_map]; exact hl, vs, _, rv, ha⟩
end
/-- what k_head leaves, for a law whose def needs that no repr is under way -/
theorem walk_still {l : PySem.W.OpenLaw} {n k : Nat} {q : Program} {loose : List Str} {XP : (Str → Option Value) → Heap → Prop} {YP : World → Heap → Prop} {d : DefRec} {K : Params → PySem.W.Frag} {sp : World → Sp} {x : Str}
    (m1 : l.most = some n) (m2 : n ≤ sizeLine) (nd : d.params.defaults = []) (hr : Room k callerA) (hY : ∀ (w : World) (h : Heap), YP w h → (K w.params).In h)
    (F : ∀ (w : World) (mg : Str → Option Value) (fa : Addr) (h : Heap), (K w.params).In h → h.Ns mainGlobals mg → mg d.name = some (.ref fa) →
      ∃ fd : FuncData, (∀ (s : Shared) (u : Value), BindsTo s fd ⟨[u], []⟩ [(x, u)]) ∧ ∀ base : Heap, (K w.params).In base → base.Ns mainGlobals mg → FnG l.prog w (K w.params) mg base CX0 k fa fd [x] (sp w))
    (hs : ∀ (w : World) (H : Hp) (a : Addr) (ns : List Int), ns.length ≤ n → Only H → SqL (K w.params) H a (ns.map V.int) → sp w [.ref a] H (fun v _ => v = .bl true) fun _ _ _ => False) :
    PySem.W.WalkO q loose XP YP l.row.toRowW d [] (fun f vs => PySem.call f vs) := by
  refine Att.attach_call m1 nd fun w s0 s1 mg mb fa o pm cd doc a vs ns G Y e1 e2 e3 e4 e5 e6 e7 e8 => ?_
  have kin := hY w _ Y
  obtain ⟨fd, hb, hF⟩ := F w mg fa _ kin G.T.g e4
  exact law_still kin G.T.g G.T.b G.T.builtins G.T.nolimit e8 e5 e6 (Nat.le_trans e7 m2) hr hF hb (fun _ _ _ z => z) fun H hO hS => hs w H a ns e7 hO hS
end L2
set_option Elab.async false
set_option linter.all false
set_option maxRecDepth 100000
namespace TW
open PySem PySem.Spec PyProof.Rows L2 TL
/-! data with the addresses of its lists: what may be written to without a change of it -/
mutual
inductive Dq (H : Hp) : V → PyData → List Addr → Prop
  | non : Dq H .non .none []
  | bl (b : Bool) : Dq H (.bl b) (.bool b) []
  | int (i : Int) : Dq H (.int i) (.int i) []
  | str (x : Str) : Dq H (.str x) (.str x) []
  | lst {a : Addr} {xs : List V} {ds : List PyData} {L : List Addr} : H a = some (.lst xs) → DqAll H xs ds L → Dq H (.ref a) (.list ds) (a :: L)
  | tup {a : Addr} {xs : List V} {ds : List PyData} {L : List Addr} : H a = some (.tup xs) → DqAll H xs ds L → Dq H (.ref a) (.tuple ds) L
inductive DqAll (H : Hp) : List V → List PyData → List Addr → Prop
  | nil : DqAll H [] [] []
  | cons {v : V} {vs : List V} {d : PyData} {ds : List PyData} {L M : List Addr} : Dq H v d L → DqAll H vs ds M → DqAll H (v :: vs) (d :: ds) (L ++ M)
end
/-- the lists of L as they were, and all tuples -/
structure KeepL (L : List Addr) (H H' : Hp) : Prop where
  l : ∀ b ∈ L, H' b = H b
  t : ∀ b xs, H b = some (.tup xs) → H' b = some (.tup xs)
theorem KeepL.sub {L M : List Addr} {H H' : Hp} (k : KeepL L H H') (s : ∀ b ∈ M, b ∈ L) : KeepL M H H' := ⟨fun b m => k.l b (s b m), k.t⟩
theorem KeepL.same {L : List Addr} {H H' : Hp} (s : Same H H') (h : ∀ b ∈ L, ∃ xs, H b = some (.lst xs)) : KeepL L H H' := ⟨fun b m => by
  obtain ⟨xs, e⟩ := h b m
  rw [e, s _ _ e], fun b xs e => s _ _ e⟩
section
variable {K : PySem.W.Frag} {H H' : Hp}
mutual
theorem Dq.dp : ∀ {v : V} {d : PyData} {L : List Addr}, Dq H v d L → Dp K H v d
  | _, _, _, .non => .non
  | _, _, _, .bl b => .bl b
  | _, _, _, .int i => .int i
  | _, _, _, .str x => .str x
  | _, _, _, .lst h a => .lst (SqL.of h) (DqAll.dp a)
  | _, _, _, .tup h a => .tup (SqT.of h) (DqAll.dp a)
theorem DqAll.dp : ∀ {vs : List V} {ds : List PyData} {L : List Addr}, DqAll H vs ds L → DpAll K H vs ds
  | _, _, _, .nil => .nil
  | _, _, _, .cons h a => .cons (Dq.dp h) (DqAll.dp a)
end
mutual
theorem Dq.keep : ∀ {v : V} {d : PyData} {L : List Addr}, Dq H v d L → KeepL L H H' → Dq H' v d L
  | _, _, _, .non, _ => .non
  | _, _, _, .bl b, _ => .bl b
  | _, _, _, .int i, _ => .int i
  | _, _, _, .str x, _ => .str x
  | _, _, _, .lst h a, k => .lst ((k.l _ (List.mem_cons_self ..)).trans h) (DqAll.keep a (k.sub fun b m => List.mem_cons_of_mem _ m))
  | _, _, _, .tup h a, k => .tup (k.t _ _ h) (DqAll.keep a k)
theorem DqAll.keep : ∀ {vs : List V} {ds : List PyData} {L : List Addr}, DqAll H vs ds L → KeepL L H H' → DqAll H' vs ds L
  | _, _, _, .nil, _ => .nil
  | _, _, _, .cons h a, k => .cons (Dq.keep h (k.sub fun b m => List.mem_append_left _ m)) (DqAll.keep a (k.sub fun b m => List.mem_append_right _ m))
end
mutual
theorem Dq.there : ∀ {v : V} {d : PyData} {L : List Addr}, Dq H v d L → ∀ b ∈ L, ∃ xs, H b = some (.lst xs)
  | _, _, _, .lst h a, b, m => by
    rcases List.mem_cons.mp m with rfl | m
    · exact ⟨_, h⟩
    · exact DqAll.there a b m
  | _, _, _, .tup h a, b, m => DqAll.there a b m
theorem DqAll.there : ∀ {vs : List V} {ds : List PyData} {L : List Addr}, DqAll H vs ds L → ∀ b ∈ L, ∃ xs, H b = some (.lst xs)
  | _, _, _, .cons h a, b, m => by
    rcases List.mem_append.mp m with m | m
    · exact Dq.there h b m
    · exact DqAll.there a b m
end
theorem Dq.same {v : V} {d : PyData} {L : List Addr} (h : Dq H v d L) (s : Same H H') : Dq H' v d L := h.keep (.same s h.there)
theorem DqAll.same {vs : List V} {ds : List PyData} {L : List Addr} (h : DqAll H vs ds L) (s : Same H H') : DqAll H' vs ds L := h.keep (.same s h.there)
theorem DqAll.len : ∀ {vs : List V} {ds : List PyData} {L : List Addr}, DqAll H vs ds L → vs.length = ds.length
  | _, _, _, .nil => rfl
  | _, _, _, .cons _ a => congrArg (· + 1) (DqAll.len a)
theorem DqAll.get : ∀ {vs : List V} {ds : List PyData} {L : List Addr} {i : Nat} {v : V}, DqAll H vs ds L → vs[i]? = some v → ∃ d M, ds[i]? = some d ∧ Dq H v d M ∧ ∀ b ∈ M, b ∈ L
  | _, _, _, i, _, .nil, h => by simp at h
  | _, _, _, 0, _, .cons q a, h => by
    have e := Option.some.inj h
    rw [← e]
    exact ⟨_, _, rfl, q, fun b m => List.mem_append_left _ m⟩
  | _, _, _, i + 1, _, .cons q a, h => by
    obtain ⟨d, M, e, z, s⟩ := DqAll.get (i := i) a h
    exact ⟨d, M, e, z, fun b m => List.mem_append_right _ (s b m)⟩
theorem DqAll.append : ∀ {vs us : List V} {ds es : List PyData} {L M : List Addr}, DqAll H vs ds L → DqAll H us es M → DqAll H (vs ++ us) (ds ++ es) (L ++ M)
  | _, _, _, _, _, _, .nil, b => b
  | _, _, _, _, _, _, .cons (L := L1) (M := L2) h a, b => by
    rw [List.append_assoc]
    exact .cons h (DqAll.append a b)
theorem DqAll.snoc {vs : List V} {ds : List PyData} {L M : List Addr} {v : V} {d : PyData} (h : DqAll H vs ds L) (q : Dq H v d M) : DqAll H (vs ++ [v]) (ds ++ [d]) (L ++ M) := by
  have := h.append (.cons q .nil)
  rwa [List.append_nil] at this
end
end TW
set_option Elab.async false
set_option linter.all false
set_option maxRecDepth 100000
namespace TW
open PySem PySem.Spec PyProof.Rows L2 TL
inductive FlatD : PyData → Prop
  | str (x : Str) : FlatD (.str x)
  | int (i : Int) : FlatD (.int i)
/-- a row of a program, with rows inside on n levels -/
inductive RowD : Nat → PyData → Prop
  | plain {n : Nat} {x : Str} {ds : List PyData} : x ≠ "same" → x ≠ "empty" → (∀ d ∈ ds, FlatD d) → ds.length ≤ 5 → RowD n (.tuple (.str x :: ds))
  | br {n : Nat} {x : Str} {ds as bs : List PyData} : (x = "same" ∨ x = "empty") → (∀ d ∈ ds, FlatD d) → ds.length ≤ 2 → (∀ d ∈ as, RowD n d) → (∀ d ∈ bs, RowD n d) → as.length ≤ 100 → bs.length ≤ 100 → RowD (n + 1) (.tuple (.str x :: (ds ++ [.list as, .list bs])))
theorem DqAll.flat {H : Hp} : ∀ {vs : List V} {ds : List PyData} {L : List Addr}, DqAll H vs ds L → (∀ d ∈ ds, FlatD d) → L = []
  | _, _, _, .nil, _ => rfl
  | _, _, _, .cons h a, f => by
    have e2 := DqAll.flat a fun d m => f d (List.mem_cons_of_mem _ m)
    subst e2
    have g := f _ (List.mem_cons_self ..)
    cases h with
    | str x => rfl
    | int i => rfl
    | non => cases g
    | bl b => cases g
    | lst _ _ => cases g
    | tup _ _ => cases g
theorem DqAll.split {H : Hp} : ∀ {ds es : List PyData} {vs : List V} {L : List Addr}, DqAll H vs (ds ++ es) L → ∃ v1 v2 L1 L2, vs = v1 ++ v2 ∧ L = L1 ++ L2 ∧ DqAll H v1 ds L1 ∧ DqAll H v2 es L2
  | [], es, vs, L, h => ⟨[], vs, [], L, rfl, rfl, .nil, h⟩
  | d :: ds, es, vs, L, h => by
    cases h with
    | cons q a =>
      obtain ⟨v1, v2, L1, L2, rfl, rfl, h1, h2⟩ := DqAll.split a
      exact ⟨_ :: v1, v2, _ ++ L1, L2, rfl, (List.append_assoc ..).symm, .cons q h1, h2⟩
def spCopied (n : Nat) : Sp := fun vs H Q _ => ∃ (a : Addr) (ds : List PyData) (L : List Addr), vs = [.ref a] ∧ Dq H (.ref a) (.list ds) L ∧ (∀ d ∈ ds, RowD n d) ∧ ds.length ≤ 100 ∧
  ∀ (b : Addr) (M : List Addr) (H' : Hp), Same H H' → Dq H' (.ref b) (.list ds) M → (∀ x ∈ M, H x = none) → Q (.ref b) H'
def spInner : Nat → Sp
  | 0 => fun _ _ _ _ => False
  | n + 1 => spCopied n
theorem sIx_two {xs : List V} {u v : V} : HT.sIx (xs ++ [u, v]).length (xs ++ [u, v]).length (some (-2)) = xs.length := by
  show (if (-2 : Int) < 0 then ((-2 : Int) + ((xs ++ [u, v]).length : Int)).toNat else min (-2 : Int).toNat (xs ++ [u, v]).length) = _
  rw [if_pos (by omega), List.length_append]
  show ((-2 : Int) + ((xs.length + 2 : Nat) : Int)).toNat = _
  omega
theorem cutV_two {xs : List V} {u v : V} : cutV (xs ++ [u, v]) none (some (-2)) = xs := by
  unfold cutV
  have e0 : HT.sIx (xs ++ [u, v]).length 0 none = 0 := rfl
  rw [sIx_two, e0, List.drop_zero, Nat.sub_zero, List.take_left']
  rfl
theorem atI_two {xs : List V} {u v : V} : atI (xs ++ [u, v]) (-2) = some u ∧ atI (xs ++ [u, v]) (-1) = some v := by
  have n : (xs ++ [u, v]).length = xs.length + 2 := List.length_append ..
  constructor
  · have e : ixN (xs ++ [u, v]).length (-2) = some xs.length := by
      unfold ixN
      rw [if_neg (by omega), if_pos (by omega), n]
      exact congrArg some (by omega)
    unfold atI
    rw [e]
    simp
  · have e : ixN (xs ++ [u, v]).length (-1) = some (xs.length + 1) := by
      unfold ixN
      rw [if_neg (by omega), if_pos (by omega), n]
      exact congrArg some (by omega)
    unfold atI
    rw [e]
    simp
theorem in_two {x : Str} : inV (.str x) [.str (Str.ofString "same"), .str (Str.ofString "empty")] = decide (x = Str.ofString "same" ∨ x = Str.ofString "empty") := by
  show ((Str.ofString "same" == x) || ((Str.ofString "empty" == x) || false)) = _
  by_cases h1 : x = Str.ofString "same"
  · subst h1; simp
  · by_cases h2 : x = Str.ofString "empty"
    · subst h2; simp
    · rw [decide_eq_false (fun h => h.elim h1 h2), beq_eq_false_iff_ne.mpr (Ne.symm h1), beq_eq_false_iff_ne.mpr (Ne.symm h2)]
      rfl
section
variable {P : Program} {w : World} {K : PySem.W.Frag} {mg : Str → Option Value} {base : Heap}
end
end TW
set_option Elab.async false
set_option linter.all false
set_option maxRecDepth 100000
namespace TW
open PySem PySem.Spec PyProof.Rows L2 TL
/-- up to three of the words, in their order -/
def spOutputs : Sp := fun vs H Q _ => ∃ (p c a : Addr) (ws : List Str), vs = [.ref p, .ref a] ∧ Pool p c H ∧ (a ≠ p ∧ a ≠ c) ∧ H a = some (.lst (ws.map V.str)) ∧ ws.length ≤ 100 ∧
  ∀ (b : Addr) (us : List Str) (H' : Hp), H b = none → H' b = some (.lst (us.map V.str)) → us.Sublist ws → us.length ≤ 3 → Pool p c H' → Fr p c H H' → Q (.ref b) H'
section
variable {P : Program} {w : World} {K : PySem.W.Frag} {mg : Str → Option Value} {base : Heap}
end
end TW
set_option Elab.async false
set_option linter.all false
set_option maxRecDepth 100000
namespace TW
open PySem PySem.Spec PyProof.Rows L2 TL
/-- the rows inside a row -/
def inner : PyData → List PyData × List PyData
  | .tuple ds => match ds.reverse with
    | .list bs :: .list as :: _ => (as, bs)
    | _ => ([], [])
  | _ => ([], [])
theorem inner_plain {w0 : Str} {ds : List PyData} (f : ∀ d ∈ ds, FlatD d) : inner (.tuple (.str w0 :: ds)) = ([], []) := by
  show (match (PyData.str w0 :: ds).reverse with | .list bs :: .list as :: _ => (as, bs) | _ => ([], [])) = _
  have h : ∀ d ∈ (PyData.str w0 :: ds).reverse, FlatD d := fun d m => by
    rcases List.mem_cons.mp (List.mem_reverse.mp m) with rfl | m
    · exact .str _
    · exact f d m
  cases e : (PyData.str w0 :: ds).reverse with
  | nil => rfl
  | cons u us =>
    rw [e] at h
    cases h u (List.mem_cons_self ..) <;> rfl
theorem inner_br {w0 : Str} {ds as bs : List PyData} : inner (.tuple (.str w0 :: (ds ++ [.list as, .list bs]))) = (as, bs) := by
  show (match (PyData.str w0 :: (ds ++ [.list as, .list bs])).reverse with | .list bs :: .list as :: _ => (as, bs) | _ => ([], [])) = _
  have e : (PyData.str w0 :: (ds ++ [.list as, .list bs])).reverse = .list bs :: .list as :: (ds.reverse ++ [.str w0]) := by simp
  rw [e]
def Lst100 (m : Nat) (H : Hp) (b : Addr) : Prop := ∃ ys, H b = some (.lst ys) ∧ ys.length ≤ m
/-- a row with rows inside, at its address -/
structure BrAt (n : Nat) (H : Hp) (r : Addr) (w0 : Str) (us : List V) (pa pb : Addr) (as bs : List PyData) (La Lb : List Addr) : Prop where
  w : w0 = "same" ∨ w0 = "empty"
  t : H r = some (.tup (.str w0 :: (us ++ [.ref pa, .ref pb])))
  a : Dq H (.ref pa) (.list as) La
  b : Dq H (.ref pb) (.list bs) Lb
  ra : ∀ d ∈ as, RowD n d
  rb : ∀ d ∈ bs, RowD n d
  la : as.length ≤ 100
  lb : bs.length ≤ 100
theorem row_at {n : Nat} {H : Hp} {v : V} {d : PyData} {L : List Addr} (hr : RowD n d) (hq : Dq H v d L) :
    (∃ (r : Addr) (w0 : Str) (us : List V), v = .ref r ∧ w0 ≠ "same" ∧ w0 ≠ "empty" ∧ H r = some (.tup (.str w0 :: us)) ∧ L = [] ∧ inner d = ([], [])) ∨
    (∃ (m : Nat) (r : Addr) (w0 : Str) (us : List V) (pa pb : Addr) (as bs : List PyData) (La Lb : List Addr), n = m + 1 ∧ v = .ref r ∧ BrAt m H r w0 us pa pb as bs La Lb ∧ L = La ++ Lb ∧ inner d = (as, bs)) := by
  cases hr with
  | @plain _ w0 ds0 n1 n2 fl l5 =>
    cases hq with
    | @tup r us _ _ hr2 du =>
    cases du with
    | @cons v0 us0 _ _ L0 M0 hv0 du0 =>
    cases hv0 with
    | str _ =>
    have e0 := du0.flat fl
    subst e0
    exact .inl ⟨r, w0, us0, rfl, n1, n2, hr2, rfl, inner_plain fl⟩
  | @br m w0 ds0 as bs hw fl l2 ra rb la lb =>
    cases hq with
    | @tup r us _ _ hr2 du =>
    cases du with
    | @cons v0 us0 _ _ L0 M0 hv0 du0 =>
    cases hv0 with
    | str _ =>
    obtain ⟨u1, u2, L1, L2, rfl, rfl, e1, e2⟩ := du0.split
    have z1 := e1.flat fl
    subst z1
    cases e2 with
    | @cons va ur _ _ La Lr qa e3 =>
    cases e3 with
    | @cons vb ur2 _ _ Lb Lr2 qb e4 =>
    cases e4
    obtain ⟨pa, rfl⟩ : ∃ pa, va = .ref pa := by cases qa; exact ⟨_, rfl⟩
    obtain ⟨pb, rfl⟩ : ∃ pb, vb = .ref pb := by cases qb; exact ⟨_, rfl⟩
    exact .inr ⟨m, r, w0, u1, pa, pb, as, bs, La, Lb, rfl, rfl, ⟨hw, hr2, qa, qb, ra, rb, la, lb⟩, by simp, inner_br⟩
theorem dqAll_lists {H : Hp} {n : Nat} (ih : ∀ {v : V} {d : PyData} {L : List Addr}, RowD n d → Dq H v d L → ∀ b ∈ L, Lst100 100 H b) : ∀ {vs : List V} {ds : List PyData} {L : List Addr}, (∀ d ∈ ds, RowD n d) → DqAll H vs ds L → ∀ b ∈ L, Lst100 100 H b
  | _, _, _, f, .cons h a, b, m => by
    rcases List.mem_append.mp m with m | m
    · exact ih (f _ (List.mem_cons_self ..)) h b m
    · exact dqAll_lists ih (fun d z => f d (List.mem_cons_of_mem _ z)) a b m
theorem row_lists {H : Hp} : ∀ (n : Nat) {v : V} {d : PyData} {L : List Addr}, RowD n d → Dq H v d L → ∀ b ∈ L, Lst100 100 H b := by
  intro n
  induction n with
  | zero =>
    intro v d L hr hq b m
    rcases row_at hr hq with ⟨_, _, _, _, _, _, _, e, _⟩ | ⟨_, _, _, _, _, _, _, _, _, _, e, _⟩
    · rw [e] at m
      cases m
    · cases e
  | succ n ih =>
    intro v d L hr hq b m
    rcases row_at hr hq with ⟨_, _, _, _, _, _, _, e, _⟩ | ⟨_, _, _, _, pa, pb, as, bs, La, Lb, e0, _, B, e, _⟩
    · rw [e] at m
      cases m
    · cases e0
      have one : ∀ {p : Addr} {cs : List PyData} {M : List Addr}, Dq H (.ref p) (.list cs) M → (∀ d ∈ cs, RowD n d) → cs.length ≤ 100 → b ∈ M → Lst100 100 H b := fun {p cs M} q f l m => by
        cases q with
        | @lst _ xs _ M2 hp da =>
        rcases List.mem_cons.mp m with rfl | m
        · exact ⟨xs, hp, by rw [da.len]; exact l⟩
        · exact dqAll_lists (fun h q => ih h q) f da b m
      rw [e] at m
      rcases List.mem_append.mp m with m | m
      · exact one B.a B.ra B.la m
      · exact one B.b B.rb B.lb m
/-- nothing but the lists of L is written to -/
def OnlyL (L : List Addr) (H H' : Hp) : Prop := ∀ b o, H b = some o → b ∉ L → H' b = some o
def spSpoiled : Sp := fun vs H Q _ => ∃ (n : Nat) (a : Addr) (ds : List PyData) (L : List Addr), vs = [.ref a] ∧ Dq H (.ref a) (.list ds) (a :: L) ∧ a ∉ L ∧ (∀ d ∈ ds, RowD n d) ∧ ds.length ≤ 100 ∧ ∀ H', OnlyL (a :: L) H H' → Q .non H'
section
variable {P : Program} {w : World} {K : PySem.W.Frag} {mg : Str → Option Value} {base : Heap}
end
end TW
set_option Elab.async false
set_option linter.all false
set_option maxRecDepth 100000
namespace L2
open PySem PySem.Spec PyProof.Rows
/-- a statement behind which a mark of one's own choice holds -/
def tCut (t : TS) : TS := fun D σ H => ∃ J : St → Hp → Prop, t { D with nx := J } σ H ∧ ∀ σ' H', J σ' H' → D.nx σ' H'
theorem ps_cut {X : Cx} {st : Stmt} {t : TS} (h : PS X st t) : PS X st (tCut t) := by
  refine ⟨fun pins s σ H D I q => ?_⟩
  obtain ⟨J, q1, q2⟩ := q
  refine thn (h.run pins s σ H { D with nx := J } I q1) fun f s1 z => ?_
  cases f with
  | next =>
    obtain ⟨σ', H', I', q⟩ := z
    exact ⟨σ', H', I', q2 _ _ q⟩
  | ret v => exact z
  | brk => exact z
  | cont => exact z
end L2
set_option Elab.async false
set_option linter.all false
set_option maxRecDepth 100000
namespace TW
open PySem PySem.Spec PyProof.Rows L2 TL
/-- one level of the walk; W: what a deeper one tells -/
def lvl (W : List Int → List PyData → List (List Int × PyData)) (base : List Int) (ds : List PyData) : List (List Int × PyData) :=
  ds.zipIdx.flatMap fun p => (base ++ [(p.2 : Int)], p.1) :: (W (base ++ [(p.2 : Int)] ++ [0]) (inner p.1).1 ++ W (base ++ [(p.2 : Int)] ++ [1]) (inner p.1).2)
/-- places and rows, depth first -/
def walkD : Nat → List Int → List PyData → List (List Int × PyData)
  | 0 => lvl fun _ _ => []
  | n + 1 => lvl (walkD n)
theorem lvl_nil (W : List Int → List PyData → List (List Int × PyData)) (base : List Int) : lvl W base [] = [] := rfl
theorem walkD_nil (n : Nat) (base : List Int) : walkD n base [] = [] := by cases n <;> rfl
theorem lvl_take {W : List Int → List PyData → List (List Int × PyData)} {base : List Int} {ds : List PyData} {i : Nat} {d : PyData} (h : ds[i]? = some d) :
    lvl W base (ds.take (i + 1)) = lvl W base (ds.take i) ++ ((base ++ [(i : Int)], d) :: (W (base ++ [(i : Int)] ++ [0]) (inner d).1 ++ W (base ++ [(i : Int)] ++ [1]) (inner d).2)) := by
  have hi : i < ds.length := (List.getElem?_eq_some_iff.mp h).1
  have e : (ds.take i).length = i := by rw [List.length_take]; omega
  unfold lvl
  rw [take_next h, List.zipIdx_append, List.flatMap_append]
  simp [e]
theorem lvl_le {W : List Int → List PyData → List (List Int × PyData)} {base : List Int} {ds : List PyData} (i : Nat) : (lvl W base (ds.take i)).length ≤ (lvl W base ds).length := by
  have e : lvl W base ds = lvl W base (ds.take i ++ ds.drop i) := by rw [List.take_append_drop]
  rw [e]
  unfold lvl
  rw [List.zipIdx_append, List.flatMap_append, List.length_append]
  exact Nat.le_add_right _ _
/-- a pair (place, row) -/
def pd (p : List Int × PyData) : PyData := .tuple [.tuple (p.1.map .int), p.2]
def Wn : Nat → List Int → List PyData → List (List Int × PyData)
  | 0 => fun _ _ => []
  | n + 1 => walkD n
theorem walkD_lvl (n : Nat) : walkD n = lvl (Wn n) := by cases n <;> rfl
def spWalk (K : PySem.W.Frag) (n : Nat) : Sp := fun vs H Q _ => ∃ (a q : Addr) (ds : List PyData) (L : List Addr) (base : List Int), vs = [.ref a, .ref q] ∧ Dq H (.ref a) (.list ds) L ∧ (∀ d ∈ ds, RowD n d) ∧ ds.length ≤ 100 ∧ SqT K H q (base.map V.int) ∧ base.length + 2 * n ≤ 90 ∧ (walkD n base ds).length ≤ 1000 ∧
  ∀ (b : Addr) (ys : List V) (M : List Addr) (H' : Hp), Same H H' → H b = none → H' b = some (.lst ys) → DqAll H' ys ((walkD n base ds).map pd) M → (∀ x ∈ M, x ∈ L) → Q (.ref b) H'
def spWInner (K : PySem.W.Frag) : Nat → Sp
  | 0 => fun _ _ _ _ => False
  | n + 1 => spWalk K n
theorem dq_ints {H : Hp} : ∀ is : List Int, DqAll H (is.map V.int) (is.map PyData.int) []
  | [] => .nil
  | i :: is => .cons (L := []) (.int i) (dq_ints is)
end TW
set_option Elab.async false
set_option linter.all false
set_option maxRecDepth 100000
namespace TW
open PySem PySem.Spec PyProof.Rows L2 TL
theorem Wn_nil (n : Nat) (bs : List Int) : Wn n bs [] = [] := by
  cases n with
  | zero => rfl
  | succ n => exact walkD_nil n bs
section
variable {P : Program} {w : World} {K : PySem.W.Frag} {mg : Str → Option Value} {base : Heap}
end
end TW
set_option Elab.async false
set_option linter.all false
set_option maxRecDepth 100000
namespace TW
open PySem PySem.Spec PyProof.Rows L2 TL
/-! rows depth first, without places -/
def lvlR (W : List PyData → List PyData) (ds : List PyData) : List PyData := ds.flatMap fun d => d :: (W (inner d).1 ++ W (inner d).2)
def rowsD : Nat → List PyData → List PyData
  | 0 => lvlR fun _ => []
  | n + 1 => lvlR (rowsD n)
def Rn : Nat → List PyData → List PyData
  | 0 => fun _ => []
  | n + 1 => rowsD n
theorem rowsD_lvl (n : Nat) : rowsD n = lvlR (Rn n) := by cases n <;> rfl
theorem rowsD_nil (n : Nat) : rowsD n [] = [] := by cases n <;> rfl
theorem Rn_nil (n : Nat) : Rn n [] = [] := by
  cases n with
  | zero => rfl
  | succ n => exact rowsD_nil n
theorem rowsD_append (n : Nat) (a b : List PyData) : rowsD n (a ++ b) = rowsD n a ++ rowsD n b := by
  rw [rowsD_lvl]
  unfold lvlR
  exact List.flatMap_append
theorem rowsD_one (n : Nat) (d : PyData) : rowsD n [d] = d :: (Rn n (inner d).1 ++ Rn n (inner d).2) := by
  rw [rowsD_lvl]
  unfold lvlR
  simp
theorem lvl_rows {W : List Int → List PyData → List (List Int × PyData)} {R : List PyData → List PyData} (h : ∀ b ds, (W b ds).map (·.2) = R ds) (base : List Int) : ∀ (ds : List PyData) (k : Nat),
    ((ds.zipIdx k).flatMap fun p => (base ++ [(p.2 : Int)], p.1) :: (W (base ++ [(p.2 : Int)] ++ [0]) (inner p.1).1 ++ W (base ++ [(p.2 : Int)] ++ [1]) (inner p.1).2)).map (·.2) = lvlR R ds
  | [], _ => rfl
  | d :: ds, k => by
    have ih := lvl_rows h base ds (k + 1)
    rw [List.zipIdx_cons, List.flatMap_cons, List.map_append, ih]
    unfold lvlR
    rw [List.flatMap_cons, List.map_cons, List.map_append, h, h]
theorem walkD_rows : ∀ (n : Nat) (base : List Int) (ds : List PyData), (walkD n base ds).map (·.2) = rowsD n ds
  | 0, base, ds => lvl_rows (fun _ _ => rfl) base ds 0
  | n + 1, base, ds => lvl_rows (walkD_rows n) base ds 0
theorem walkD_len (n : Nat) (base : List Int) (ds : List PyData) : (walkD n base ds).length = (rowsD n ds).length := by
  rw [← walkD_rows n base ds, List.length_map]
/-! the kinds of rows -/
def formsT : List (Str × List Str) := [("move", ["variable", "variable"]), ("none", ["variable"]), ("new", ["variable"]), ("look", ["variable", "variable", "field"]), ("put", ["variable", "field", "variable"]), ("copy", ["variable", "variable", "kind", "depth"]),
  ("watch", ["reader", "variable", "depth"]), ("same", ["variable", "variable", "rows", "rows"]), ("empty", ["variable", "rows", "rows"])]
theorem forms_cases {k : Str} {rs : List Str} (h : formsT.lookup k = some rs) :
    (k = "move" ∧ rs = (["variable", "variable"] : List Str)) ∨ (k = "none" ∧ rs = (["variable"] : List Str)) ∨ (k = "new" ∧ rs = (["variable"] : List Str)) ∨ (k = "look" ∧ rs = (["variable", "variable", "field"] : List Str)) ∨ (k = "put" ∧ rs = (["variable", "field", "variable"] : List Str)) ∨
    (k = "copy" ∧ rs = (["variable", "variable", "kind", "depth"] : List Str)) ∨ (k = "watch" ∧ rs = (["reader", "variable", "depth"] : List Str)) ∨ (k = "same" ∧ rs = (["variable", "variable", "rows", "rows"] : List Str)) ∨ (k = "empty" ∧ rs = (["variable", "rows", "rows"] : List Str)) := by
  have go : ∀ l : List (Str × List Str), l.lookup k = some rs → (k, rs) ∈ l := by
    intro l
    induction l with
    | nil => intro h; cases h
    | cons p l ih =>
      obtain ⟨x, y⟩ := p
      intro h
      rw [List.lookup_cons] at h
      cases e : k == x with
      | true => rw [e] at h; have := eq_of_beq e; subst this; cases h; exact List.mem_cons_self ..
      | false => rw [e] at h; exact List.mem_cons_of_mem _ (ih h)
  have m := go _ h
  simp only [formsT, List.mem_cons, Prod.mk.injEq, List.not_mem_nil, or_false] at m
  exact m
/-- a part of a row in its role -/
inductive PartOk (ws fs : List Str) : Str → PyData → Prop
  | var {x : Str} : x ∈ ws → PartOk ws fs "variable" (.str x)
  | field {x : Str} : x ∈ fs → PartOk ws fs "field" (.str x)
  | kind {x : Str} : (x = "freeze" ∨ x = "thaw") → PartOk ws fs "kind" (.str x)
  | depth {i : Int} : 0 ≤ i → i ≤ 4 → PartOk ws fs "depth" (.int i)
  | reader {x : Str} : IsW x → PartOk ws fs "reader" (.str x)
  | rows {ds : List PyData} : PartOk ws fs "rows" (.list ds)
inductive PartsOk (ws fs : List Str) : List Str → List PyData → Prop
  | nil : PartsOk ws fs [] []
  | cons {r : Str} {rs : List Str} {d : PyData} {ds : List PyData} : PartOk ws fs r d → PartsOk ws fs rs ds → PartsOk ws fs (r :: rs) (d :: ds)
theorem PartsOk.len {ws fs : List Str} : ∀ {rs : List Str} {ds : List PyData}, PartsOk ws fs rs ds → rs.length = ds.length
  | _, _, .nil => rfl
  | _, _, .cons _ h => congrArg (· + 1) (PartsOk.len h)
/-- a row of good names -/
def OkR (ws fs : List Str) (d : PyData) : Prop := ∃ (k : Str) (ps : List PyData) (rs : List Str), d = .tuple (.str k :: ps) ∧ formsT.lookup k = some rs ∧ PartsOk ws fs rs ps
def kindOf : PyData → Str
  | .tuple (.str k :: _) => k
  | _ => ""
def restOf : PyData → List PyData
  | .tuple (.str _ :: r) => r
  | _ => []
def strD : PyData → Str
  | .str x => x
  | _ => ""
def rolesOf (d : PyData) : List Str := (formsT.lookup (kindOf d)).getD []
/-- the variables of the row itself -/
def varsOf (d : PyData) : List Str := ((restOf d).zip (rolesOf d)).filterMap fun p => if p.2 = ("variable" : Str) then some (strD p.1) else none
def readersOf (d : PyData) : List Str := if kindOf d = "watch" then [strD ((restOf d).getD 0 .none)] else []
def copiesOf (d : PyData) : Nat := if kindOf d = "copy" then 1 else 0
def rds (n : Nat) (ds : List PyData) : List Str := (rowsD n ds).flatMap readersOf
def cps (n : Nat) (ds : List PyData) : Nat := ((rowsD n ds).map copiesOf).sum
def cnt' (n : Nat) (ds : List PyData) : Nat := (rowsD n ds).length
theorem rds_append (n : Nat) (a b : List PyData) : rds n (a ++ b) = rds n a ++ rds n b := by
  unfold rds
  rw [rowsD_append, List.flatMap_append]
theorem cps_append (n : Nat) (a b : List PyData) : cps n (a ++ b) = cps n a + cps n b := by
  unfold cps
  rw [rowsD_append, List.map_append, List.sum_append]
theorem cnt_append (n : Nat) (a b : List PyData) : cnt' n (a ++ b) = cnt' n a + cnt' n b := by
  unfold cnt'
  rw [rowsD_append, List.length_append]
theorem vars_parts {ws fs : List Str} : ∀ {rs : List Str} {ps : List PyData}, PartsOk ws fs rs ps → ∀ x ∈ (ps.zip rs).filterMap (fun p => if p.2 = ("variable" : Str) then some (strD p.1) else none), x ∈ ws
  | _, _, .nil, x, m => nomatch m
  | _, _, .cons (r := r) (d := d) h a, x, m => by
    rw [List.zip_cons_cons, List.filterMap_cons] at m
    by_cases e : r = "variable"
    · rw [if_pos e] at m
      rcases List.mem_cons.mp m with m | m
      · cases h with
        | var h => rw [m]; exact h
        | field h => exact absurd e (by decide +kernel)
        | kind h => exact absurd e (by decide +kernel)
        | depth _ _ => exact absurd e (by decide +kernel)
        | reader h => exact absurd e (by decide +kernel)
        | rows => exact absurd e (by decide +kernel)
      · exact vars_parts a x m
    · rw [if_neg e] at m
      exact vars_parts a x m
/-- the variables are words of the program -/
theorem vars_in {ws fs : List Str} {d : PyData} (h : OkR ws fs d) : ∀ x ∈ varsOf d, x ∈ ws := by
  obtain ⟨k, ps, rs, rfl, hl, hp⟩ := h
  have e : varsOf (.tuple (.str k :: ps)) = (ps.zip rs).filterMap (fun p => if p.2 = ("variable" : Str) then some (strD p.1) else none) := by
    unfold varsOf rolesOf
    show (ps.zip ((formsT.lookup k).getD [])).filterMap _ = _
    rw [hl]
    rfl
  rw [e]
  exact vars_parts hp
/-! a list in another one of its own: never -/
mutual
theorem Dq.det {H : Hp} : ∀ {v : V} {d : PyData} {L : List Addr} {d' : PyData} {L' : List Addr}, Dq H v d L → Dq H v d' L' → d = d' ∧ L = L'
  | _, _, _, _, _, .non, h => by cases h; exact ⟨rfl, rfl⟩
  | _, _, _, _, _, .bl b, h => by cases h; exact ⟨rfl, rfl⟩
  | _, _, _, _, _, .int i, h => by cases h; exact ⟨rfl, rfl⟩
  | _, _, _, _, _, .str x, h => by cases h; exact ⟨rfl, rfl⟩
  | _, _, _, _, _, .lst e a, h => by
    cases h with
    | lst e' a' =>
      rw [e] at e'
      cases e'
      obtain ⟨e1, e2⟩ := DqAll.det a a'
      rw [e1, e2]
      exact ⟨rfl, rfl⟩
    | tup e' a' =>
      rw [e] at e'
      cases e'
  | _, _, _, _, _, .tup e a, h => by
    cases h with
    | lst e' a' =>
      rw [e] at e'
      cases e'
    | tup e' a' =>
      rw [e] at e'
      cases e'
      obtain ⟨e1, e2⟩ := DqAll.det a a'
      rw [e1, e2]
      exact ⟨rfl, rfl⟩
theorem DqAll.det {H : Hp} : ∀ {vs : List V} {ds : List PyData} {L : List Addr} {ds' : List PyData} {L' : List Addr}, DqAll H vs ds L → DqAll H vs ds' L' → ds = ds' ∧ L = L'
  | _, _, _, _, _, .nil, h => by cases h; exact ⟨rfl, rfl⟩
  | _, _, _, _, _, .cons q a, h => by
    cases h with
    | cons q' a' =>
      obtain ⟨e1, e2⟩ := Dq.det q q'
      obtain ⟨e3, e4⟩ := DqAll.det a a'
      rw [e1, e2, e3, e4]
      exact ⟨rfl, rfl⟩
end
mutual
theorem Dq.sub {H : Hp} : ∀ {v : V} {d : PyData} {L : List Addr}, Dq H v d L → ∀ b ∈ L, ∃ d' L', Dq H (.ref b) d' L' ∧ sizeOf d' ≤ sizeOf d
  | _, _, _, .lst e a, b, m => by
    rcases List.mem_cons.mp m with rfl | m
    · exact ⟨_, _, .lst e a, Nat.le_refl _⟩
    · obtain ⟨d', L', q, s⟩ := DqAll.sub a b m
      exact ⟨d', L', q, by simp only [PyData.list.sizeOf_spec]; omega⟩
  | _, _, _, .tup e a, b, m => by
    obtain ⟨d', L', q, s⟩ := DqAll.sub a b m
    exact ⟨d', L', q, by simp only [PyData.tuple.sizeOf_spec]; omega⟩
theorem DqAll.sub {H : Hp} : ∀ {vs : List V} {ds : List PyData} {L : List Addr}, DqAll H vs ds L → ∀ b ∈ L, ∃ d' L', Dq H (.ref b) d' L' ∧ sizeOf d' ≤ sizeOf ds
  | _, _, _, .cons q a, b, m => by
    rcases List.mem_append.mp m with m | m
    · obtain ⟨d', L', q', s⟩ := Dq.sub q b m
      exact ⟨d', L', q', by simp only [List.cons.sizeOf_spec]; omega⟩
    · obtain ⟨d', L', q', s⟩ := DqAll.sub a b m
      exact ⟨d', L', q', by simp only [List.cons.sizeOf_spec]; omega⟩
end
theorem Dq.own {H : Hp} {a : Addr} {ds : List PyData} {M : List Addr} (h : Dq H (.ref a) (.list ds) M) : ∃ L, M = a :: L ∧ a ∉ L ∧ ∃ xs, H a = some (.lst xs) ∧ DqAll H xs ds L := by
  cases h with
  | @lst _ xs _ L e da =>
    refine ⟨L, rfl, fun m => ?_, xs, e, da⟩
    obtain ⟨d', L', q, s⟩ := DqAll.sub da a m
    obtain ⟨e1, _⟩ := Dq.det q (.lst e da)
    rw [e1] at s
    simp only [PyData.list.sizeOf_spec] at s
    omega
end TW
set_option Elab.async false
set_option linter.all false
set_option maxRecDepth 100000
namespace TW
open PySem PySem.Spec PyProof.Rows L2 TL
/-- the room of a law: rows and copies left, readers left, variables met -/
structure RoomAt (H : Hp) (ro rr rn : Addr) (k cc : Nat) (rs ns : List Str) : Prop where
  o : H ro = some (.lst [.int (k : Int), .int (cc : Int), .ref rr, .ref rn])
  r : H rr = some (.lst (rs.map V.str))
  n : H rn = some (.lst (ns.map V.str))
structure Sep (p c a f ro rr rn : Addr) : Prop where
  a : a ≠ p ∧ a ≠ c ∧ a ≠ ro ∧ a ≠ rr ∧ a ≠ rn
  f : f ≠ p ∧ f ≠ c ∧ f ≠ ro ∧ f ≠ rr ∧ f ≠ rn
  o : ro ≠ p ∧ ro ≠ c
  r : rr ≠ p ∧ rr ≠ c ∧ rr ≠ ro
  n : rn ≠ p ∧ rn ≠ c ∧ rn ≠ ro ∧ rn ≠ rr
/-- all but the pool and the room stays -/
def FrR (p c ro rr rn : Addr) (H H' : Hp) : Prop := ∀ b o, b ≠ p → b ≠ c → b ≠ ro → b ≠ rr → b ≠ rn → H b = some o → H' b = some o
/-- where a law stands that draws rows -/
structure RSt (p c a f ro rr rn : Addr) (ws fs : List Str) (k cc : Nat) (rs ns : List Str) (H0 H : Hp) : Prop where
  S : Sep p c a f ro rr rn
  P : Pool p c H
  A : H a = some (.lst (ws.map V.str))
  F : H f = some (.lst (fs.map V.str))
  R : RoomAt H ro rr rn k cc rs ns
  fr : FrR p c ro rr rn H0 H
section
variable {p c a f ro rr rn : Addr} {ws fs : List Str} {k cc : Nat} {rs ns : List Str} {H0 H H' : Hp}
theorem RSt.drawn (T : RSt p c a f ro rr rn ws fs k cc rs ns H0 H) (P' : Pool p c H') (g : Fr p c H H') : RSt p c a f ro rr rn ws fs k cc rs ns H0 H' :=
  ⟨T.S, P', g _ _ T.S.a.1 T.S.a.2.1 T.A, g _ _ T.S.f.1 T.S.f.2.1 T.F, ⟨g _ _ T.S.o.1 T.S.o.2 T.R.o, g _ _ T.S.r.1 T.S.r.2.1 T.R.r, g _ _ T.S.n.1 T.S.n.2.1 T.R.n⟩, fun b o h1 h2 h3 h4 h5 e => g _ _ h1 h2 (T.fr b o h1 h2 h3 h4 h5 e)⟩
theorem RSt.same (T : RSt p c a f ro rr rn ws fs k cc rs ns H0 H) (s : Same H H') : RSt p c a f ro rr rn ws fs k cc rs ns H0 H' := T.drawn (T.P.same s) (.of_same s)
theorem RSt.new (T : RSt p c a f ro rr rn ws fs k cc rs ns H0 H) {q : Addr} {o : HO} (hq : H q = none) : RSt p c a f ro rr rn ws fs k cc rs ns H0 (upd H q o) := T.same (same_new hq)
theorem RSt.setN (T : RSt p c a f ro rr rn ws fs k cc rs ns H0 H) (ns' : List Str) : RSt p c a f ro rr rn ws fs k cc rs ns' H0 (upd H rn (.lst (ns'.map V.str))) :=
  ⟨T.S, T.P.upd2 ⟨T.S.n.1, T.S.n.2.1⟩ _, (upd_ne T.S.a.2.2.2.2).trans T.A, (upd_ne T.S.f.2.2.2.2).trans T.F, ⟨(upd_ne T.S.n.2.2.1.symm).trans T.R.o, (upd_ne T.S.n.2.2.2.symm).trans T.R.r, upd_same⟩, fun b o h1 h2 h3 h4 h5 e => (upd_ne h5).trans (T.fr b o h1 h2 h3 h4 h5 e)⟩
theorem RSt.setR (T : RSt p c a f ro rr rn ws fs k cc rs ns H0 H) (rs' : List Str) : RSt p c a f ro rr rn ws fs k cc rs' ns H0 (upd H rr (.lst (rs'.map V.str))) :=
  ⟨T.S, T.P.upd2 ⟨T.S.r.1, T.S.r.2.1⟩ _, (upd_ne T.S.a.2.2.2.1).trans T.A, (upd_ne T.S.f.2.2.2.1).trans T.F, ⟨(upd_ne T.S.r.2.2.symm).trans T.R.o, upd_same, (upd_ne T.S.n.2.2.2).trans T.R.n⟩, fun b o h1 h2 h3 h4 h5 e => (upd_ne h4).trans (T.fr b o h1 h2 h3 h4 h5 e)⟩
theorem RSt.setO (T : RSt p c a f ro rr rn ws fs k cc rs ns H0 H) (k' cc' : Nat) : RSt p c a f ro rr rn ws fs k' cc' rs ns H0 (upd H ro (.lst [.int (k' : Int), .int (cc' : Int), .ref rr, .ref rn])) :=
  ⟨T.S, T.P.upd2 T.S.o _, (upd_ne T.S.a.2.2.1).trans T.A, (upd_ne T.S.f.2.2.1).trans T.F, ⟨upd_same, (upd_ne T.S.r.2.2).trans T.R.r, (upd_ne T.S.n.2.2.1).trans T.R.n⟩, fun b o h1 h2 h3 h4 h5 e => (upd_ne h3).trans (T.fr b o h1 h2 h3 h4 h5 e)⟩
/-- what is new is none of these -/
theorem RSt.off (T : RSt p c a f ro rr rn ws fs k cc rs ns H0 H) {q : Addr} (hq : H q = none) : q ≠ p ∧ q ≠ c ∧ q ≠ ro ∧ q ≠ rr ∧ q ≠ rn :=
  ⟨(T.P.np hq).1, (T.P.np hq).2, (ne_of_none T.R.o hq).symm, (ne_of_none T.R.r hq).symm, (ne_of_none T.R.n hq).symm⟩
end
theorem FrR.refl (p c ro rr rn : Addr) (H : Hp) : FrR p c ro rr rn H H := fun _ _ _ _ _ _ _ e => e
theorem FrR.trans {p c ro rr rn : Addr} {H H1 H2 : Hp} (x : FrR p c ro rr rn H H1) (y : FrR p c ro rr rn H1 H2) : FrR p c ro rr rn H H2 := fun b o h1 h2 h3 h4 h5 e => y b o h1 h2 h3 h4 h5 (x b o h1 h2 h3 h4 h5 e)
/-- a plain row that is drawn -/
def spPlain : Sp := fun vs H Q _ => ∃ (p c a f ro rr rn : Addr) (ws fs : List Str) (k cc : Nat) (rs ns : List Str), vs = [.ref p, .ref a, .ref f, .ref ro] ∧ RSt p c a f ro rr rn ws fs k cc rs ns H H ∧ ws ≠ [] ∧ fs ≠ [] ∧ ws.length ≤ 100 ∧ fs.length ≤ 100 ∧ (∀ x ∈ ns, x ∈ ws) ∧ ns.length ≤ 100 ∧ (∀ x ∈ rs, IsW x) ∧ rs.length ≤ 100 ∧ ns ≠ [] ∧
  ∀ (b : Addr) (d : PyData) (cc' : Nat) (rs' ns' : List Str) (H' : Hp), H b = none → Dq H' (.ref b) d [] → OkR ws fs d → (∀ n, RowD n d) → copiesOf d + cc' = cc → rs = rs' ++ readersOf d → (∀ x ∈ ns', x ∈ ws) → ns'.length ≤ ns.length + 1 → ns' ≠ [] →
    RSt p c a f ro rr rn ws fs k cc' rs' ns' H H' → Q (.ref b) H'
theorem mem_reps {ns : List Str} {x : Str} {m : Nat} {i : Nat} {v : V} {ws : List Str} (h : ∀ y ∈ ns, y ∈ ws) (hx : x ∈ ws) (e : ((List.replicate m (ns.map V.str)).flatten ++ [V.str x])[i]? = some v) : ∃ y, v = .str y ∧ y ∈ ws := by
  have m1 := List.mem_of_getElem? e
  rcases List.mem_append.mp m1 with m1 | m1
  · obtain ⟨l, hl, hv⟩ := List.mem_flatten.mp m1
    rw [List.eq_of_mem_replicate hl] at hv
    obtain ⟨y, hy, rfl⟩ := List.mem_map.mp hv
    exact ⟨y, rfl, h y hy⟩
  · exact ⟨x, List.mem_singleton.mp m1, hx⟩
theorem mem_strs {ws : List Str} {v : V} {i : Nat} (e : (ws.map V.str)[i]? = some v) : ∃ y, v = .str y ∧ y ∈ ws := by
  obtain ⟨y, hy, rfl⟩ := List.mem_map.mp (List.mem_of_getElem? e)
  exact ⟨y, rfl, hy⟩
theorem flat_ok {ws fs : List Str} {r : Str} {d : PyData} (h : PartOk ws fs r d) (n : r ≠ "rows") : FlatD d := by
  cases h with
  | var _ => exact .str _
  | field _ => exact .str _
  | kind _ => exact .str _
  | depth _ _ => exact .int _
  | reader _ => exact .str _
  | rows => exact absurd rfl n
/-- data of a plain row: words and numbers -/
def plD : List V → List PyData
  | [] => []
  | .str x :: r => .str x :: plD r
  | .int i :: r => .int i :: plD r
  | _ :: r => .none :: plD r
section
variable {P : Program} {w : World} {K : PySem.W.Frag} {mg : Str → Option Value} {base : Heap}
end
end TW
set_option Elab.async false
set_option linter.all false
set_option maxRecDepth 100000
namespace TW
open PySem PySem.Spec PyProof.Rows L2 TL
section
variable {p c a f ro rr rn : Addr} {ws fs : List Str} {k cc k2 cc2 : Nat} {rs ns rs2 ns2 : List Str} {H0 H H' : Hp}
theorem RSt.trans (T : RSt p c a f ro rr rn ws fs k cc rs ns H0 H) (T2 : RSt p c a f ro rr rn ws fs k2 cc2 rs2 ns2 H H') : RSt p c a f ro rr rn ws fs k2 cc2 rs2 ns2 H0 H' :=
  ⟨T.S, T2.P, T2.A, T2.F, T2.R, T.fr.trans T2.fr⟩
theorem RSt.here (T : RSt p c a f ro rr rn ws fs k cc rs ns H0 H) : RSt p c a f ro rr rn ws fs k cc rs ns H H := ⟨T.S, T.P, T.A, T.F, T.R, FrR.refl _ _ _ _ _ _⟩
/-- what is written to is new -/
theorem RSt.updN (T : RSt p c a f ro rr rn ws fs k cc rs ns H0 H) {q : Addr} {o : HO} (h0 : H0 q = none) (off : q ≠ p ∧ q ≠ c ∧ q ≠ ro ∧ q ≠ rr ∧ q ≠ rn) (qa : q ≠ a) (qf : q ≠ f) : RSt p c a f ro rr rn ws fs k cc rs ns H0 (upd H q o) :=
  ⟨T.S, T.P.upd2 ⟨off.1, off.2.1⟩ _, (upd_ne qa.symm).trans T.A, (upd_ne qf.symm).trans T.F, ⟨(upd_ne off.2.2.1.symm).trans T.R.o, (upd_ne off.2.2.2.1.symm).trans T.R.r, (upd_ne off.2.2.2.2.symm).trans T.R.n⟩, fun b o h1 h2 h3 h4 h5 e => (upd_ne (ne_of_none e h0)).trans (T.fr b o h1 h2 h3 h4 h5 e)⟩
/-- tuples, and lists that are none of these, stay -/
theorem RSt.keepL (T : RSt p c a f ro rr rn ws fs k cc rs ns H0 H) (g : FrR p c ro rr rn H H') {M : List Addr} (h : ∀ x ∈ M, ∃ xs, H x = some (.lst xs)) (off : ∀ x ∈ M, x ≠ p ∧ x ≠ c ∧ x ≠ ro ∧ x ≠ rr ∧ x ≠ rn) : KeepL M H H' := by
  obtain ⟨xs, a', n', e1, e2, _⟩ := T.P.ex
  refine ⟨fun b m => ?_, fun b us e => g _ _ ?_ ?_ ?_ ?_ ?_ e⟩
  · obtain ⟨us, e⟩ := h b m
    obtain ⟨h1, h2, h3, h4, h5⟩ := off b m
    rw [e, g _ _ h1 h2 h3 h4 h5 e]
  · exact fun z => by rw [z, e1] at e; cases e
  · exact fun z => by rw [z, e2] at e; cases e
  · exact fun z => by rw [z, T.R.o] at e; cases e
  · exact fun z => by rw [z, T.R.r] at e; cases e
  · exact fun z => by rw [z, T.R.n] at e; cases e
theorem RSt.free (T : RSt p c a f ro rr rn ws fs k cc rs ns H0 H) (Th : RSt p c a f ro rr rn ws fs k2 cc2 rs2 ns2 H0 H0) {q : Addr} (hq : H q = none) : H0 q = none := by
  cases e : H0 q with
  | none => rfl
  | some o =>
    obtain ⟨z1, z2, z3, z4, z5⟩ := T.off hq
    have := T.fr _ _ z1 z2 z3 z4 z5 e
    rw [hq] at this
    cases this
end
/-- rows that are drawn, with n levels inside -/
def spRows (n : Nat) : Sp := fun vs H Q _ => ∃ (p c a f ro rr rn : Addr) (ws fs : List Str) (k cc : Nat) (rs ns : List Str) (most : Nat), vs = [.ref p, .ref a, .ref f, .ref ro, .int (4 - (n : Int)), .int (most : Int)] ∧ RSt p c a f ro rr rn ws fs k cc rs ns H H ∧ most ≤ 20 ∧ n ≤ 3 ∧
  ws ≠ [] ∧ fs ≠ [] ∧ ws.length ≤ 100 ∧ fs.length ≤ 100 ∧ (∀ x ∈ ns, x ∈ ws) ∧ ns.length + k ≤ 60 ∧ (∀ x ∈ rs, IsW x) ∧ rs.length ≤ 100 ∧ ns ≠ [] ∧
  ∀ (b : Addr) (ds : List PyData) (M : List Addr) (k' cc' : Nat) (rs' ns' : List Str) (H' : Hp), H b = none → Dq H' (.ref b) (.list ds) M → (∀ x ∈ M, H x = none) → (∀ d ∈ ds, RowD n d) → ds.length ≤ most → (∀ d ∈ rowsD n ds, OkR ws fs d) →
    cnt' n ds + k' = k → cps n ds + cc' = cc → rs = rs' ++ (rds n ds).reverse → (∀ x ∈ ns', x ∈ ws) → ns'.length + k' ≤ ns.length + k → ns' ≠ [] → RSt p c a f ro rr rn ws fs k' cc' rs' ns' H H' → Q (.ref b) H'
def spRInner : Nat → Sp
  | 0 => fun _ _ _ _ => False
  | n + 1 => spRows n
/-- rows drawn so far -/
structure RInv (n : Nat) (p c a f ro rr rn R : Addr) (ws fs : List Str) (k cc : Nat) (rs ns : List Str) (H : Hp) (i : Nat) (ys : List V) (ds : List PyData) (M : List Addr) (k' cc' : Nat) (rs' ns' : List Str) (H2 : Hp) : Prop where
  iT : RSt p c a f ro rr rn ws fs k' cc' rs' ns' H H2
  iL : H2 R = some (.lst ys)
  iD : DqAll H2 ys ds M
  iM : ∀ x ∈ M, H x = none ∧ x ≠ R
  iR : ∀ d ∈ ds, RowD n d
  iN : ds.length ≤ i
  iO : ∀ d ∈ rowsD n ds, OkR ws fs d
  iK : cnt' n ds + k' = k
  iC : cps n ds + cc' = cc
  iS : rs = rs' ++ (rds n ds).reverse
  iW : ∀ x ∈ ns', x ∈ ws
  iB : ns'.length + k' ≤ ns.length + k
  iE : ns' ≠ []
theorem RInv.skip {n : Nat} {p c a f ro rr rn R : Addr} {ws fs : List Str} {k cc : Nat} {rs ns : List Str} {H : Hp} {i : Nat} {ys : List V} {ds : List PyData} {M : List Addr} {k' cc' : Nat} {rs' ns' : List Str} {H2 : Hp}
    (I : RInv n p c a f ro rr rn R ws fs k cc rs ns H i ys ds M k' cc' rs' ns' H2) : RInv n p c a f ro rr rn R ws fs k cc rs ns H (i + 1) ys ds M k' cc' rs' ns' H2 := { I with iN := Nat.le_succ_of_le I.iN }
theorem RInv.add {n : Nat} {p c a f ro rr rn R : Addr} {ws fs : List Str} {k cc : Nat} {rs ns : List Str} {H : Hp} {i : Nat} {ys : List V} {ds : List PyData} {M : List Addr} {k' cc' : Nat} {rs' ns' : List Str} {H2 : Hp}
    (I : RInv n p c a f ro rr rn R ws fs k cc rs ns H i ys ds M k' cc' rs' ns' H2) (hR : H R = none) (hRoff : R ≠ p ∧ R ≠ c ∧ R ≠ ro ∧ R ≠ rr ∧ R ≠ rn) (Ra : R ≠ a) (Rf : R ≠ f) {G : Hp} {v : V} {d : PyData} {N : List Addr} {k9 cc9 : Nat} {rs9 ns9 : List Str}
    (T9 : RSt p c a f ro rr rn ws fs k9 cc9 rs9 ns9 H2 G) (hq : Dq G v d N) (hN : ∀ x ∈ N, H x = none ∧ x ≠ R) (hr : RowD n d) (ho : ∀ e ∈ rowsD n [d], OkR ws fs e) (h1 : cnt' n [d] + k9 = k') (h2 : cps n [d] + cc9 = cc') (h3 : rs' = rs9 ++ (rds n [d]).reverse)
    (h4 : ∀ x ∈ ns9, x ∈ ws) (h5 : ns9.length + k9 ≤ ns'.length + k') (h6 : ns9 ≠ []) (off : ∀ x ∈ M, x ≠ p ∧ x ≠ c ∧ x ≠ ro ∧ x ≠ rr ∧ x ≠ rn) :
    RInv n p c a f ro rr rn R ws fs k cc rs ns H (i + 1) (ys ++ [v]) (ds ++ [d]) (M ++ N) k9 cc9 rs9 ns9 (upd G R (.lst (ys ++ [v]))) := by
  have hRG : G R = some (.lst ys) := T9.fr _ _ hRoff.1 hRoff.2.1 hRoff.2.2.1 hRoff.2.2.2.1 hRoff.2.2.2.2 I.iL
  have kp : ∀ {X : List Addr}, (∀ x ∈ X, H x = none ∧ x ≠ R) → KeepL X G (upd G R (.lst (ys ++ [v]))) := fun h => ⟨fun b m => upd_ne (h b m).2, fun b us e => (upd_ne (fun z : b = R => by rw [z, hRG] at e; cases e)).trans e⟩
  refine ⟨(I.iT.trans T9).updN hR hRoff Ra Rf, upd_same, ?_, fun x m => (List.mem_append.mp m).elim (I.iM x) (hN x), fun e m => (List.mem_append.mp m).elim (I.iR e) (fun m => by rw [List.mem_singleton.mp m]; exact hr), ?_, ?_, ?_, ?_, ?_, h4, Nat.le_trans h5 I.iB, h6⟩
  · exact ((I.iD.keep (I.iT.keepL T9.fr I.iD.there off)).keep (kp I.iM)).snoc (hq.keep (kp hN))
  · rw [List.length_append]
    exact Nat.succ_le_succ I.iN
  · intro e m
    rw [rowsD_append] at m
    exact (List.mem_append.mp m).elim (I.iO e) (ho e)
  · rw [cnt_append]
    have := I.iK
    omega
  · rw [cps_append]
    have := I.iC
    omega
  · rw [rds_append, List.reverse_append, ← List.append_assoc, ← h3]
    exact I.iS
theorem PartsOk.app {ws fs : List Str} : ∀ {rs us : List Str} {ds es : List PyData}, PartsOk ws fs rs ds → PartsOk ws fs us es → PartsOk ws fs (rs ++ us) (ds ++ es)
  | _, _, _, _, .nil, b => b
  | _, _, _, _, .cons h a, b => .cons h (a.app b)
theorem PartsOk.flat {ws fs : List Str} : ∀ {rs : List Str} {ds : List PyData}, PartsOk ws fs rs ds → ("rows" : Str) ∉ rs → ∀ d ∈ ds, FlatD d
  | _, _, .nil, _, d, m => nomatch m
  | _, _, .cons h a, n, d, m => by
    rcases List.mem_cons.mp m with rfl | m
    · exact flat_ok h fun z => n (by rw [z]; exact List.mem_cons_self ..)
    · exact a.flat (fun z => n (List.mem_cons_of_mem _ z)) d m
theorem rows_br {n : Nat} {d : PyData} {as bs : List PyData} (h : inner d = (as, bs)) : rowsD (n + 1) [d] = d :: (rowsD n as ++ rowsD n bs) := by
  rw [rowsD_one, h]
  rfl
theorem br_nums {n : Nat} {d : PyData} {as bs : List PyData} (h : inner d = (as, bs)) (c0 : copiesOf d = 0) (r0 : readersOf d = []) : cnt' (n + 1) [d] = 1 + cnt' n as + cnt' n bs ∧ cps (n + 1) [d] = cps n as + cps n bs ∧ rds (n + 1) [d] = rds n as ++ rds n bs := by
  refine ⟨?_, ?_, ?_⟩
  · unfold cnt'
    rw [rows_br h, List.length_cons, List.length_append]
    omega
  · unfold cps
    rw [rows_br h, List.map_cons, List.sum_cons, List.map_append, List.sum_append, c0]
    omega
  · unfold rds
    rw [rows_br h, List.flatMap_cons, List.flatMap_append, r0]
    rfl
theorem pl_nums {n : Nat} {d : PyData} (h : inner d = ([], [])) : rowsD n [d] = [d] ∧ cnt' n [d] = 1 ∧ cps n [d] = copiesOf d ∧ rds n [d] = readersOf d := by
  have e : rowsD n [d] = [d] := by
    rw [rowsD_one, h]
    show d :: (Rn n [] ++ Rn n []) = [d]
    rw [Rn_nil]
    rfl
  refine ⟨e, ?_, ?_, ?_⟩
  · unfold cnt'
    rw [e]
    rfl
  · unfold cps
    rw [e]
    show copiesOf d + 0 = _
    omega
  · unfold rds
    rw [e]
    show readersOf d ++ [] = _
    rw [List.append_nil]
theorem readers_short (d : PyData) : (readersOf d).reverse = readersOf d := by
  unfold readersOf
  split <;> rfl
section
variable {P : Program} {w : World} {K : PySem.W.Frag} {mg : Str → Option Value} {base : Heap}
end
end TW
set_option Elab.async false
set_option linter.all false
set_option maxRecDepth 100000
namespace TW
open PySem PySem.Spec PyProof.Rows L2 TL
theorem ix_listK {X : Cx} {K : PySem.W.Frag} (h : X.K = K) : IxR X (rIxL K) := h ▸ ix_list
theorem ix_tupK {X : Cx} {K : PySem.W.Frag} (h : X.K = K) : IxR X (rIxT K) := h ▸ ix_tup
theorem ix_seqK {X : Cx} {K : PySem.W.Frag} (h : X.K = K) : IxR X (rIx K) := h ▸ ix_seq
theorem pi_listK {X : Cx} {K : PySem.W.Frag} {tg l : Expr} {tl : TE} (h : X.K = K) (hl : PE X l tl) : PI X tg l (iList K tl) := h ▸ pi_list hl
theorem pi_tupK {X : Cx} {K : PySem.W.Frag} {tg l : Expr} {tl : TE} (h : X.K = K) (hl : PE X l tl) : PI X tg l (iTup K tl) := h ▸ pi_tup hl
theorem sl_listK {X : Cx} {K : PySem.W.Frag} (h : X.K = K) : SlR X (rSlL K) := h ▸ sl_list
theorem op_in_seqK {X : Cx} {K : PySem.W.Frag} (h : X.K = K) : OpR X (compareOp .In) (rIn K false) := h ▸ op_in_seq
theorem op_notIn_seqK {X : Cx} {K : PySem.W.Frag} (h : X.K = K) : OpR X (compareOp .NotIn) (rIn K true) := h ▸ op_notIn_seq
theorem call_isiK {X : Cx} {K : PySem.W.Frag} (h : X.K = K) : CallR X (.builtin "isinstance") (rIsi K) := h ▸ call_isi
end TW
set_option Elab.async false
set_option linter.all false
set_option maxRecDepth 100000
namespace TW
open PySem PySem.Spec PyProof.Rows L2 TL
theorem vars_eq {k : Str} {ps : List PyData} {rs : List Str} (hl : formsT.lookup k = some rs) : varsOf (.tuple (.str k :: ps)) = (ps.zip rs).filterMap (fun p => if p.2 = ("variable" : Str) then some (strD p.1) else none) := by
  unfold varsOf rolesOf
  show (ps.zip ((formsT.lookup k).getD [])).filterMap _ = _
  rw [hl]
  rfl
def kindsA : List Str := ["move", "look", "copy", "same"]
/-- what the law takes for the variables of a row -/
def nm1 (k : Str) (us : List V) : List V := if k ∈ kindsA then [us.getD 0 .non, us.getD 1 .non] else [us.getD 0 .non]
def nm2 (k : Str) (us : List V) : List V := if k = "put" then [us.getD 0 .non, us.getD 2 .non] else nm1 k us
def nm3 (k : Str) (us : List V) : List V := if k = "watch" then [us.getD 1 .non] else nm2 k us
theorem nv1 : ¬ (("field" : Str) = "variable") := by decide +kernel
theorem nv2 : ¬ (("kind" : Str) = "variable") := by decide +kernel
theorem nv3 : ¬ (("depth" : Str) = "variable") := by decide +kernel
theorem nv4 : ¬ (("reader" : Str) = "variable") := by decide +kernel
theorem nv5 : ¬ (("rows" : Str) = "variable") := by decide +kernel
theorem part_v {ws fs : List Str} {H : Hp} {r : Str} {d : PyData} {v : V} {L : List Addr} (h : PartOk ws fs r d) (q : Dq H v d L) (e : r = "variable") : v = .str (strD d) := by
  cases h with
  | var h => cases q; rfl
  | field h => exact absurd e nv1
  | kind h => exact absurd e nv2
  | depth _ _ => exact absurd e nv3
  | reader h => exact absurd e nv4
  | rows => exact absurd e nv5
theorem fv1 {d : PyData} {r : List (PyData × Str)} : ((d, ("variable" : Str)) :: r).filterMap (fun p => if p.2 = ("variable" : Str) then some (strD p.1) else none) = strD d :: r.filterMap (fun p => if p.2 = ("variable" : Str) then some (strD p.1) else none) := by
  rw [List.filterMap_cons]
  rfl
theorem fvN {d : PyData} {z : Str} {r : List (PyData × Str)} (h : ¬ z = ("variable" : Str)) : ((d, z) :: r).filterMap (fun p => if p.2 = ("variable" : Str) then some (strD p.1) else none) = r.filterMap (fun p => if p.2 = ("variable" : Str) then some (strD p.1) else none) := by
  rw [List.filterMap_cons, if_neg h]
theorem nm3_A {k : Str} {us : List V} (h1 : ¬ k = "watch") (h2 : ¬ k = "put") (h3 : k ∈ kindsA) : nm3 k us = [us.getD 0 .non, us.getD 1 .non] := by
  unfold nm3 nm2 nm1
  rw [if_neg h1, if_neg h2, if_pos h3]
theorem nm3_1 {k : Str} {us : List V} (h1 : ¬ k = "watch") (h2 : ¬ k = "put") (h3 : ¬ k ∈ kindsA) : nm3 k us = [us.getD 0 .non] := by
  unfold nm3 nm2 nm1
  rw [if_neg h1, if_neg h2, if_neg h3]
theorem row_named {ws fs : List Str} {H : Hp} {v : V} {d : PyData} {L : List Addr} (ok : OkR ws fs d) (hq : Dq H v d L) : ∃ (r : Addr) (k : Str) (us : List V), v = .ref r ∧ H r = some (.tup (.str k :: us)) ∧ 0 < us.length ∧ (k ∈ kindsA → 1 < us.length) ∧ (k = "put" → 2 < us.length) ∧ (k = "watch" → 1 < us.length) ∧
    nm3 k us = (varsOf d).map V.str := by
  obtain ⟨k, ps, rs, rfl, hl, hp⟩ := ok
  rw [vars_eq hl]
  cases hq with
  | @tup r vs _ _ hr dv =>
  cases dv with
  | @cons v0 us _ _ L0 M0 hv0 du =>
  cases hv0 with
  | str _ =>
  refine ⟨r, k, us, rfl, hr, ?_⟩
  have no : ∀ {p q : Prop}, ¬ p → p → q := fun n h => absurd h n
  rcases forms_cases hl with ⟨rfl, rfl⟩ | ⟨rfl, rfl⟩ | ⟨rfl, rfl⟩ | ⟨rfl, rfl⟩ | ⟨rfl, rfl⟩ | ⟨rfl, rfl⟩ | ⟨rfl, rfl⟩ | ⟨rfl, rfl⟩ | ⟨rfl, rfl⟩
  · obtain _ | ⟨p1, _ | ⟨p2, _ | _⟩⟩ := hp
    obtain _ | ⟨q1, _ | ⟨q2, _ | _⟩⟩ := du
    refine ⟨by simp, fun _ => by simp, no (by decide +kernel), no (by decide +kernel), ?_⟩
    rw [nm3_A (by decide +kernel) (by decide +kernel) (by decide +kernel), List.zip_cons_cons, List.zip_cons_cons, fv1, fv1]
    rw [part_v p1 q1 rfl, part_v p2 q2 rfl]
    rfl
  · obtain _ | ⟨p1, _ | _⟩ := hp
    obtain _ | ⟨q1, _ | _⟩ := du
    refine ⟨by simp, no (by decide +kernel), no (by decide +kernel), no (by decide +kernel), ?_⟩
    rw [nm3_1 (by decide +kernel) (by decide +kernel) (by decide +kernel), List.zip_cons_cons, fv1, part_v p1 q1 rfl]
    rfl
  · obtain _ | ⟨p1, _ | _⟩ := hp
    obtain _ | ⟨q1, _ | _⟩ := du
    refine ⟨by simp, no (by decide +kernel), no (by decide +kernel), no (by decide +kernel), ?_⟩
    rw [nm3_1 (by decide +kernel) (by decide +kernel) (by decide +kernel), List.zip_cons_cons, fv1, part_v p1 q1 rfl]
    rfl
  · obtain _ | ⟨p1, _ | ⟨p2, _ | ⟨p3, _ | _⟩⟩⟩ := hp
    obtain _ | ⟨q1, _ | ⟨q2, _ | ⟨q3, _ | _⟩⟩⟩ := du
    refine ⟨by simp, fun _ => by simp, no (by decide +kernel), no (by decide +kernel), ?_⟩
    rw [nm3_A (by decide +kernel) (by decide +kernel) (by decide +kernel), List.zip_cons_cons, List.zip_cons_cons, List.zip_cons_cons, fv1, fv1, fvN nv1, part_v p1 q1 rfl, part_v p2 q2 rfl]
    rfl
  · obtain _ | ⟨p1, _ | ⟨p2, _ | ⟨p3, _ | _⟩⟩⟩ := hp
    obtain _ | ⟨q1, _ | ⟨q2, _ | ⟨q3, _ | _⟩⟩⟩ := du
    refine ⟨by simp, no (by decide +kernel), fun _ => by simp, no (by decide +kernel), ?_⟩
    unfold nm3 nm2
    rw [if_neg (by decide +kernel), if_pos rfl, List.zip_cons_cons, List.zip_cons_cons, List.zip_cons_cons, fv1, fvN nv1, fv1, part_v p1 q1 rfl, part_v p3 q3 rfl]
    rfl
  · obtain _ | ⟨p1, _ | ⟨p2, _ | ⟨p3, _ | ⟨p4, _ | _⟩⟩⟩⟩ := hp
    obtain _ | ⟨q1, _ | ⟨q2, _ | ⟨q3, _ | ⟨q4, _ | _⟩⟩⟩⟩ := du
    refine ⟨by simp, fun _ => by simp, no (by decide +kernel), no (by decide +kernel), ?_⟩
    rw [nm3_A (by decide +kernel) (by decide +kernel) (by decide +kernel), List.zip_cons_cons, List.zip_cons_cons, List.zip_cons_cons, List.zip_cons_cons, fv1, fv1, fvN nv2, fvN nv3, part_v p1 q1 rfl, part_v p2 q2 rfl]
    rfl
  · obtain _ | ⟨p1, _ | ⟨p2, _ | ⟨p3, _ | _⟩⟩⟩ := hp
    obtain _ | ⟨q1, _ | ⟨q2, _ | ⟨q3, _ | _⟩⟩⟩ := du
    refine ⟨by simp, fun _ => by simp, no (by decide +kernel), fun _ => by simp, ?_⟩
    unfold nm3
    rw [if_pos rfl, List.zip_cons_cons, List.zip_cons_cons, List.zip_cons_cons, fvN nv4, fv1, fvN nv3, part_v p2 q2 rfl]
    rfl
  · obtain _ | ⟨p1, _ | ⟨p2, _ | ⟨p3, _ | ⟨p4, _ | _⟩⟩⟩⟩ := hp
    obtain _ | ⟨q1, _ | ⟨q2, _ | ⟨q3, _ | ⟨q4, _ | _⟩⟩⟩⟩ := du
    refine ⟨by simp, fun _ => by simp, no (by decide +kernel), no (by decide +kernel), ?_⟩
    rw [nm3_A (by decide +kernel) (by decide +kernel) (by decide +kernel), List.zip_cons_cons, List.zip_cons_cons, List.zip_cons_cons, List.zip_cons_cons, fv1, fv1, fvN nv5, fvN nv5, part_v p1 q1 rfl, part_v p2 q2 rfl]
    rfl
  · obtain _ | ⟨p1, _ | ⟨p2, _ | ⟨p3, _ | _⟩⟩⟩ := hp
    obtain _ | ⟨q1, _ | ⟨q2, _ | ⟨q3, _ | _⟩⟩⟩ := du
    refine ⟨by simp, no (by decide +kernel), no (by decide +kernel), no (by decide +kernel), ?_⟩
    rw [nm3_1 (by decide +kernel) (by decide +kernel) (by decide +kernel), List.zip_cons_cons, List.zip_cons_cons, List.zip_cons_cons, fv1, fvN nv5, fvN nv5, part_v p1 q1 rfl]
    rfl
/-- each once, where it stands first -/
def dedupF (l : List Str) : List Str := (List.range l.length).filterMap fun k => match l[k]? with
  | some x => if x ∈ l.take k then none else some x
  | none => none
def spVars (K : PySem.W.Frag) : Sp := fun vs H Q _ => ∃ (n : Nat) (i a o : Addr) (is os ws fs : List Str) (ds : List PyData) (L : List Addr), vs = [.ref i, .ref a, .ref o] ∧ H i = some (.lst (is.map V.str)) ∧ H o = some (.lst (os.map V.str)) ∧ Dq H (.ref a) (.list ds) L ∧ (∀ d ∈ ds, RowD n d) ∧ n ≤ 3 ∧ ds.length ≤ 100 ∧
  (∀ d ∈ rowsD n ds, OkR ws fs d) ∧ (rowsD n ds).length ≤ 100 ∧ is.length ≤ 100 ∧ os.length ≤ 100 ∧ ∀ b H', Same H H' → H b = none → H' b = some (.lst ((dedupF (is ++ (rowsD n ds).flatMap varsOf ++ os)).map V.str)) → Q (.ref b) H'
theorem cutV_to {xs : List V} {j : Nat} (h : j ≤ xs.length) : cutV xs none (some (j : Int)) = xs.take j := by
  unfold cutV
  have e0 : HT.sIx xs.length 0 none = 0 := rfl
  have e1 : HT.sIx xs.length xs.length (some (j : Int)) = j := by
    show (if ((j : Int) < 0) then ((j : Int) + (xs.length : Int)).toNat else min (j : Int).toNat xs.length) = j
    rw [if_neg (by omega), Int.toNat_natCast]
    omega
  rw [e0, e1, List.drop_zero, Nat.sub_zero]
theorem getD_some {x : V} {us : List V} {i : Nat} (h : i < us.length) : (x :: us)[i + 1]? = some (us.getD i .non) := by
  rw [List.getElem?_cons_succ, List.getD_eq_getElem?_getD, List.getElem?_eq_getElem h]
  rfl
def dedupN (l : List Str) (i : Nat) : List Str := (List.range i).filterMap fun k => match l[k]? with
  | some x => if x ∈ l.take k then none else some x
  | none => none
theorem dedupN_in {l : List Str} {i : Nat} {x : Str} (h : l[i]? = some x) (m : x ∈ l.take i) : dedupN l (i + 1) = dedupN l i := by
  unfold dedupN
  rw [List.range_succ, List.filterMap_append]
  simp only [List.filterMap_cons, List.filterMap_nil, h, if_pos m, List.append_nil]
theorem dedupN_out {l : List Str} {i : Nat} {x : Str} (h : l[i]? = some x) (m : x ∉ l.take i) : dedupN l (i + 1) = dedupN l i ++ [x] := by
  unfold dedupN
  rw [List.range_succ, List.filterMap_append]
  simp only [List.filterMap_cons, List.filterMap_nil, h, if_neg m]
theorem dedupN_le (l : List Str) (i : Nat) : (dedupN l i).length ≤ i := by
  have := List.length_filterMap_le (fun k => match l[k]? with | some x => if x ∈ l.take k then none else some x | none => none) (List.range i)
  rw [List.length_range] at this
  exact this
theorem vars_le {ws fs : List Str} {d : PyData} (h : OkR ws fs d) : (varsOf d).length ≤ 2 := by
  obtain ⟨k, ps, rs, rfl, hl, hp⟩ := h
  rw [vars_eq hl]
  have hps := hp.len
  rcases forms_cases hl with ⟨rfl, rfl⟩ | ⟨rfl, rfl⟩ | ⟨rfl, rfl⟩ | ⟨rfl, rfl⟩ | ⟨rfl, rfl⟩ | ⟨rfl, rfl⟩ | ⟨rfl, rfl⟩ | ⟨rfl, rfl⟩ | ⟨rfl, rfl⟩
  · exact Nat.le_trans (List.length_filterMap_le _ _) (by rw [List.length_zip]; exact Nat.min_le_right _ _)
  · exact Nat.le_trans (List.length_filterMap_le _ _) (by rw [List.length_zip]; exact Nat.le_trans (Nat.min_le_right _ _) (by decide))
  · exact Nat.le_trans (List.length_filterMap_le _ _) (by rw [List.length_zip]; exact Nat.le_trans (Nat.min_le_right _ _) (by decide))
  · obtain _ | ⟨p1, _ | ⟨p2, _ | ⟨p3, _ | _⟩⟩⟩ := hp
    rw [List.zip_cons_cons, List.zip_cons_cons, List.zip_cons_cons, fv1, fv1, fvN nv1]
    exact Nat.le_refl _
  · obtain _ | ⟨p1, _ | ⟨p2, _ | ⟨p3, _ | _⟩⟩⟩ := hp
    rw [List.zip_cons_cons, List.zip_cons_cons, List.zip_cons_cons, fv1, fvN nv1, fv1]
    exact Nat.le_refl _
  · obtain _ | ⟨p1, _ | ⟨p2, _ | ⟨p3, _ | ⟨p4, _ | _⟩⟩⟩⟩ := hp
    rw [List.zip_cons_cons, List.zip_cons_cons, List.zip_cons_cons, List.zip_cons_cons, fv1, fv1, fvN nv2, fvN nv3]
    exact Nat.le_refl _
  · obtain _ | ⟨p1, _ | ⟨p2, _ | ⟨p3, _ | _⟩⟩⟩ := hp
    rw [List.zip_cons_cons, List.zip_cons_cons, List.zip_cons_cons, fvN nv4, fv1, fvN nv3]
    exact Nat.le_succ _
  · obtain _ | ⟨p1, _ | ⟨p2, _ | ⟨p3, _ | ⟨p4, _ | _⟩⟩⟩⟩ := hp
    rw [List.zip_cons_cons, List.zip_cons_cons, List.zip_cons_cons, List.zip_cons_cons, fv1, fv1, fvN nv5, fvN nv5]
    exact Nat.le_refl _
  · obtain _ | ⟨p1, _ | ⟨p2, _ | ⟨p3, _ | _⟩⟩⟩ := hp
    rw [List.zip_cons_cons, List.zip_cons_cons, List.zip_cons_cons, fv1, fvN nv5, fvN nv5]
    exact Nat.le_succ _
theorem vars_all_le {ws fs : List Str} : ∀ {l : List PyData}, (∀ d ∈ l, OkR ws fs d) → (l.flatMap varsOf).length ≤ 2 * l.length
  | [], _ => Nat.le_refl _
  | d :: l, h => by
    have h1 := vars_le (h d (List.mem_cons_self ..))
    have h2 := vars_all_le (l := l) fun e m => h e (List.mem_cons_of_mem _ m)
    rw [List.flatMap_cons, List.length_append, List.length_cons]
    omega
section
variable {P : Program} {w : World} {K : PySem.W.Frag} {mg : Str → Option Value} {base : Heap}
end
end TW
set_option Elab.async false
set_option linter.all false
set_option maxRecDepth 100000
namespace TW
open PySem PySem.Spec PyProof.Rows L2 TL
theorem pg_tupK {X : Cx} {K : PySem.W.Frag} {es : List Expr} {k : Nat} {t : TGs} {n : Nat} {pos : Pos} (e : X.K = K) (hc : X.calm = true) (h : PGs X es t)
    (hn : (assignEach es X.env).length = n := by rfl) (hst : (assignEach es X.env).findIdx? (·.1) = none := by rfl) : PG X (.Tuple es k pos) (gTup K n t) := e ▸ pg_tup hc h hn hst
/-- a comprehension over zip of two tuples of one length -/
theorem lc_zipT {K : PySem.W.Frag} {a b : Addr} {xs ys : List V} {g : TG} {tt : TT} {te : TE} {vs : List Nat} {σ : St'} {H1 : Hp} {D : Addr} {Qd : Hp → Prop} (hl : xs.length = ys.length) (Pv : Nat → Hp → Prop) (h0 : Pv 0 (upd H1 D (.lst [])))
    (hq : ∀ i H, Pv i H → SqT K H a xs ∧ SqT K H b ys)
    (hs : ∀ (i : Nat) (x y : V) (T : Addr) (H : Hp), xs[i]? = some x → ys[i]? = some y → Pv i H → H T = none → g (.ref T) (wipe σ vs) (upd H T (.tup [x, y])) fun σ2 H2 => wipe σ2 vs = wipe σ vs ∧ tt σ2 H2 fun b H3 =>
      if b = true then te σ2 H3 fun y H4 => ∃ acc, H4 D = some (.lst acc) ∧ acc.length < sizeLine ∧ Pv (i + 1) (upd H4 D (.lst (acc ++ [y]))) else Pv (i + 1) H3) (hd : ∀ H, Pv xs.length H → Qd H) :
    ∃ W : Nat → Nat → Hp → Prop, (∃ m, W 0 m (upd H1 D (.lst []))) ∧ ∀ i m H, W i m H →
      ((RZ.ItzT K a b).stop i H ∧ Qd H) ∨ ((RZ.ItzT K a b).go i H ∧ ∃ Nx : Hp → Prop, (∀ H', Nx H' → ∃ m', m' < m ∧ W (i + 1) m' H') ∧ ∀ y H', (RZ.ItzT K a b).yld i H y H' → g y (wipe σ vs) H' fun σ2 H2 => wipe σ2 vs = wipe σ vs ∧ tt σ2 H2 fun b H3 =>
        if b = true then te σ2 H3 fun y H4 => ∃ acc, H4 D = some (.lst acc) ∧ acc.length < sizeLine ∧ Nx (upd H4 D (.lst (acc ++ [y]))) else Nx H3) := by
  refine ⟨fun i m H => m = xs.length - i ∧ i ≤ xs.length ∧ Pv i H, ⟨xs.length, by simp, Nat.zero_le _, h0⟩, ?_⟩
  rintro i m H ⟨rfl, hi, p⟩
  obtain ⟨qa, qb⟩ := hq i H p
  by_cases hlt : i < xs.length
  · have hx : xs[i]? = some xs[i] := List.getElem?_eq_getElem hlt
    have hlt2 : i < ys.length := by omega
    have hy : ys[i]? = some ys[i] := List.getElem?_eq_getElem hlt2
    refine .inr ⟨⟨xs, ys, _, _, qa, qb, hx, hy⟩, Pv (i + 1), fun H' p' => ⟨xs.length - (i + 1), by omega, rfl, hlt, p'⟩, fun v H' hv => ?_⟩
    obtain ⟨T, x, y, rfl, hT, rfl, h1, h2⟩ := hv
    exact hs i x y T H (h1 _ qa) (h2 _ qb) p hT
  · have e : i = xs.length := by omega
    subst e
    exact .inl ⟨⟨xs, ys, qa, qb, .inl (Nat.le_refl _)⟩, hd H p⟩
/-- the table of the kinds of rows, as the module holds it -/
structure FormsK (K : PySem.W.Frag) (w : World) (mg : Str → Option Value) (DF : Addr) (es : Array DictEntry) (n : Nat) : Prop where
  g : mg "FORMS" = some (.ref DF)
  k : KDict K w DF es n
  at' : ∀ {k : Str} {rs : List Str}, formsT.lookup k = some rs → ∃ T, PySem.W.nsIn K DF k = some (some (.ref T)) ∧ ∀ H, SqT K H T (rs.map V.str)
theorem FormsK.dct {K : PySem.W.Frag} {w : World} {mg : Str → Option Value} {DF : Addr} {es : Array DictEntry} {n : Nat} (F : FormsK K w mg DF es n) {k : Str} {T : Addr} (h : PySem.W.nsIn K DF k = some (some (.ref T))) : KDct K w DF k (.ref T) := ⟨es, n, _, F.k.at_, F.k.lit, h, rfl⟩
/-- a row at r: its kind, its parts, their roles -/
structure RowV (H : Hp) (r : Addr) (k : Str) (us : List V) (rs : List Str) : Prop where
  t : H r = some (.tup (.str k :: us))
  l : formsT.lookup k = some rs
  n : us.length = rs.length
theorem RowV.same {H H' : Hp} {r : Addr} {k : Str} {us : List V} {rs : List Str} (R : RowV H r k us rs) (s : Same H H') : RowV H' r k us rs := ⟨s _ _ R.t, R.l, R.n⟩
theorem forms_len {k : Str} {rs : List Str} (h : formsT.lookup k = some rs) : 1 ≤ rs.length ∧ rs.length ≤ 4 := by
  rcases forms_cases h with ⟨_, rfl⟩ | ⟨_, rfl⟩ | ⟨_, rfl⟩ | ⟨_, rfl⟩ | ⟨_, rfl⟩ | ⟨_, rfl⟩ | ⟨_, rfl⟩ | ⟨_, rfl⟩ | ⟨_, rfl⟩ <;> exact ⟨by simp, by simp⟩
/-- the parts of a role -/
def pick (z : Str) (us : List V) (rs : List Str) : List V := (us.zip rs).filterMap fun p => if p.2 = z then some p.1 else none
theorem pick_cons {z : Str} {u : V} {us : List V} {r : Str} {rs : List Str} : pick z (u :: us) (r :: rs) = (if r = z then [u] else []) ++ pick z us rs := by
  unfold pick
  rw [List.zip_cons_cons, List.filterMap_cons]
  by_cases h : r = z
  · rw [if_pos h, if_pos h]
    rfl
  · rw [if_neg h, if_neg h]
    rfl
theorem pick_take {z : Str} {us : List V} {rs : List Str} {i : Nat} {u : V} {r : Str} (h1 : us[i]? = some u) (h2 : rs[i]? = some r) : pick z (us.take (i + 1)) (rs.take (i + 1)) = pick z (us.take i) (rs.take i) ++ (if r = z then [u] else []) := by
  unfold pick
  have h3 : (us.take (i + 1)).zip (rs.take (i + 1)) = (us.take i).zip (rs.take i) ++ [(u, r)] := by
    rw [take_next h1, take_next h2]
    refine List.zip_append ?_ |>.trans ?_
    · have a1 := (List.getElem?_eq_some_iff.mp h1).1
      have a2 := (List.getElem?_eq_some_iff.mp h2).1
      rw [List.length_take, List.length_take]
      omega
    · rfl
  rw [h3, List.filterMap_append]
  by_cases h : r = z
  · rw [if_pos h]
    simp [h]
  · rw [if_neg h]
    simp [h]
theorem pick_le {z : Str} (us : List V) (rs : List Str) : (pick z us rs).length ≤ rs.length := Nat.le_trans (List.length_filterMap_le _ _) (by rw [List.length_zip]; exact Nat.min_le_right _ _)
theorem sIx_one {n : Nat} (h : 1 ≤ n) : HT.sIx n 0 (some 1) = 1 := by
  show (if ((1 : Int) < 0) then ((1 : Int) + (n : Int)).toNat else min (1 : Int).toNat n) = 1
  rw [if_neg (by omega)]
  show min 1 n = 1
  omega
theorem cutV_one {x : V} {us : List V} : cutV (x :: us) (some 1) none = us := by
  unfold cutV
  rw [sIx_one (by rw [List.length_cons]; omega)]
  show (us).take ((us.length + 1) - 1) = us
  rw [Nat.add_sub_cancel, List.take_length]
def spPartsOf (z : Str) : Sp := fun vs H Q _ => ∃ (r : Addr) (k : Str) (us : List V) (rs : List Str), vs = [.ref r] ∧ RowV H r k us rs ∧ ∀ b H', Same H H' → H b = none → H' b = some (.lst (pick z us rs)) → Q (.ref b) H'
abbrev S_branches : Stmt := topS 29
abbrev N_branches : List Str := ["row", "part", "role"]
abbrev P_branches : List Str := ["row"]
theorem sc_branches : FnScope N_branches P_branches (defScope S_branches) := ⟨rfl, rfl, rfl, by decide +kernel, rfl, by decide +kernel, by decide +kernel⟩
abbrev S_row_variables : Stmt := topS 28
abbrev N_row_variables : List Str := ["row", "part", "role"]
abbrev P_row_variables : List Str := ["row"]
theorem sc_row_variables : FnScope N_row_variables P_row_variables (defScope S_row_variables) := ⟨rfl, rfl, rfl, by decide +kernel, rfl, by decide +kernel, by decide +kernel⟩
section
variable {P : Program} {w : World} {K : PySem.W.Frag} {mg : Str → Option Value} {base : Heap}
set_option maxHeartbeats 4000000 in
theorem ok_branches {f DF : Addr} {fd : FuncData} {es : Array DictEntry} {nE : Nat} (F : Fun K "branches" "branches" S_branches f fd) (B : Bl mg) (FM : FormsK K w mg DF es nE) : FnOk P w K mg base CX0 1 f fd P_branches (spPartsOf "rows") := by
  refine F.ok sc_branches (fun vs H Q E h => ?_) (fun cdv A outer s H vs Q E hr h => ?_)
  · obtain ⟨r, k, us, rs, rfl, _⟩ := h
    rfl
  · obtain ⟨r, k, us, rs, rfl, R, kk⟩ := h
    obtain ⟨T, hT, hS⟩ := FM.at' R.l
    refine ⟨_, (pss_one (ps_ret (pe_lc (own := [("part", 1), ("role", 2)])  rfl sc_branches.nd (RZ.pi_zipA (by rfl) B.m_zip (pa_cons (pe_slice sl_tup (pv 0) (po_some pe_int) po_none) (pa_cons (pe_ix ix_kdict (pe_glob (v := .ref DF) rfl FM.g rfl) (pe_ix ix_tup (pv 0) pe_int (fun _ _ => rfl)) (fun _ _ => rfl)) pa_nil))) (blkOk_by (own := [("part", 1), ("role", 2)]) (N := N_branches) (sc := defScope S_branches) (by decide +kernel)) (fun _ _ _ _ _ => (pg_tupK (K := K) (n := 2) rfl rfl (pgs_cons (pg_name (i := 1) sc_branches.nd rfl (by first | exact Or.inl rfl | exact Or.inr rfl)) (pgs_cons (pg_name (i := 2) sc_branches.nd rfl (by first | exact Or.inl rfl | exact Or.inr rfl)) pgs_nil)))) (fun _ _ _ _ _ => pts_one (pt_cmpR op_eq (pv 2) pe_str (nomark _))) (fun _ _ _ _ _ => (pv 1))))), ?_⟩
    obtain ⟨f1, f4⟩ := forms_len R.l
    refine ⟨_, rfl, _, rfl, r, _, rfl, SqT.of R.t, ?_, fun p1 hp1 => ?_⟩
    · rw [sIx_one (by rw [List.length_cons]; omega)]
      exact fun z => absurd z.1 (by decide)
    rw [cutV_one]
    have s1 := same_new (o := .tup us) hp1
    refine ⟨_, rfl, r, _, 0, .str k, rfl, rfl, SqT.of (s1 _ _ R.t), atI_of (j := 0) rfl rfl, DF, k, .ref T, rfl, rfl, FM.dct hT, p1, T, us, rs.map V.str, rfl, .inr ⟨SqT.of upd_same, hS _, fun D hD => ?_⟩⟩
    refine lc_zipT (xs := us) (ys := rs.map V.str) (by rw [List.length_map]; exact R.n) (fun i G => Same (upd H p1 (.tup us)) G ∧ G D = some (.lst (pick "rows" (us.take i) (rs.take i)))) ⟨same_new hD, upd_same⟩ ?_ ?_ ?_
    · rintro i G ⟨sG, _⟩
      exact ⟨SqT.of (sG _ _ upd_same), hS G⟩
    · rintro i x y T2 G hx hy ⟨sG, hGD⟩ hT2
      obtain ⟨role, hrole, rfl⟩ := get_str hy
      have s2 := same_new (o := .tup [x, .str role]) hT2
      have acc : (pick "rows" (us.take i) (rs.take i)).length < sizeLine := small1000 (Nat.le_trans (pick_le _ _) (by rw [List.length_take]; omega))
      refine ⟨T2, _, rfl, SqT.of upd_same, rfl, _, _, rfl, _, _, rfl, rfl, ?_⟩
      refine ⟨rfl, _, rfl, rfl, _, rfl, ite_dec (fun hb => ?_) (fun hb => ?_)⟩
      · have hz : role = "rows" := V.str.inj (of_decide_eq_true hb)
        refine ⟨_, rfl, _, s2 _ _ hGD, acc, ?_, ?_⟩
        · exact fun b o e => (upd_ne (ne_of_none e hD)).trans (s2 _ _ (sG _ _ e))
        · rw [upd_same, pick_take hx hrole, if_pos hz]
      · have hz : ¬ role = "rows" := fun e => of_decide_eq_false hb (by rw [e])
        refine ⟨sG.trans s2, ?_⟩
        rw [pick_take hx hrole, if_neg hz, List.append_nil]
        exact s2 _ _ hGD
    · rintro G ⟨sG, hGD⟩
      rw [List.take_length, R.n, List.take_length] at hGD
      exact kk D G (s1.trans sG) (s1.free hD) hGD
set_option maxHeartbeats 4000000 in
theorem ok_row_variables {f DF : Addr} {fd : FuncData} {es : Array DictEntry} {nE : Nat} (F : Fun K "row_variables" "row_variables" S_row_variables f fd) (B : Bl mg) (FM : FormsK K w mg DF es nE) : FnOk P w K mg base CX0 1 f fd P_row_variables (spPartsOf "variable") := by
  refine F.ok sc_row_variables (fun vs H Q E h => ?_) (fun cdv A outer s H vs Q E hr h => ?_)
  · obtain ⟨r, k, us, rs, rfl, _⟩ := h
    rfl
  · obtain ⟨r, k, us, rs, rfl, R, kk⟩ := h
    obtain ⟨T, hT, hS⟩ := FM.at' R.l
    refine ⟨_, (pss_one (ps_ret (pe_lc (own := [("part", 1), ("role", 2)])  rfl sc_row_variables.nd (RZ.pi_zipA (by rfl) B.m_zip (pa_cons (pe_slice sl_tup (pv 0) (po_some pe_int) po_none) (pa_cons (pe_ix ix_kdict (pe_glob (v := .ref DF) rfl FM.g rfl) (pe_ix ix_tup (pv 0) pe_int (fun _ _ => rfl)) (fun _ _ => rfl)) pa_nil))) (blkOk_by (own := [("part", 1), ("role", 2)]) (N := N_row_variables) (sc := defScope S_row_variables) (by decide +kernel)) (fun _ _ _ _ _ => (pg_tupK (K := K) (n := 2) rfl rfl (pgs_cons (pg_name (i := 1) sc_row_variables.nd rfl (by first | exact Or.inl rfl | exact Or.inr rfl)) (pgs_cons (pg_name (i := 2) sc_row_variables.nd rfl (by first | exact Or.inl rfl | exact Or.inr rfl)) pgs_nil)))) (fun _ _ _ _ _ => pts_one (pt_cmpR op_eq (pv 2) pe_str (nomark _))) (fun _ _ _ _ _ => (pv 1))))), ?_⟩
    obtain ⟨f1, f4⟩ := forms_len R.l
    refine ⟨_, rfl, _, rfl, r, _, rfl, SqT.of R.t, ?_, fun p1 hp1 => ?_⟩
    · rw [sIx_one (by rw [List.length_cons]; omega)]
      exact fun z => absurd z.1 (by decide)
    rw [cutV_one]
    have s1 := same_new (o := .tup us) hp1
    refine ⟨_, rfl, r, _, 0, .str k, rfl, rfl, SqT.of (s1 _ _ R.t), atI_of (j := 0) rfl rfl, DF, k, .ref T, rfl, rfl, FM.dct hT, p1, T, us, rs.map V.str, rfl, .inr ⟨SqT.of upd_same, hS _, fun D hD => ?_⟩⟩
    refine lc_zipT (xs := us) (ys := rs.map V.str) (by rw [List.length_map]; exact R.n) (fun i G => Same (upd H p1 (.tup us)) G ∧ G D = some (.lst (pick "variable" (us.take i) (rs.take i)))) ⟨same_new hD, upd_same⟩ ?_ ?_ ?_
    · rintro i G ⟨sG, _⟩
      exact ⟨SqT.of (sG _ _ upd_same), hS G⟩
    · rintro i x y T2 G hx hy ⟨sG, hGD⟩ hT2
      obtain ⟨role, hrole, rfl⟩ := get_str hy
      have s2 := same_new (o := .tup [x, .str role]) hT2
      have acc : (pick "variable" (us.take i) (rs.take i)).length < sizeLine := small1000 (Nat.le_trans (pick_le _ _) (by rw [List.length_take]; omega))
      refine ⟨T2, _, rfl, SqT.of upd_same, rfl, _, _, rfl, _, _, rfl, rfl, ?_⟩
      refine ⟨rfl, _, rfl, rfl, _, rfl, ite_dec (fun hb => ?_) (fun hb => ?_)⟩
      · have hz : role = "variable" := V.str.inj (of_decide_eq_true hb)
        refine ⟨_, rfl, _, s2 _ _ hGD, acc, ?_, ?_⟩
        · exact fun b o e => (upd_ne (ne_of_none e hD)).trans (s2 _ _ (sG _ _ e))
        · rw [upd_same, pick_take hx hrole, if_pos hz]
      · have hz : ¬ role = "variable" := fun e => of_decide_eq_false hb (by rw [e])
        refine ⟨sG.trans s2, ?_⟩
        rw [pick_take hx hrole, if_neg hz, List.append_nil]
        exact s2 _ _ hGD
    · rintro G ⟨sG, hGD⟩
      rw [List.take_length, R.n, List.take_length] at hGD
      exact kk D G (s1.trans sG) (s1.free hD) hGD
end
end TW
set_option Elab.async false
set_option linter.all false
set_option maxRecDepth 100000
namespace TW
open PySem PySem.Spec PyProof.Rows L2 TL
theorem pick_none {z : Str} : ∀ {us : List V} {rs : List Str}, z ∉ rs → pick z us rs = []
  | [], _, _ => by unfold pick; rw [List.zip_nil_left]; rfl
  | _ :: _, [], _ => by unfold pick; rw [List.zip_nil_right]; rfl
  | u :: us, r :: rs, h => by
    rw [pick_cons, if_neg fun e => h (by rw [e]; exact List.mem_cons_self ..), pick_none fun m => h (List.mem_cons_of_mem _ m)]
    rfl
theorem pick_append {z : Str} : ∀ {us vs : List V} {rs qs : List Str}, us.length = rs.length → pick z (us ++ vs) (rs ++ qs) = pick z us rs ++ pick z vs qs
  | [], vs, [], qs, _ => rfl
  | [], vs, _ :: _, qs, h => by simp at h
  | _ :: _, vs, [], qs, h => by simp at h
  | u :: us, vs, r :: rs, qs, h => by
    rw [List.cons_append, List.cons_append, pick_cons, pick_cons, pick_append (by simpa using h), List.append_assoc]
theorem pick_vars {ws fs : List Str} {H : Hp} : ∀ {rs : List Str} {ps : List PyData} {us : List V} {L : List Addr}, PartsOk ws fs rs ps → DqAll H us ps L → pick "variable" us rs = ((ps.zip rs).filterMap (fun p => if p.2 = ("variable" : Str) then some (strD p.1) else none)).map V.str
  | _, _, _, _, .nil, .nil => rfl
  | _, _, _, _, .cons (r := r) h a, .cons q b => by
    rw [pick_cons, List.zip_cons_cons, pick_vars a b]
    by_cases e : r = "variable"
    · rw [if_pos e, part_v h q e, e, fv1]
      rfl
    · rw [if_neg e, fvN e]
      rfl
def kindsB : List Str := ["same", "empty"]
theorem forms_plain {k : Str} {rs : List Str} (h : formsT.lookup k = some rs) (n1 : k ≠ "same") (n2 : k ≠ "empty") : ("rows" : Str) ∉ rs := by
  rcases forms_cases h with ⟨e, rfl⟩ | ⟨e, rfl⟩ | ⟨e, rfl⟩ | ⟨e, rfl⟩ | ⟨e, rfl⟩ | ⟨e, rfl⟩ | ⟨e, rfl⟩ | ⟨e, _⟩ | ⟨e, _⟩
  all_goals first | decide +kernel | exact absurd e n1 | exact absurd e n2
theorem forms_br {k : Str} {rs : List Str} (h : formsT.lookup k = some rs) (hk : k = "same" ∨ k = "empty") : ∃ qs : List Str, rs = qs ++ (["rows", "rows"] : List Str) ∧ ("rows" : Str) ∉ qs := by
  have no : ∀ {z : Str}, ¬ z = "same" → ¬ z = "empty" → k = z → False := fun a b e => by
    rcases hk with h | h
    · exact a (e.symm.trans h)
    · exact b (e.symm.trans h)
  rcases forms_cases h with ⟨e, rfl⟩ | ⟨e, rfl⟩ | ⟨e, rfl⟩ | ⟨e, rfl⟩ | ⟨e, rfl⟩ | ⟨e, rfl⟩ | ⟨e, rfl⟩ | ⟨e, rfl⟩ | ⟨e, rfl⟩
  · exact (no (by decide +kernel) (by decide +kernel) e).elim
  · exact (no (by decide +kernel) (by decide +kernel) e).elim
  · exact (no (by decide +kernel) (by decide +kernel) e).elim
  · exact (no (by decide +kernel) (by decide +kernel) e).elim
  · exact (no (by decide +kernel) (by decide +kernel) e).elim
  · exact (no (by decide +kernel) (by decide +kernel) e).elim
  · exact (no (by decide +kernel) (by decide +kernel) e).elim
  · exact ⟨["variable", "variable"], rfl, by decide +kernel⟩
  · exact ⟨["variable"], rfl, by decide +kernel⟩
/-- a row as the program sees it -/
structure RowG (ws fs : List Str) (H : Hp) (r : Addr) (d : PyData) (k : Str) (us : List V) (rs : List Str) (ps : List PyData) (L : List Addr) : Prop where
  rV : RowV H r k us rs
  rD : d = .tuple (.str k :: ps)
  rP : PartsOk ws fs rs ps
  rQ : DqAll H us ps L
  rX : pick "variable" us rs = (varsOf d).map V.str
theorem row_view {ws fs : List Str} {n : Nat} {H : Hp} {v : V} {d : PyData} {L : List Addr} (ok : OkR ws fs d) (rd : RowD n d) (hq : Dq H v d L) : ∃ (r : Addr) (k : Str) (us : List V) (rs : List Str) (ps : List PyData), v = .ref r ∧ RowG ws fs H r d k us rs ps L ∧
    ((pick "rows" us rs = [] ∧ L = [] ∧ inner d = ([], []) ∧ k ≠ "same" ∧ k ≠ "empty") ∨
     ∃ (m : Nat) (u1 : List V) (pa pb : Addr) (as bs : List PyData) (La Lb : List Addr), n = m + 1 ∧ us = u1 ++ [.ref pa, .ref pb] ∧ pick "rows" us rs = [.ref pa, .ref pb] ∧ BrAt m H r k u1 pa pb as bs La Lb ∧ L = La ++ Lb ∧ inner d = (as, bs) ∧ ∃ ps0, ps = ps0 ++ [.list as, .list bs] ∧ DqAll H u1 ps0 []) := by
  obtain ⟨k, ps, rs, rfl, hl, hp⟩ := ok
  have hat := row_at rd hq
  cases hq with
  | @tup r vs _ _ hr dv =>
  cases dv with
  | @cons v0 us _ _ L0 M0 hv0 du =>
  cases hv0 with
  | str _ =>
  have hv : RowV H r k us rs := ⟨hr, hl, by rw [du.len, hp.len]⟩
  refine ⟨r, k, us, rs, ps, rfl, ⟨hv, rfl, hp, by simpa using du, ?_⟩, ?_⟩
  · rw [vars_eq hl]
    exact pick_vars hp du
  · rcases hat with ⟨r', k', us', e1, n1, n2, h3, h4, h5⟩ | ⟨m, r', k', u1, pa, pb, as, bs, La, Lb, e0, e1, B, e2, e3⟩
    · cases e1
      rw [hr] at h3
      cases h3
      exact .inl ⟨pick_none (forms_plain hl n1 n2), h4, h5, n1, n2⟩
    · cases e1
      have ht := B.t
      rw [hr] at ht
      cases ht
      obtain ⟨qs, eq, hn⟩ := forms_br hl B.w
      have hlen : u1.length = qs.length := by
        have := hv.n
        rw [eq, List.length_append, List.length_append] at this
        simpa using this
      refine .inr ⟨m, u1, pa, pb, as, bs, La, Lb, e0, rfl, ?_, B, e2, e3, ?_⟩
      · rw [eq, pick_append hlen, pick_none hn, List.nil_append, pick_cons, if_pos rfl, pick_cons, if_pos rfl]
        rfl
      obtain ⟨ds0, as', bs', ep, fl⟩ : ∃ ds0 as' bs', ps = ds0 ++ [.list as', .list bs'] ∧ ∀ d ∈ ds0, FlatD d := by
        cases rd with
        | plain n1 n2 _ _ => exact (B.w.elim n1 n2).elim
        | br hw fl l2 ra rb la lb => exact ⟨_, _, _, rfl, fl⟩
      rw [ep, inner_br] at e3
      cases e3
      rw [ep] at du
      obtain ⟨v1, v2, L1, L2, ev, _, d1, d2⟩ := du.split
      have z := d1.flat fl
      subst z
      have l2 : v2.length = 2 := d2.len
      have := List.append_inj' ev (by rw [l2]; rfl)
      exact ⟨ds0, ep, by rw [this.1]; exact d1⟩
def spWithB : Sp := fun vs H Q _ => ∃ (r l : Addr) (xs zs : List V), vs = [.ref r, .ref l] ∧ H r = some (.tup xs) ∧ H l = some (.lst zs) ∧ zs.length < xs.length ∧ xs.length ≤ 100 ∧ ∀ q H', Same H H' → H' q = some (.tup (xs.take (xs.length - zs.length) ++ zs)) → Q (.ref q) H'
abbrev S_with_branches : Stmt := topS 30
abbrev N_with_branches : List Str := ["row", "lists"]
abbrev P_with_branches : List Str := ["row", "lists"]
theorem sc_with_branches : FnScope N_with_branches P_with_branches (defScope S_with_branches) := ⟨rfl, rfl, rfl, by decide +kernel, rfl, by decide +kernel, by decide +kernel⟩
theorem sIx_to {n : Nat} {i : Int} (h0 : 0 ≤ i) (h : i ≤ n) : HT.sIx n n (some i) = i.toNat := by
  show (if (i < 0) then (i + (n : Int)).toNat else min i.toNat n) = i.toNat
  rw [if_neg (by omega)]
  omega
section
variable {P : Program} {w : World} {K : PySem.W.Frag} {mg : Str → Option Value} {base : Heap}
set_option maxHeartbeats 4000000 in
theorem ok_with_branches {f : Addr} {fd : FuncData} (F : Fun K "with_branches" "with_branches" S_with_branches f fd) (B : Bl mg) : FnOk P w K mg base CX0 1 f fd P_with_branches spWithB := by
  refine F.ok sc_with_branches (fun vs H Q E h => ?_) (fun cdv A outer s H vs Q E hr h => ?_)
  · obtain ⟨r, l, xs, zs, rfl, _⟩ := h
    rfl
  · obtain ⟨r, l, xs, zs, rfl, hr1, hl1, lt, x100, kk⟩ := h
    refine ⟨_, (pss_one (ps_ret (pe_op op_catA (pe_slice sl_tupA (pv 0) po_none (po_some (pe_op op_sub (pe_callB call_len_seq (by rfl) B.m_len PySem.boot_len (pa_cons (pv 0) pa_nil)) (pe_callB call_len_seq (by rfl) B.m_len PySem.boot_len (pa_cons (pv 1) pa_nil))))) (pe_callTy call_tuple_of (by rfl) B.m_tuple (by decide +kernel) (pa_cons (pv 1) pa_nil))))), ?_⟩
    refine ⟨_, rfl, _, rfl, r, _, rfl, .inr (SqT.of hr1), _, rfl, l, _, rfl, .inl (SqL.of hl1), _, _, rfl, rfl, _, rfl, r, _, rfl, SqT.of hr1, ?_⟩
    have e1 : HT.sIx xs.length xs.length (some ((xs.length : Int) - (zs.length : Int))) = xs.length - zs.length := by
      rw [sIx_to (by omega) (by omega)]
      omega
    have e0 : HT.sIx xs.length 0 none = 0 := rfl
    have hx : xs ≠ [] := fun e => by rw [e] at lt; exact absurd lt (Nat.not_lt_zero _)
    have l0 : ∀ n : Nat, n ≤ 1000 → n ≤ sizeLine := fun n h => Nat.le_of_lt (small1000 h)
    rw [e0, e1]
    refine ⟨fun hw => ?_, fun hw p1 hp1 => ?_⟩
    · have hz : zs = [] := List.length_eq_zero_iff.mp (by have := hw.2; omega)
      refine ⟨_, rfl, l, _, rfl, .inl ⟨SqL.of hl1, fun t ht => ?_⟩⟩
      have s1 := same_new (o := .tup zs) ht
      refine ⟨r, t, xs, zs, rfl, rfl, SqT.of (s1 _ _ hr1), SqT.of upd_same, l0 _ (by omega), fun e => absurd e hx, fun _ _ => kk r _ s1 ?_, fun _ e => absurd hz e⟩
      rw [hz, List.length_nil, Nat.sub_zero, List.take_length, List.append_nil]
      exact (upd_ne (ne_of_none hr1 ht)).trans hr1
    · have hz : zs ≠ [] := fun e => hw ⟨rfl, by rw [e]; rfl⟩
      have ec : cutV xs none (some ((xs.length : Int) - (zs.length : Int))) = xs.take (xs.length - zs.length) := by
        unfold cutV
        rw [e0, e1, List.drop_zero, Nat.sub_zero]
      rw [ec]
      have s1 := same_new (o := .tup (xs.take (xs.length - zs.length))) hp1
      refine ⟨_, rfl, l, _, rfl, .inl ⟨SqL.of (s1 _ _ hl1), fun t ht => ?_⟩⟩
      have s2 := s1.trans (same_new (o := .tup zs) ht)
      have hn : xs.take (xs.length - zs.length) ≠ [] := fun e => by
        have := congrArg List.length e
        rw [List.length_take, List.length_nil] at this
        omega
      refine ⟨p1, t, _, zs, rfl, rfl, SqT.of ((upd_ne (ne_of_none upd_same ht)).trans upd_same), SqT.of upd_same, l0 _ (by rw [List.length_take]; omega), fun e => absurd e hn, fun _ e => absurd e hz, fun _ _ q hq => kk q _ (s2.trans (same_new hq)) upd_same⟩
end
/-- rows copied, with those inside -/
def spCopies (ws fs : List Str) (n : Nat) : Sp := fun vs H Q _ => ∃ (a : Addr) (ds : List PyData) (L : List Addr), vs = [.ref a] ∧ Dq H (.ref a) (.list ds) L ∧ (∀ d ∈ ds, RowD n d) ∧ (∀ d ∈ rowsD n ds, OkR ws fs d) ∧ ds.length ≤ 100 ∧
  ∀ (b : Addr) (M : List Addr) (H' : Hp), Same H H' → Dq H' (.ref b) (.list ds) M → (∀ x ∈ M, H x = none) → Q (.ref b) H'
def spCopyR (ws fs : List Str) (n : Nat) : Sp := fun vs H Q _ => ∃ (v : V) (d : PyData) (L : List Addr), vs = [v] ∧ Dq H v d L ∧ RowD n d ∧ (∀ e ∈ rowsD n [d], OkR ws fs e) ∧
  ∀ (u : V) (M : List Addr) (H' : Hp), Same H H' → Dq H' u d M → (∀ x ∈ M, H x = none) → Q u H'
def spCopiesI (ws fs : List Str) : Nat → Sp
  | 0 => fun _ _ _ _ => False
  | n + 1 => spCopies ws fs n
abbrev S_copied_rows : Stmt := topS 31
abbrev N_copied_rows : List Str := ["rows", "row"]
abbrev P_copied_rows : List Str := ["rows"]
theorem sc_copied_rows : FnScope N_copied_rows P_copied_rows (defScope S_copied_rows) := ⟨rfl, rfl, rfl, by decide +kernel, rfl, by decide +kernel, by decide +kernel⟩
abbrev S_copied_row : Stmt := topS 32
abbrev N_copied_row : List Str := ["row", "rows"]
abbrev P_copied_row : List Str := ["row"]
theorem sc_copied_row : FnScope N_copied_row P_copied_row (defScope S_copied_row) := ⟨rfl, rfl, rfl, by decide +kernel, rfl, by decide +kernel, by decide +kernel⟩
theorem rowsD_mem {n : Nat} {ds : List PyData} {d e : PyData} (h : d ∈ ds) (he : e ∈ rowsD n [d]) : e ∈ rowsD n ds := by
  obtain ⟨s, t, rfl⟩ := List.append_of_mem h
  rw [show s ++ d :: t = s ++ ([d] ++ t) from rfl, rowsD_append, rowsD_append]
  exact List.mem_append_right _ (List.mem_append_left _ he)
section
variable {P : Program} {w : World} {K : PySem.W.Frag} {mg : Str → Option Value} {base : Heap}
set_option maxHeartbeats 4000000 in
theorem ok_copied_row {f fB fW fC : Addr} {fd fdB fdW fdC : FuncData} {ws fs : List Str} (F : Fun K "copied_row" "copied_row" S_copied_row f fd) (B : Bl mg) (n : Nat) (d_branches : Df K mg "branches" S_branches fB fdB P_branches) (G_branches : FnOk P w K mg base CX0 1 fB fdB P_branches (spPartsOf "rows"))
    (d_with_branches : Df K mg "with_branches" S_with_branches fW fdW P_with_branches) (G_with_branches : FnOk P w K mg base CX0 1 fW fdW P_with_branches spWithB)
    (d_copied_rows : Df K mg "copied_rows" S_copied_rows fC fdC P_copied_rows) (G_copied_rows : FnOk P w K mg base CX0 (2 * n + 1) fC fdC P_copied_rows (spCopiesI ws fs n)) : FnOk P w K mg base CX0 (2 * n + 2) f fd P_copied_row (spCopyR ws fs n) := by
  refine F.ok sc_copied_row (fun vs H Q E h => ?_) (fun cdv A outer s H vs Q E hr h => ?_)
  · obtain ⟨v, d, L, rfl, _⟩ := h
    rfl
  · obtain ⟨v, d, L, rfl, hq, rd, ok, kk⟩ := h
    have hr_branches : Room 1 _ := hr.mono (by omega)
    have hr_with_branches : Room 1 _ := hr.mono (by omega)
    have hr_copied_rows : Room (2 * n + 1) _ := hr
    have okd : OkR ws fs d := ok d (by rw [rowsD_one]; exact List.mem_cons_self ..)
    obtain ⟨r, k, us, rs, ps, rfl, G, alt⟩ := row_view okd rd hq
    -- the lists inside, as data
    obtain ⟨lds, hl, each, fin⟩ : ∃ lds : List PyData, (∃ L', DqAll H (pick "rows" us rs) lds L') ∧ (∀ ld ∈ lds, ∃ (m : Nat) (cs : List PyData), n = m + 1 ∧ ld = .list cs ∧ (∀ d ∈ cs, RowD m d) ∧ (∀ d ∈ rowsD m cs, OkR ws fs d) ∧ cs.length ≤ 100) ∧
        (lds.length < (V.str k :: us).length ∧ ∀ (G' : Hp) (acc : List V) (M : List Addr), Same H G' → DqAll G' acc lds M → DqAll G' ((V.str k :: us).take ((V.str k :: us).length - acc.length) ++ acc) (.str k :: ps) M) := by
      rcases alt with ⟨e1, e2, e3, n1, n2⟩ | ⟨m, u1, pa, pb, as, bs, La, Lb, rfl, rfl, e1, B, e2, e3, ps0, rfl, d0⟩
      · refine ⟨[], ⟨[], by rw [e1]; exact .nil⟩, fun _ m => (nomatch m), by simp, fun G' acc M sG da => ?_⟩
        cases da
        rw [List.length_nil, Nat.sub_zero, List.take_length, List.append_nil]
        have z := G.rQ.same sG
        rw [e2] at z
        exact .cons (L := []) (M := []) (.str k) z
      · refine ⟨[.list as, .list bs], ⟨_, by rw [e1]; exact .cons B.a (.cons B.b .nil)⟩, fun ld h => ?_, by simp, fun G' acc M sG da => ?_⟩
        · have ein : rowsD (m + 1) [d] = d :: (rowsD m as ++ rowsD m bs) := rows_br e3
          rcases List.mem_cons.mp h with rfl | h
          · exact ⟨m, as, rfl, rfl, B.ra, fun e he => ok e (by rw [ein]; exact List.mem_cons_of_mem _ (List.mem_append_left _ he)), B.la⟩
          · rw [List.mem_singleton.mp h]
            exact ⟨m, bs, rfl, rfl, B.rb, fun e he => ok e (by rw [ein]; exact List.mem_cons_of_mem _ (List.mem_append_right _ he)), B.lb⟩
        · have al : acc.length = 2 := da.len
          have et : (V.str k :: (u1 ++ [V.ref pa, V.ref pb])).take ((V.str k :: (u1 ++ [V.ref pa, V.ref pb])).length - acc.length) = V.str k :: u1 := by
            rw [al, show V.str k :: (u1 ++ [V.ref pa, V.ref pb]) = (V.str k :: u1) ++ [V.ref pa, V.ref pb] from rfl, List.length_append]
            exact List.take_left' (by show _ = _ + 2 - 2; omega)
          rw [et]
          exact .cons (L := []) (M := M) (.str k) ((d0.same sG).append da)
    refine ⟨_, (pss_one (ps_ret (pe_call G_with_branches hr_with_branches rfl d_with_branches.g d_with_branches.F.kp d_with_branches.b .nil pass0 (pa_cons (pv 0) (pa_cons (pe_lc (own := [("rows", 1)]) (g := gName 1) (tt := tYes) rfl sc_copied_row.nd (pi_list (pe_call G_branches hr_branches rfl d_branches.g d_branches.F.kp d_branches.b .nil pass0 (pa_cons (pv 0) pa_nil))) (blkOk_by (own := [("rows", 1)]) (N := N_copied_row) (sc := defScope S_copied_row) (by decide +kernel)) (fun _ _ _ _ _ => (pg_name (i := 1) sc_copied_row.nd rfl (by first | exact Or.inl rfl | exact Or.inr rfl))) (fun _ _ _ _ _ => pts_nil) (fun _ _ _ _ _ => (pe_call G_copied_rows hr_copied_rows rfl d_copied_rows.g d_copied_rows.F.kp d_copied_rows.b .nil pass0 (pa_cons (pv 1) pa_nil)))) pa_nil))))), ?_⟩
    obtain ⟨L', hl⟩ := hl
    obtain ⟨llt, fin⟩ := fin
    have r4 := (forms_len G.rV.l).2
    have un := G.rV.n
    refine ⟨_, rfl, _, rfl, r, k, us, rs, rfl, G.rV, fun b H1 s1 hb h1 => ⟨b, rfl, ⟨_, SqL.of h1⟩, fun D hD => ?_⟩⟩
    have bD : b ≠ D := ne_of_none h1 hD
    have s2 := s1.trans (same_new (o := .lst []) hD)
    refine lc_list (xs := pick "rows" us rs) (fun i G' => ∃ (acc : List V) (M : List Addr), Same H1 G' ∧ G' D = some (.lst acc) ∧ DqAll G' acc (lds.take i) M ∧ (∀ x ∈ M, H x = none ∧ x ≠ D)) ⟨[], [], same_new hD, upd_same, .nil, fun x m => nomatch m⟩ ?_ ?_ ?_
    · rintro i G' hi ⟨acc, M, sG, hGD, da, fr⟩
      exact SqL.of (sG _ _ h1)
    · rintro i x G' hx ⟨acc, M, sG, hGD, da, fr⟩
      refine ⟨rfl, yes_of ?_⟩
      obtain ⟨ld, N, hld, hqx, _⟩ := hl.get hx
      obtain ⟨m, cs, rfl, rfl, r1, o1, c100⟩ := each ld (List.mem_of_getElem? hld)
      obtain ⟨pa, rfl⟩ : ∃ pa, x = .ref pa := by cases hqx; exact ⟨_, rfl⟩
      refine ⟨_, rfl, pa, cs, N, rfl, hqx.same (s1.trans sG), r1, o1, c100, fun b1 M1 G2 s3 q1 f1 => ?_⟩
      have al : acc.length ≤ 100 := by
        have h1 := da.len
        rw [List.length_take] at h1
        have h2 := pick_le (z := "rows") us rs
        have h3 := hl.len
        omega
      refine ⟨acc, s3 _ _ hGD, small1000 (by omega), acc ++ [.ref b1], M ++ M1, fun b o e => (upd_ne (ne_of_none e hD)).trans (s3 _ _ (sG _ _ e)), upd_same, ?_, fun x m => ?_⟩
      · have fr1 : ∀ x ∈ M1, H x = none ∧ x ≠ D := fun x m => ⟨(s1.trans sG).free (f1 x m), fun z => by have := f1 x m; rw [z, hGD] at this; cases this⟩
        have kp : ∀ {X : List Addr}, (∀ x ∈ X, H x = none ∧ x ≠ D) → KeepL X G2 (upd G2 D (.lst (acc ++ [.ref b1]))) := fun h => ⟨fun b m => upd_ne (h b m).2, fun b us e => (upd_ne (fun z : b = D => by rw [z, s3 _ _ hGD] at e; cases e)).trans e⟩
        rw [take_next hld]
        exact ((da.same s3).keep (kp fr)).snoc (q1.keep (kp fr1))
      · rcases List.mem_append.mp m with m | m
        · exact fr x m
        · exact ⟨(s1.trans sG).free (f1 x m), fun z => by have := f1 x m; rw [z, hGD] at this; cases this⟩
    · rintro G' ⟨acc, M, sG, hGD, da, fr⟩
      rw [hl.len, List.take_length] at da
      have s3 := s1.trans sG
      refine ⟨r, D, V.str k :: us, acc, rfl, s3 _ _ G.rV.t, hGD, by rw [da.len]; exact llt, by rw [List.length_cons]; omega, fun q H' s4 hq' => ?_⟩
      have s5 := s3.trans s4
      refine kk (.ref q) M H' s5 ?_ fun x m => (fr x m).1
      rw [G.rD]
      exact .tup hq' (fin H' acc M s5 (da.same s4))
end
end TW
set_option Elab.async false
set_option linter.all false
set_option maxRecDepth 100000
namespace TW
open PySem PySem.Spec PyProof.Rows L2 TL
section
variable {P : Program} {w : World} {K : PySem.W.Frag} {mg : Str → Option Value} {base : Heap}
set_option maxHeartbeats 4000000 in
theorem ok_copied_rows_step {f fC : Addr} {fd fdC : FuncData} {ws fs : List Str} (F : Fun K "copied_rows" "copied_rows" S_copied_rows f fd) (B : Bl mg) (n : Nat)
    (d_copied_row : Df K mg "copied_row" S_copied_row fC fdC P_copied_row) (G_copied_row : FnOk P w K mg base CX0 (2 * n + 2) fC fdC P_copied_row (spCopyR ws fs n)) : FnOk P w K mg base CX0 (2 * n + 3) f fd P_copied_rows (spCopies ws fs n) := by
  refine F.ok sc_copied_rows (fun vs H Q E h => ?_) (fun cdv A outer s H vs Q E hr h => ?_)
  · obtain ⟨a, ds, L, rfl, _⟩ := h
    rfl
  · obtain ⟨a, ds, L, rfl, hq, rd, ok, l100, kk⟩ := h
    have hr_copied_row : Room (2 * n + 2) _ := hr
    refine ⟨_, (pss_one (ps_ret (pe_lc (own := [("row", 1)]) (g := gName 1) (tt := tYes) rfl sc_copied_rows.nd (pi_list (pv 0)) (blkOk_by (own := [("row", 1)]) (N := N_copied_rows) (sc := defScope S_copied_rows) (by decide +kernel)) (fun _ _ _ _ _ => (pg_name (i := 1) sc_copied_rows.nd rfl (by first | exact Or.inl rfl | exact Or.inr rfl))) (fun _ _ _ _ _ => pts_nil) (fun _ _ _ _ _ => (pe_call G_copied_row hr_copied_row rfl d_copied_row.g d_copied_row.F.kp d_copied_row.b .nil pass0 (pa_cons (pv 1) pa_nil)))))), ?_⟩
    cases hq with
    | @lst _ xs _ L ha da =>
    refine ⟨_, rfl, a, rfl, ⟨_, SqL.of ha⟩, fun D hD => ?_⟩
    refine lc_list (xs := xs) (fun i G' => ∃ (acc : List V) (M : List Addr), Same H G' ∧ G' D = some (.lst acc) ∧ DqAll G' acc (ds.take i) M ∧ (∀ x ∈ M, H x = none ∧ x ≠ D)) ⟨[], [], same_new hD, upd_same, .nil, fun x m => nomatch m⟩ ?_ ?_ ?_
    · rintro i G' hi ⟨acc, M, sG, hGD, dac, fr⟩
      exact SqL.of (sG _ _ ha)
    · rintro i x G' hx ⟨acc, M, sG, hGD, dac, fr⟩
      refine ⟨rfl, yes_of ?_⟩
      obtain ⟨d, N, hd, hqx, _⟩ := da.get hx
      have dm : d ∈ ds := List.mem_of_getElem? hd
      refine ⟨_, rfl, x, d, N, rfl, hqx.same sG, rd d dm, fun e he => ok e (rowsD_mem dm he), fun u M1 G2 s3 q1 f1 => ?_⟩
      have al : acc.length ≤ 100 := by
        have h1 := dac.len
        rw [List.length_take] at h1
        omega
      have fr1 : ∀ x ∈ M1, H x = none ∧ x ≠ D := fun x m => ⟨sG.free (f1 x m), fun z => by have := f1 x m; rw [z, hGD] at this; cases this⟩
      refine ⟨acc, s3 _ _ hGD, small1000 (by omega), acc ++ [u], M ++ M1, fun b o e => (upd_ne (ne_of_none e hD)).trans (s3 _ _ (sG _ _ e)), upd_same, ?_, fun x m => (List.mem_append.mp m).elim (fr x) (fr1 x)⟩
      have kp : ∀ {X : List Addr}, (∀ x ∈ X, H x = none ∧ x ≠ D) → KeepL X G2 (upd G2 D (.lst (acc ++ [u]))) := fun h => ⟨fun b m => upd_ne (h b m).2, fun b us e => (upd_ne (fun z : b = D => by rw [z, s3 _ _ hGD] at e; cases e)).trans e⟩
      rw [take_next hd]
      exact ((dac.same s3).keep (kp fr)).snoc (q1.keep (kp fr1))
    · rintro G' ⟨acc, M, sG, hGD, dac, fr⟩
      rw [da.len, List.take_length] at dac
      exact kk D (D :: M) G' sG (.lst hGD dac) fun x m => (List.mem_cons.mp m).elim (fun e => by rw [e]; exact hD) fun m => (fr x m).1
theorem ok_copies {f fB fW fC : Addr} {fd fdB fdW fdC : FuncData} {ws fs : List Str} (F : Fun K "copied_row" "copied_row" S_copied_row f fd) (FC : Fun K "copied_rows" "copied_rows" S_copied_rows fC fdC) (B : Bl mg)
    (d_branches : Df K mg "branches" S_branches fB fdB P_branches) (G_branches : FnOk P w K mg base CX0 1 fB fdB P_branches (spPartsOf "rows"))
    (d_with_branches : Df K mg "with_branches" S_with_branches fW fdW P_with_branches) (G_with_branches : FnOk P w K mg base CX0 1 fW fdW P_with_branches spWithB)
    (d_copied_row : Df K mg "copied_row" S_copied_row f fd P_copied_row) (d_copied_rows : Df K mg "copied_rows" S_copied_rows fC fdC P_copied_rows) : ∀ n : Nat, FnOk P w K mg base CX0 (2 * n + 2) f fd P_copied_row (spCopyR ws fs n) ∧ FnOk P w K mg base CX0 (2 * n + 3) fC fdC P_copied_rows (spCopies ws fs n)
  | 0 => by
    have a := ok_copied_row (ws := ws) (fs := fs) F B 0 d_branches G_branches d_with_branches G_with_branches d_copied_rows ⟨fun _ _ _ _ h => False.elim h, fun _ _ _ _ _ _ _ _ _ _ _ _ _ h => False.elim h⟩
    exact ⟨a, ok_copied_rows_step FC B 0 d_copied_row a⟩
  | n + 1 => by
    have z := (ok_copies (ws := ws) (fs := fs) F FC B d_branches G_branches d_with_branches G_with_branches d_copied_row d_copied_rows n).2
    have a := ok_copied_row (ws := ws) (fs := fs) F B (n + 1) d_branches G_branches d_with_branches G_with_branches d_copied_rows z
    exact ⟨a, ok_copied_rows_step FC B (n + 1) d_copied_row a⟩
end
end TW
set_option Elab.async false
set_option linter.all false
set_option maxRecDepth 100000
namespace TW
open PySem PySem.Spec PyProof.Rows L2 TL
theorem kdW {K : PySem.W.Frag} {H : Hp} {z : Str} (h : z.length ≤ 1000) : Kd K H (.str z) "str" := ⟨by decide, .base (.str _), fun y e => by cases e; omega⟩
theorem kdI {K : PySem.W.Frag} {H : Hp} {i : Int} : Kd K H (.int i) "int" := ⟨by decide, .base (.int _), fun y e => by cases e⟩
def spDepth (K : PySem.W.Frag) : Sp := fun vs H Q _ => ∃ x T, vs = [x] ∧ Kd K H x T ∧ Q (.bl (btw x 0 4)) H
def spRight (K : PySem.W.Frag) (ws fs : List Str) : Sp := fun vs H Q _ => ∃ (u : V) (role : Str) (a : Addr) (d : PyData) (L : List Addr), vs = [u, .str role, .ref a] ∧ PartOk ws fs role d ∧ Dq H u d L ∧ (SqL K H a (fs.map V.str) ∨ SqT K H a (fs.map V.str)) ∧ (∀ x ∈ ws, IsW x) ∧ (∀ x ∈ fs, IsW x) ∧ ∀ H', Same H H' → Q (.bl true) H'
abbrev S_is_depth : Stmt := topS 26
abbrev N_is_depth : List Str := ["value"]
abbrev P_is_depth : List Str := ["value"]
theorem sc_is_depth : FnScope N_is_depth P_is_depth (defScope S_is_depth) := ⟨rfl, rfl, rfl, by decide +kernel, rfl, by decide +kernel, by decide +kernel⟩
abbrev S_is_right : Stmt := topS 25
abbrev N_is_right : List Str := ["part", "role", "fields"]
abbrev P_is_right : List Str := ["part", "role", "fields"]
theorem sc_is_right : FnScope N_is_right P_is_right (defScope S_is_right) := ⟨rfl, rfl, rfl, by decide +kernel, rfl, by decide +kernel, by decide +kernel⟩
abbrev S_has_form : Stmt := topS 23
abbrev N_has_form : List Str := ["row", "roles", "part", "role"]
abbrev P_has_form : List Str := ["row"]
theorem sc_has_form : FnScope N_has_form P_has_form (defScope S_has_form) := ⟨rfl, rfl, rfl, by decide +kernel, rfl, by decide +kernel, by decide +kernel⟩
abbrev S_has_names : Stmt := topS 24
abbrev N_has_names : List Str := ["row", "fields", "part", "role"]
abbrev P_has_names : List Str := ["row", "fields"]
theorem sc_has_names : FnScope N_has_names P_has_names (defScope S_has_names) := ⟨rfl, rfl, rfl, by decide +kernel, rfl, by decide +kernel, by decide +kernel⟩
theorem same_lit {a b : Str} {p : Prop} (hb : decide (V.str a = V.str b) = true) (n : ¬ a = b) : p := absurd (V.str.inj (of_decide_eq_true hb)) n
section
variable {P : Program} {w : World} {K : PySem.W.Frag} {mg : Str → Option Value} {base : Heap}
set_option maxHeartbeats 4000000 in
theorem ok_is_depth {f fB : Addr} {fd fdB : FuncData} {t : Tok} (F : Fun K "is_depth" "is_depth" S_is_depth f fd) (d_is_between : Df K mg "is_between" S_is_between fB fdB P_is_between) (G_is_between : FnOk P w K mg base CX0 2 fB fdB P_is_between (spBtw K)) (m_MOST_DEPTH : mg "MOST_DEPTH" = some (.int 4 t)) :
    FnOk P w K mg base CX0 3 f fd P_is_depth (spDepth K) := by
  refine F.ok sc_is_depth (fun vs H Q E h => ?_) (fun cdv A outer s H vs Q E hr h => ?_)
  · obtain ⟨x, T, rfl, _⟩ := h
    rfl
  · obtain ⟨x, T, rfl, hk, kk⟩ := h
    have hr_is_between : Room 2 _ := hr.mono (Nat.le_refl _)
    refine ⟨_, (pss_one (ps_ret (pe_call G_is_between hr_is_between rfl d_is_between.g d_is_between.F.kp d_is_between.b .nil pass0 (pa_cons (pv 0) (pa_cons pe_int (pa_cons (pe_glob (v := .int _) rfl m_MOST_DEPTH ⟨_, rfl⟩) pa_nil)))))), ?_⟩
    exact ⟨_, rfl, x, T, 0, 4, rfl, hk, kk⟩
set_option maxHeartbeats 4000000 in
theorem ok_is_right {f fO fD fW DK : Addr} {fd fdO fdD fdW : FuncData} {ws fs : List Str} (F : Fun K "is_right" "is_right" S_is_right f fd) (d_is_one_of : Df K mg "is_one_of" S_is_one_of fO fdO P_is_one_of) (G_is_one_of : FnOk P w K mg base CX0 1 fO fdO P_is_one_of (spOneOf K))
    (d_is_depth : Df K mg "is_depth" S_is_depth fD fdD P_is_depth) (G_is_depth : FnOk P w K mg base CX0 3 fD fdD P_is_depth (spDepth K)) (d_is_word : Df K mg "is_word" S_is_word fW fdW P_is_word) (G_is_word : FnOk P w K mg base CX0 1 fW fdW P_is_word (spIsW K))
    (m_KINDS : mg "KINDS" = some (.ref DK)) (hK : ∀ H, SqT K H DK (([("freeze" : Str), ("thaw" : Str)]).map V.str)) : FnOk P w K mg base CX0 4 f fd P_is_right (spRight K ws fs) := by
  refine F.ok sc_is_right (fun vs H Q E h => ?_) (fun cdv A outer s H vs Q E hr h => ?_)
  · obtain ⟨u, role, a, d, L, rfl, _⟩ := h
    rfl
  · obtain ⟨u, role, a, d, L, rfl, hp, hq, hS, hw, hf, kk⟩ := h
    have hr_is_one_of : Room 1 _ := hr.mono (by decide)
    have hr_is_depth : Room 3 _ := hr.mono (by decide)
    have hr_is_word : Room 1 _ := hr.mono (by decide)
    refine ⟨_, (pss_cons (ps_if (pt_cmpR op_eq (pv 1) pe_str (nomark _)) (pss_one (ps_ret (pe_call G_is_one_of hr_is_one_of rfl d_is_one_of.g d_is_one_of.F.kp d_is_one_of.b .nil pass0 (pa_cons (pv 0) (pa_cons (pv 2) pa_nil))))) pss_nil)
 (pss_cons (ps_if (pt_cmpR op_eq (pv 1) pe_str (nomark _)) (pss_one (ps_ret (pe_call G_is_one_of hr_is_one_of rfl d_is_one_of.g d_is_one_of.F.kp d_is_one_of.b .nil pass0 (pa_cons (pv 0) (pa_cons (pe_glob (v := .ref DK) rfl m_KINDS rfl) pa_nil))))) pss_nil)
 (pss_cons (ps_if (pt_cmpR op_eq (pv 1) pe_str (nomark _)) (pss_one (ps_ret (pe_call G_is_depth hr_is_depth rfl d_is_depth.g d_is_depth.F.kp d_is_depth.b .nil pass0 (pa_cons (pv 0) pa_nil)))) pss_nil)
 (pss_one (ps_ret (pe_or (pe_cmpR op_eq (pv 1) pe_str (nomark _)) (pe_one (pe_call G_is_word hr_is_word rfl d_is_word.g d_is_word.F.kp d_is_word.b .nil pass0 (pa_cons (pv 0) pa_nil))))))))), ?_⟩
    cases hp with
    | @field x h =>
      cases hq with
      | str _ =>
      refine ⟨_, rfl, rfl, _, rfl, ite_dec (fun _ => ?_) (fun hb => absurd rfl (of_decide_eq_false hb))⟩
      refine ⟨_, rfl, _, rfl, _, "str", a, fs, rfl, kdW (by have := (hf x h).2.1; omega), .inr hS, ?_⟩
      rw [show oneOf (.str x) fs = true from decide_eq_true h]
      exact kk H (Same.refl H)
    | @kind x h =>
      cases hq with
      | str _ =>
      refine ⟨_, rfl, rfl, _, rfl, ite_dec (fun hb => same_lit hb (by decide +kernel)) (fun _ => ?_)⟩
      refine ⟨_, rfl, rfl, _, rfl, ite_dec (fun _ => ?_) (fun hb => absurd rfl (of_decide_eq_false hb))⟩
      have hl : x.length ≤ 1000 := by rcases h with rfl | rfl <;> decide +kernel
      refine ⟨_, rfl, _, "str", DK, _, rfl, kdW hl, .inr (.inr (hK _)), ?_⟩
      rw [show oneOf (.str x) [("freeze" : Str), ("thaw" : Str)] = true from decide_eq_true (by rcases h with h | h <;> rw [h] <;> simp)]
      exact kk H (Same.refl H)
    | @depth i h0 h1 =>
      cases hq with
      | int _ =>
      refine ⟨_, rfl, rfl, _, rfl, ite_dec (fun hb => same_lit hb (by decide +kernel)) (fun _ => ?_)⟩
      refine ⟨_, rfl, rfl, _, rfl, ite_dec (fun hb => same_lit hb (by decide +kernel)) (fun _ => ?_)⟩
      refine ⟨_, rfl, rfl, _, rfl, ite_dec (fun _ => ?_) (fun hb => absurd rfl (of_decide_eq_false hb))⟩
      refine ⟨_, rfl, _, "int", rfl, kdI, ?_⟩
      rw [show btw (.int i) 0 4 = true by simp [btw, h0, h1]]
      exact kk H (Same.refl H)
    | rows =>
      refine ⟨_, rfl, rfl, _, rfl, ite_dec (fun hb => same_lit hb (by decide +kernel)) (fun _ => ?_)⟩
      refine ⟨_, rfl, rfl, _, rfl, ite_dec (fun hb => same_lit hb (by decide +kernel)) (fun _ => ?_)⟩
      refine ⟨_, rfl, rfl, _, rfl, ite_dec (fun hb => same_lit hb (by decide +kernel)) (fun _ => ?_)⟩
      exact ⟨_, rfl, rfl, _, rfl, ite_dec (fun _ => kk H (Same.refl H)) (fun hb => absurd rfl (of_decide_eq_false hb))⟩
    | @var x h =>
      cases hq with
      | str _ =>
      refine ⟨_, rfl, rfl, _, rfl, ite_dec (fun hb => same_lit hb (by decide +kernel)) (fun _ => ?_)⟩
      refine ⟨_, rfl, rfl, _, rfl, ite_dec (fun hb => same_lit hb (by decide +kernel)) (fun _ => ?_)⟩
      refine ⟨_, rfl, rfl, _, rfl, ite_dec (fun hb => same_lit hb (by decide +kernel)) (fun _ => ?_)⟩
      refine ⟨_, rfl, rfl, _, rfl, ite_dec (fun hb => same_lit hb (by decide +kernel)) (fun _ => ?_)⟩
      refine ⟨_, rfl, _, "str", rfl, kdW (by have := (hw x h).2.1; omega), fun H' s' => ?_⟩
      rw [show isWb (.str x) = true from decide_eq_true (hw x h)]
      exact kk H' s'
    | @reader x h =>
      cases hq with
      | str _ =>
      refine ⟨_, rfl, rfl, _, rfl, ite_dec (fun hb => same_lit hb (by decide +kernel)) (fun _ => ?_)⟩
      refine ⟨_, rfl, rfl, _, rfl, ite_dec (fun hb => same_lit hb (by decide +kernel)) (fun _ => ?_)⟩
      refine ⟨_, rfl, rfl, _, rfl, ite_dec (fun hb => same_lit hb (by decide +kernel)) (fun _ => ?_)⟩
      refine ⟨_, rfl, rfl, _, rfl, ite_dec (fun hb => same_lit hb (by decide +kernel)) (fun _ => ?_)⟩
      refine ⟨_, rfl, _, "str", rfl, kdW (by have := h.2.1; omega), fun H' s' => ?_⟩
      rw [show isWb (.str x) = true from decide_eq_true h]
      exact kk H' s'
end
/-- the parts of a row, each in its role -/
theorem PartsOk.at {ws fs : List Str} {H : Hp} : ∀ {rs : List Str} {ps : List PyData} {us : List V} {L : List Addr} {i : Nat} {u : V} {r : Str}, PartsOk ws fs rs ps → DqAll H us ps L → us[i]? = some u → rs[i]? = some r → ∃ d M, PartOk ws fs r d ∧ Dq H u d M
  | _, _, _, _, i, _, _, .nil, .nil, h, _ => by simp at h
  | _, _, _, _, 0, _, _, .cons p _, .cons q _, h, g => by
    rw [← Option.some.inj h, ← Option.some.inj g]
    exact ⟨_, _, p, q⟩
  | _, _, _, _, i + 1, _, _, .cons _ p, .cons _ q, h, g => PartsOk.at (i := i) p q h g
def spForm (ws fs : List Str) : Sp := fun vs H Q _ => ∃ (r : Addr) (d : PyData) (k : Str) (us : List V) (rs : List Str) (ps : List PyData) (L : List Addr), vs = [.ref r] ∧ RowG ws fs H r d k us rs ps L ∧ ∀ H', Same H H' → Q (.bl true) H'
def spNamesR (K : PySem.W.Frag) (ws fs : List Str) : Sp := fun vs H Q _ => ∃ (r a : Addr) (d : PyData) (k : Str) (us : List V) (rs : List Str) (ps : List PyData) (L : List Addr), vs = [.ref r, .ref a] ∧ RowG ws fs H r d k us rs ps L ∧ (SqL K H a (fs.map V.str) ∨ SqT K H a (fs.map V.str)) ∧ (∀ x ∈ ws, IsW x) ∧ (∀ x ∈ fs, IsW x) ∧ ∀ H', Same H H' → Q (.bl true) H'
section
variable {P : Program} {w : World} {K : PySem.W.Frag} {mg : Str → Option Value} {base : Heap}
set_option maxHeartbeats 4000000 in
theorem ok_has_names {f fR DF : Addr} {fd fdR : FuncData} {es : Array DictEntry} {nE : Nat} {ws fs : List Str} (F : Fun K "has_names" "has_names" S_has_names f fd) (B : Bl mg) (FM : FormsK K w mg DF es nE) (d_is_right : Df K mg "is_right" S_is_right fR fdR P_is_right) (G_is_right : FnOk P w K mg base CX0 4 fR fdR P_is_right (spRight K ws fs)) :
    FnOk P w K mg base CX0 5 f fd P_has_names (spNamesR K ws fs) := by
  refine F.ok sc_has_names (fun vs H Q E h => ?_) (fun cdv A outer s H vs Q E hr h => ?_)
  · obtain ⟨r, a, d, k, us, rs, ps, L, rfl, _⟩ := h
    rfl
  · obtain ⟨r, a, d, k, us, rs, ps, L, rfl, G, hS, hw, hf, kk⟩ := h
    have hr_is_right : Room 4 _ := hr.mono (Nat.le_refl _)
    obtain ⟨T, hT, hST⟩ := FM.at' G.rV.l
    obtain ⟨f1, f4⟩ := forms_len G.rV.l
    have un := G.rV.n
    refine ⟨_, (pss_one (ps_ret (pe_callB (cr_all rfl) (by rfl) B.m_all (by decide +kernel) (pa_cons (pe_lc (own := [("part", 2), ("role", 3)]) (tt := tYes) rfl sc_has_names.nd (RZ.pi_zipA (by rfl) B.m_zip (pa_cons (pe_slice sl_tup (pv 0) (po_some pe_int) po_none) (pa_cons (pe_ix ix_kdict (pe_glob (v := .ref DF) rfl FM.g rfl) (pe_ix ix_tup (pv 0) pe_int (fun _ _ => rfl)) (fun _ _ => rfl)) pa_nil))) (blkOk_by (own := [("part", 2), ("role", 3)]) (N := N_has_names) (sc := defScope S_has_names) (by decide +kernel)) (fun _ _ _ _ _ => (pg_tupK (K := K) (n := 2) rfl rfl (pgs_cons (pg_name (i := 2) sc_has_names.nd rfl (by first | exact Or.inl rfl | exact Or.inr rfl)) (pgs_cons (pg_name (i := 3) sc_has_names.nd rfl (by first | exact Or.inl rfl | exact Or.inr rfl)) pgs_nil)))) (fun _ _ _ _ _ => pts_nil) (fun _ _ _ _ _ => (pe_call G_is_right hr_is_right rfl d_is_right.g d_is_right.F.kp d_is_right.b .nil pass0 (pa_cons (pv 2) (pa_cons (pv 3) (pa_cons (pv 1) pa_nil)))))) pa_nil)))), ?_⟩
    refine ⟨_, rfl, _, rfl, r, _, rfl, SqT.of G.rV.t, ?_, fun p1 hp1 => ?_⟩
    · rw [sIx_one (by rw [List.length_cons]; omega)]
      exact fun z => absurd z.1 (by decide)
    rw [cutV_one]
    have s1 := same_new (o := .tup us) hp1
    refine ⟨_, rfl, r, _, 0, .str k, rfl, rfl, SqT.of (s1 _ _ G.rV.t), atI_of (j := 0) rfl rfl, DF, k, .ref T, rfl, rfl, FM.dct hT, p1, T, us, rs.map V.str, rfl, .inr ⟨SqT.of upd_same, hST _, fun D hD => ?_⟩⟩
    refine lc_zipT (xs := us) (ys := rs.map V.str) (by rw [List.length_map]; exact un) (fun i G' => Same (upd H p1 (.tup us)) G' ∧ G' D = some (.lst (List.replicate i (.bl true)))) ⟨same_new hD, upd_same⟩ ?_ ?_ ?_
    · rintro i G' ⟨sG, _⟩
      exact ⟨SqT.of (sG _ _ upd_same), hST G'⟩
    · rintro i x y T2 G' hx hy ⟨sG, hGD⟩ hT2
      obtain ⟨role, hrole, rfl⟩ := get_str hy
      have s2 := same_new (o := .tup [x, .str role]) hT2
      have iu : i < us.length := (List.getElem?_eq_some_iff.mp hx).1
      obtain ⟨d1, M1, hp, hq⟩ := G.rP.at G.rQ hx hrole
      refine ⟨T2, _, rfl, SqT.of upd_same, rfl, _, _, rfl, _, _, rfl, rfl, rfl, yes_of ?_⟩
      have s12 := (s1.trans sG).trans s2
      refine ⟨_, rfl, _, rfl, _, rfl, x, role, a, d1, M1, rfl, hp, hq.same s12, seq_same s12 hS, hw, hf, fun H' s' => ?_⟩
      refine ⟨_, s' _ _ (s2 _ _ hGD), by rw [List.length_replicate]; exact small1000 (by omega), fun b o e => (upd_ne (ne_of_none e hD)).trans (s' _ _ (s2 _ _ (sG _ _ e))), ?_⟩
      rw [upd_same, List.replicate_succ']
    · rintro G' ⟨sG, hGD⟩
      refine ⟨D, List.replicate us.length true, rfl, SqL.of (by rw [hGD, List.map_replicate]), ?_⟩
      have e : (List.replicate us.length true).all id = true := by rw [List.all_eq_true]; exact fun b hb => List.eq_of_mem_replicate hb
      rw [e]
      exact kk G' (s1.trans sG)
set_option maxHeartbeats 4000000 in
theorem ok_has_form {f DF : Addr} {fd : FuncData} {es : Array DictEntry} {nE : Nat} {ws fs : List Str} (F : Fun K "has_form" "has_form" S_has_form f fd) (B : Bl mg) (FM : FormsK K w mg DF es nE) : FnOk P w K mg base CX0 1 f fd P_has_form (spForm ws fs) := by
  refine F.ok sc_has_form (fun vs H Q E h => ?_) (fun cdv A outer s H vs Q E hr h => ?_)
  · obtain ⟨r, d, k, us, rs, ps, L, rfl, _⟩ := h
    rfl
  · obtain ⟨r, d, k, us, rs, ps, L, rfl, G, kk⟩ := h
    obtain ⟨T, hT, hST⟩ := FM.at' G.rV.l
    obtain ⟨f1, f4⟩ := forms_len G.rV.l
    have un := G.rV.n
    have hrt := G.rV.t
    have hk100 : k.length ≤ 1000 := by
      rcases forms_cases G.rV.l with ⟨rfl, _⟩ | ⟨rfl, _⟩ | ⟨rfl, _⟩ | ⟨rfl, _⟩ | ⟨rfl, _⟩ | ⟨rfl, _⟩ | ⟨rfl, _⟩ | ⟨rfl, _⟩ | ⟨rfl, _⟩ <;> decide +kernel
    refine ⟨_, (pss_cons (ps_if (PW.pt (pw_or (pt_not (pt_val (pe_callB call_isi (by rfl) B.m_isinstance (by decide +kernel) (pa_cons (pv 0) (pa_cons (pe_bltn (v := .ty "tuple") (by rfl) B.m_tuple (by decide +kernel) rfl) pa_nil))))) (pw_or1 (pt_cmpR op_eq (pe_callB call_len_seq (by rfl) B.m_len PySem.boot_len (pa_cons (pv 0) pa_nil)) pe_int (nomark _))))) (pss_one (ps_ret pe_bl)) pss_nil)
 (pss_cons (ps_if (PW.pt (pw_or (pt_not (pt_val (pe_callB call_isi (by rfl) B.m_isinstance (by decide +kernel) (pa_cons (pe_ix ix_tup (pv 0) pe_int (fun _ _ => rfl)) (pa_cons (pe_bltn (v := .ty "str") (by rfl) B.m_str (by decide +kernel) rfl) pa_nil))))) (pw_or1 (pt_cmpR (op_notIn_kd FM.k) (pe_ix ix_tup (pv 0) pe_int (fun _ _ => rfl)) (pe_glob (v := .ref DF) rfl FM.g rfl) (by rfl))))) (pss_one (ps_ret pe_bl)) pss_nil)
 (pss_cons (ps_set (i := 1) sc_has_form.nd rfl (by first | exact Or.inl rfl | exact Or.inr rfl) (pe_ix ix_kdict (pe_glob (v := .ref DF) rfl FM.g rfl) (pe_ix ix_tup (pv 0) pe_int (fun _ _ => rfl)) (fun _ _ => rfl)))
 (pss_cons (ps_if (pt_cmpR op_ne (pe_callB call_len_seq (by rfl) B.m_len PySem.boot_len (pa_cons (pv 0) pa_nil)) (pe_op op_add (pe_callB call_len_seq (by rfl) B.m_len PySem.boot_len (pa_cons (pv 1) pa_nil)) pe_int) (nomark _)) (pss_one (ps_ret pe_bl)) pss_nil)
 (pss_one (ps_ret (pe_callB (cr_all rfl) (by rfl) B.m_all (by decide +kernel) (pa_cons (pe_lc (own := [("part", 2), ("role", 3)])  rfl sc_has_form.nd (RZ.pi_zipA (by rfl) B.m_zip (pa_cons (pe_slice sl_tup (pv 0) (po_some pe_int) po_none) (pa_cons (pv 1) pa_nil))) (blkOk_by (own := [("part", 2), ("role", 3)]) (N := N_has_form) (sc := defScope S_has_form) (by decide +kernel)) (fun _ _ _ _ _ => (pg_tupK (K := K) (n := 2) rfl rfl (pgs_cons (pg_name (i := 2) sc_has_form.nd rfl (by first | exact Or.inl rfl | exact Or.inr rfl)) (pgs_cons (pg_name (i := 3) sc_has_form.nd rfl (by first | exact Or.inl rfl | exact Or.inr rfl)) pgs_nil)))) (fun _ _ _ _ _ => pts_one (pt_cmpR op_eq (pv 3) pe_str (nomark _))) (fun _ _ _ _ _ => (pe_callB (call_isiK (K := K) rfl) (by rfl) B.m_isinstance (by decide +kernel) (pa_cons (pv 2) (pa_cons (pe_bltn (v := .ty "list") (by rfl) B.m_list (by decide +kernel) rfl) pa_nil))))) pa_nil)))))))), ?_⟩
    refine ⟨_, rfl, _, _, _, _, _, rfl, .ty "tuple", .base (.tup hrt), kit7_tuple (by decide), _, rfl, ?_⟩
    refine iteF ?_
    refine ⟨_, rfl, r, _, rfl, .inr (SqT.of hrt), rfl, _, rfl, ite_dec (fun hb => absurd (V.int.inj (of_decide_eq_true hb)) (by rw [List.length_cons]; omega)) (fun _ => ?_)⟩
    refine ⟨_, rfl, r, _, 0, .str k, rfl, rfl, SqT.of hrt, atI_of (j := 0) rfl rfl, _, _, _, _, _, rfl, .ty "str", .base (.str k), kit7_str (by decide), _, rfl, ?_⟩
    refine iteF ?_
    refine ⟨_, rfl, r, _, 0, .str k, rfl, rfl, SqT.of hrt, atI_of (j := 0) rfl rfl, k, _, rfl, rfl, hT, _, rfl, iteF ?_⟩
    refine ⟨_, rfl, r, _, 0, .str k, rfl, rfl, SqT.of hrt, atI_of (j := 0) rfl rfl, DF, k, .ref T, rfl, rfl, FM.dct hT, ?_⟩
    refine ⟨_, rfl, r, _, rfl, .inr (SqT.of hrt), _, rfl, T, _, rfl, .inr (hST _), _, _, rfl, rfl, rfl, _, rfl, ite_dec (fun hb => ?_) (fun _ => ?_)⟩
    · have : ((V.str k :: us).length : Int) = ((rs.map V.str).length : Int) + 1 := by
        rw [List.length_cons, List.length_map, un]
        rfl
      rw [this] at hb
      simp at hb
    refine ⟨_, rfl, _, rfl, r, _, rfl, SqT.of hrt, ?_, fun p1 hp1 => ?_⟩
    · rw [sIx_one (by rw [List.length_cons]; omega)]
      exact fun z => absurd z.1 (by decide)
    rw [cutV_one]
    have s1 := same_new (o := .tup us) hp1
    refine ⟨_, rfl, p1, T, us, rs.map V.str, rfl, .inr ⟨SqT.of upd_same, hST _, fun D hD => ?_⟩⟩
    refine lc_zipT (xs := us) (ys := rs.map V.str) (by rw [List.length_map]; exact un) (fun i G' => Same (upd H p1 (.tup us)) G' ∧ ∃ j, j ≤ i ∧ G' D = some (.lst (List.replicate j (.bl true)))) ⟨same_new hD, 0, Nat.le_refl _, upd_same⟩ ?_ ?_ ?_
    · rintro i G' ⟨sG, _⟩
      exact ⟨SqT.of (sG _ _ upd_same), hST G'⟩
    · rintro i x y T2 G' hx hy ⟨sG, j, hj, hGD⟩ hT2
      obtain ⟨role, hrole, rfl⟩ := get_str hy
      have s2 := same_new (o := .tup [x, .str role]) hT2
      have iu : i < us.length := (List.getElem?_eq_some_iff.mp hx).1
      obtain ⟨d1, M1, hp, hq⟩ := G.rP.at G.rQ hx hrole
      refine ⟨T2, _, rfl, SqT.of upd_same, rfl, _, _, rfl, _, _, rfl, rfl, rfl, ?_⟩
      have s12 := (s1.trans sG).trans s2
      refine ⟨_, rfl, rfl, _, rfl, ite_dec (fun hb => ?_) (fun hb => ⟨sG.trans s2, j, Nat.le_succ_of_le hj, s2 _ _ hGD⟩)⟩
      have hz : role = "rows" := V.str.inj (of_decide_eq_true hb)
      obtain ⟨pa, ys, rfl, hpa⟩ : ∃ pa ys, x = .ref pa ∧ H pa = some (.lst ys) := by
        cases hp with
        | var h => exact absurd hz (by decide +kernel)
        | field h => exact absurd hz (by decide +kernel)
        | kind h => exact absurd hz (by decide +kernel)
        | depth _ _ => exact absurd hz (by decide +kernel)
        | reader h => exact absurd hz (by decide +kernel)
        | rows =>
          cases hq with
          | lst e _ => exact ⟨_, _, rfl, e⟩
      refine ⟨_, rfl, _, _, _, _, _, rfl, .ty "list", .base (.lst (s12 _ _ hpa)), kit7_list (by decide), List.replicate j (.bl true), s2 _ _ hGD, by rw [List.length_replicate]; exact small1000 (by omega), fun b o e => (upd_ne (ne_of_none e hD)).trans (s2 _ _ (sG _ _ e)), j + 1, Nat.succ_le_succ hj, ?_⟩
      rw [upd_same, List.replicate_succ']
      rfl
    · rintro G' ⟨sG, j, hj, hGD⟩
      refine ⟨D, List.replicate j true, rfl, SqL.of (by rw [hGD, List.map_replicate]), ?_⟩
      have e : (List.replicate j true).all id = true := by rw [List.all_eq_true]; exact fun b hb => List.eq_of_mem_replicate hb
      rw [e]
      exact kk G' (s1.trans sG)
end
end TW
set_option Elab.async false
set_option linter.all false
set_option maxRecDepth 100000
namespace L2
open PySem PySem.Spec PyProof.Rows
section
variable {X : Cx}
/-- xs.count(x), flat items -/
def rCountL (K : PySem.W.Frag) : V → List V → Hp → VK → Prop := fun x xs H Q => ∃ (a : Addr) (ys : List V) (y : V), x = V.ref a ∧ xs = [y] ∧ SqL K H a ys ∧ flatV y = true ∧ ys.all flatV = true ∧ Q (.int ((ys.countP fun z => eqV z y : Nat) : Int)) H
theorem countU {y : V} {uy : Value} (ry : RelV y uy) : ∀ {ys : List V} {its : List Value}, Vals ys its → ys.all flatV = true → its.countP (eqU y) = ys.countP fun z => eqV z y
  | _, _, .nil, _ => rfl
  | z :: ys, u :: its, .cons r t, f => by
    rw [List.all_cons, Bool.and_eq_true] at f
    rw [List.countP_cons, List.countP_cons, countU ry t f.2, eqU_of r f.1]
theorem mt_countL : MtR X "list.count" (rCountL X.K) := by
  intro pins s σ H x xs v us Q I rx rxs h
  obtain ⟨a, ys, y, rfl, rfl, hs, fy, fys, q⟩ := h
  cases rx
  cases rxs with
  | cons ry rt =>
    rename_i uy ut
    cases rt
    obtain ⟨its, rv, ⟨⟨cls, dd, data, sl⟩, n, ho, hc, hdn, hd⟩, hlen⟩ := I.list hs
    simp only at hc hd
    subst hc hd
    refine call_meets PySem.F.slot_list_count ⟨_, ho, rfl⟩ PySem.F.entry_list_count (PySem.F.args_list_count_2 _ _)
      (SeqAt.list_countAt a its.toArray n dd sl uy (eqU y)) ⟨ho, fun u' hu' => mem_eqAt ry fy rv fys u' (by simpa using hu'), ?_⟩
    refine ⟨.int ((its.toArray.toList.countP (eqU y) : Nat) : Int), H, I.tok _, ⟨_, rfl⟩, ?_⟩
    rw [show its.toArray.toList = its from rfl, countU ry rv fys]
    exact q
end
end L2
namespace TW
open PySem PySem.Spec PyProof.Rows L2 TL
theorem op_catAK {X : Cx} {K : PySem.W.Frag} (h : X.K = K) : OpR X (binaryOp .Add) (rCatA K) := h ▸ op_catA
/-- a loop over enumerate(list) -/
theorem for_enumL {K : PySem.W.Frag} {a : Addr} {xs : List V} {g : TG} {tb : TS} {D : Ends} {σ : L2.St} {H : Hp} (Pv : Nat → L2.St → Hp → Prop) (h0 : Pv 0 σ H) (hq : ∀ i σ H, Pv i σ H → SqL K H a xs)
    (hs : ∀ (i : Nat) (x : V) (T : Addr) (σ : L2.St) (H : Hp), xs[i]? = some x → Pv i σ H → H T = none → g (.ref T) σ (upd H T (.tup [.int (i : Nat), x])) fun σ2 H2 => tb { D with nx := Pv (i + 1), ct := Pv (i + 1), bk := D.nx } σ2 H2) (hd : ∀ σ H, Pv xs.length σ H → D.nx σ H) :
    ∃ W : Nat → Nat → L2.St → Hp → Prop, (∃ m, W 0 m σ H) ∧ ∀ i m σ H, W i m σ H →
      ((Ite K a).stop i H ∧ D.nx σ H) ∨ ((Ite K a).go i H ∧ ∃ N : L2.St → Hp → Prop, (∀ σ' H', N σ' H' → ∃ m', m' < m ∧ W (i + 1) m' σ' H') ∧ ∀ v H', (Ite K a).yld i H v H' → g v σ H' fun σ2 H2 => tb { D with nx := N, ct := N, bk := D.nx } σ2 H2) := by
  refine ⟨fun i m σ H => m = xs.length - i ∧ i ≤ xs.length ∧ Pv i σ H, ⟨xs.length, rfl, Nat.zero_le _, h0⟩, ?_⟩
  rintro i m σ H ⟨rfl, hi, p⟩
  have qx := hq i σ H p
  by_cases hlt : i < xs.length
  · have hx : xs[i]? = some xs[i] := List.getElem?_eq_getElem hlt
    refine .inr ⟨⟨xs, _, qx, hx⟩, Pv (i + 1), fun σ' H' p' => ⟨xs.length - (i + 1), by omega, rfl, hlt, p'⟩, fun v H' hv => ?_⟩
    obtain ⟨T, x, rfl, hT, rfl, h1⟩ := hv
    exact hs i x T σ H (h1 _ qx) p hT
  · have e : i = xs.length := by omega
    subst e
    exact .inl ⟨⟨xs, qx, Nat.le_refl _⟩, hd σ H p⟩
/-- a comprehension over enumerate(list) -/
theorem lc_enumL {K : PySem.W.Frag} {a : Addr} {xs : List V} {g : TG} {tt : TT} {te : TE} {vs : List Nat} {σ : L2.St} {H1 : Hp} {D : Addr} {Qd : Hp → Prop} (Pv : Nat → Hp → Prop) (h0 : Pv 0 (upd H1 D (.lst []))) (hq : ∀ i H, Pv i H → SqL K H a xs)
    (hs : ∀ (i : Nat) (x : V) (T : Addr) (H : Hp), xs[i]? = some x → Pv i H → H T = none → g (.ref T) (wipe σ vs) (upd H T (.tup [.int (i : Nat), x])) fun σ2 H2 => wipe σ2 vs = wipe σ vs ∧ tt σ2 H2 fun b H3 =>
      if b = true then te σ2 H3 fun y H4 => ∃ acc, H4 D = some (.lst acc) ∧ acc.length < sizeLine ∧ Pv (i + 1) (upd H4 D (.lst (acc ++ [y]))) else Pv (i + 1) H3) (hd : ∀ H, Pv xs.length H → Qd H) :
    ∃ W : Nat → Nat → Hp → Prop, (∃ m, W 0 m (upd H1 D (.lst []))) ∧ ∀ i m H, W i m H →
      ((Ite K a).stop i H ∧ Qd H) ∨ ((Ite K a).go i H ∧ ∃ Nx : Hp → Prop, (∀ H', Nx H' → ∃ m', m' < m ∧ W (i + 1) m' H') ∧ ∀ y H', (Ite K a).yld i H y H' → g y (wipe σ vs) H' fun σ2 H2 => wipe σ2 vs = wipe σ vs ∧ tt σ2 H2 fun b H3 =>
        if b = true then te σ2 H3 fun y H4 => ∃ acc, H4 D = some (.lst acc) ∧ acc.length < sizeLine ∧ Nx (upd H4 D (.lst (acc ++ [y]))) else Nx H3) := by
  refine ⟨fun i m H => m = xs.length - i ∧ i ≤ xs.length ∧ Pv i H, ⟨xs.length, by simp, Nat.zero_le _, h0⟩, ?_⟩
  rintro i m H ⟨rfl, hi, p⟩
  have qa := hq i H p
  by_cases hlt : i < xs.length
  · have hx : xs[i]? = some xs[i] := List.getElem?_eq_getElem hlt
    refine .inr ⟨⟨xs, _, qa, hx⟩, Pv (i + 1), fun H' p' => ⟨xs.length - (i + 1), by omega, rfl, hlt, p'⟩, fun v H' hv => ?_⟩
    obtain ⟨T, x, rfl, hT, rfl, h1⟩ := hv
    exact hs i x T H (h1 _ qa) p hT
  · have e : i = xs.length := by omega
    subst e
    exact .inl ⟨⟨xs, qa, Nat.le_refl _⟩, hd H p⟩
end TW
set_option Elab.async false
set_option linter.all false
set_option maxRecDepth 100000
namespace TW
open PySem PySem.Spec PyProof.Rows L2 TL
/-- rows with their places, on one level -/
def placed (bs : List Int) (ds : List PyData) : List (List Int × PyData) := ds.zipIdx.map fun p => (bs ++ [(p.2 : Int)], p.1)
def innerP (bs : List Int) (d : PyData) : List (List Int × PyData) := placed (bs ++ [0]) (inner d).1 ++ placed (bs ++ [1]) (inner d).2
theorem placed_take {bs : List Int} {ds : List PyData} {i : Nat} {d : PyData} (h : ds[i]? = some d) : placed bs (ds.take (i + 1)) = placed bs (ds.take i) ++ [(bs ++ [(i : Int)], d)] := by
  have hi : i < ds.length := (List.getElem?_eq_some_iff.mp h).1
  have e : (ds.take i).length = i := by rw [List.length_take]; omega
  unfold placed
  rw [take_next h, List.zipIdx_append, List.map_append]
  simp [e]
theorem placed_len {bs : List Int} {ds : List PyData} : (placed bs ds).length = ds.length := by
  unfold placed
  rw [List.length_map, List.length_zipIdx]
def spPlaced (K : PySem.W.Frag) : Sp := fun vs H Q _ => ∃ (a q : Addr) (ds : List PyData) (L : List Addr) (bs : List Int), vs = [.ref a, .ref q] ∧ Dq H (.ref a) (.list ds) L ∧ SqT K H q (bs.map V.int) ∧ ds.length ≤ 100 ∧ bs.length ≤ 90 ∧
  ∀ (b : Addr) (ys : List V) (M : List Addr) (H' : Hp), Same H H' → H b = none → H' b = some (.lst ys) → DqAll H' ys ((placed bs ds).map pd) M → (∀ x ∈ M, x ∈ L) → Q (.ref b) H'
abbrev S_placed_rows : Stmt := topS 33
abbrev N_placed_rows : List Str := ["rows", "place", "index", "row"]
abbrev P_placed_rows : List Str := ["rows", "place"]
theorem sc_placed_rows : FnScope N_placed_rows P_placed_rows (defScope S_placed_rows) := ⟨rfl, rfl, rfl, by decide +kernel, rfl, by decide +kernel, by decide +kernel⟩
section
variable {P : Program} {w : World} {K : PySem.W.Frag} {mg : Str → Option Value} {base : Heap}
set_option maxHeartbeats 4000000 in
theorem ok_placed_rows {f : Addr} {fd : FuncData} (F : Fun K "placed_rows" "placed_rows" S_placed_rows f fd) (B : Bl mg) : FnOk P w K mg base CX0 1 f fd P_placed_rows (spPlaced K) := by
  refine F.ok sc_placed_rows (fun vs H Q E h => ?_) (fun cdv A outer s H vs Q E hr h => ?_)
  · obtain ⟨a, q, ds, L, bs, rfl, _⟩ := h
    rfl
  · obtain ⟨a, q, ds, L, bs, rfl, hd, hq, l100, b90, kk⟩ := h
    have hthere := hd.there
    cases hd with
    | @lst _ xs _ L0 ha da =>
    refine ⟨_, (pss_one (ps_ret (pe_lc (own := [("index", 2), ("row", 3)]) (tt := tYes) rfl sc_placed_rows.nd (pi_enum (by rfl) B.m_enumerate (pa_cons (pv 0) pa_nil)) (blkOk_by (own := [("index", 2), ("row", 3)]) (N := N_placed_rows) (sc := defScope S_placed_rows) (by decide +kernel)) (fun _ _ _ _ _ => (pg_tupK (K := K) (n := 2) rfl rfl (pgs_cons (pg_name (i := 2) sc_placed_rows.nd rfl (by first | exact Or.inl rfl | exact Or.inr rfl)) (pgs_cons (pg_name (i := 3) sc_placed_rows.nd rfl (by first | exact Or.inl rfl | exact Or.inr rfl)) pgs_nil)))) (fun _ _ _ _ _ => pts_nil) (fun _ _ _ _ _ => (pe_tup (pa_cons (pe_op (op_catAK (K := K) rfl) (pv 1) (pe_tup (pa_cons (pv 2) pa_nil))) (pa_cons (pv 3) pa_nil))))))), ?_⟩
    refine ⟨_, rfl, a, xs, rfl, SqL.of ha, fun D hD => ?_⟩
    refine lc_enumL (xs := xs) (fun i G => ∃ (acc : List V) (M : List Addr), Same H G ∧ G D = some (.lst acc) ∧ DqAll G acc ((placed bs (ds.take i)).map pd) M ∧ (∀ x ∈ M, x ∈ L0)) ⟨[], [], same_new hD, upd_same, .nil, fun x m => nomatch m⟩ ?_ ?_ ?_
    · rintro i G ⟨acc, M, sG, _⟩
      exact SqL.of (sG _ _ ha)
    · rintro i x T G hx ⟨acc, M, sG, hGD, dac, sub⟩ hT
      have s1 := same_new (o := .tup [.int (i : Nat), x]) hT
      obtain ⟨d, N, hd, hqx, sN⟩ := da.get hx
      refine ⟨T, _, rfl, SqT.of upd_same, rfl, _, _, rfl, _, _, rfl, rfl, rfl, yes_of ?_⟩
      refine ⟨_, rfl, _, rfl, (by show 1 ≤ sizeLine; decide), fun t1 ht1 => ?_⟩
      have s2 := s1.trans (same_new (o := .tup [.int (i : Nat)]) ht1)
      have al : acc.length ≤ 100 := by
        have h1 := dac.len
        rw [List.length_map, placed_len, List.length_take] at h1
        omega
      have fin : ∀ {G2 : Hp} {pl : Addr}, Same G G2 → G2 pl = some (.tup ((bs ++ [(i : Int)]).map V.int)) → ∀ t3, G2 t3 = none → ∃ acc', (upd G2 t3 (.tup [.ref pl, x])) D = some (.lst acc') ∧ acc'.length < sizeLine ∧ ∃ (acc2 : List V) (M2 : List Addr), Same H (upd (upd G2 t3 (.tup [.ref pl, x])) D (.lst (acc' ++ [.ref t3]))) ∧
          (upd (upd G2 t3 (.tup [.ref pl, x])) D (.lst (acc' ++ [.ref t3]))) D = some (.lst acc2) ∧ DqAll (upd (upd G2 t3 (.tup [.ref pl, x])) D (.lst (acc' ++ [.ref t3]))) acc2 ((placed bs (ds.take (i + 1))).map pd) M2 ∧ (∀ x ∈ M2, x ∈ L0) := by
        intro G2 pl sG2 hpl t3 ht3
        have s3 := sG2.trans (same_new (o := .tup [.ref pl, x]) ht3)
        have hD3 := s3 _ _ hGD
        refine ⟨acc, hD3, small1000 (by omega), acc ++ [.ref t3], M ++ (N ++ []), fun b o e => (upd_ne (ne_of_none e hD)).trans (s3 _ _ (sG _ _ e)), upd_same, ?_, fun x m => ?_⟩
        · have kp : ∀ {X : List Addr}, (∀ x ∈ X, x ∈ L0) → KeepL X (upd G2 t3 (.tup [.ref pl, x])) (upd (upd G2 t3 (.tup [.ref pl, x])) D (.lst (acc ++ [.ref t3]))) := fun h => by
            refine ⟨fun b m => upd_ne fun z => ?_, fun b us e => (upd_ne (fun z : b = D => by rw [z, hD3] at e; cases e)).trans e⟩
            obtain ⟨us, e⟩ := hthere b (List.mem_cons_of_mem _ (h b m))
            rw [z, hD] at e
            cases e
          rw [placed_take hd, List.map_append]
          have k0 := kp (X := []) (fun x m => nomatch m)
          refine ((dac.same s3).keep (kp sub)).snoc (.tup (k0.t _ _ upd_same) (.cons (L := []) (.tup (k0.t _ _ ((upd_ne (ne_of_none hpl ht3)).trans hpl)) (dq_ints _)) (.cons ((hqx.same (sG.trans s3)).keep (kp sN)) .nil)))
        · rcases List.mem_append.mp m with m | m
          · exact sub x m
          · rw [List.append_nil] at m
            exact sN x m
      refine ⟨q, t1, bs.map V.int, [.int (i : Int)], rfl, rfl, sqt_same (sG.trans s2) hq, SqT.of upd_same, ?_, fun e => ?_, fun _ e => (nomatch e), fun _ _ p2 hp2 => ?_⟩
      · rw [List.length_map]
        exact Nat.le_of_lt (small1000 (by show bs.length + 1 ≤ 1000; omega))
      · refine ⟨_, rfl, (by show 2 ≤ sizeLine; decide), fun t3 ht3 => fin s2 ?_ t3 ht3⟩
        rw [upd_same, List.map_append, e]
        rfl
      · refine ⟨_, rfl, (by show 2 ≤ sizeLine; decide), fun t3 ht3 => fin (s2.trans (same_new hp2)) ?_ t3 ht3⟩
        rw [upd_same, List.map_append]
        rfl
    · rintro G ⟨acc, M, sG, hGD, dac, sub⟩
      rw [da.len, List.take_length] at dac
      exact kk D acc M G sG hD hGD dac fun x m => List.mem_cons_of_mem _ (sub x m)
end
def spInnerR (K : PySem.W.Frag) (ws fs : List Str) : Sp := fun vs H Q _ => ∃ (n : Nat) (v : V) (q : Addr) (d : PyData) (L : List Addr) (bs : List Int), vs = [v, .ref q] ∧ OkR ws fs d ∧ RowD n d ∧ Dq H v d L ∧ SqT K H q (bs.map V.int) ∧ bs.length ≤ 80 ∧
  ∀ (b : Addr) (ys : List V) (M : List Addr) (H' : Hp), Same H H' → H b = none → H' b = some (.lst ys) → DqAll H' ys ((innerP bs d).map pd) M → (∀ x ∈ M, x ∈ L) → Q (.ref b) H'
abbrev S_inner_rows : Stmt := topS 34
abbrev N_inner_rows : List Str := ["row", "place", "found", "branch", "rows"]
abbrev P_inner_rows : List Str := ["row", "place"]
theorem sc_inner_rows : FnScope N_inner_rows P_inner_rows (defScope S_inner_rows) := ⟨rfl, rfl, rfl, by decide +kernel, rfl, by decide +kernel, by decide +kernel⟩
section
variable {P : Program} {w : World} {K : PySem.W.Frag} {mg : Str → Option Value} {base : Heap}
set_option maxHeartbeats 4000000 in
theorem ok_inner_rows {f fB fP : Addr} {fd fdB fdP : FuncData} {ws fs : List Str} (F : Fun K "inner_rows" "inner_rows" S_inner_rows f fd) (B : Bl mg) (d_branches : Df K mg "branches" S_branches fB fdB P_branches) (G_branches : FnOk P w K mg base CX0 1 fB fdB P_branches (spPartsOf "rows"))
    (d_placed_rows : Df K mg "placed_rows" S_placed_rows fP fdP P_placed_rows) (G_placed_rows : FnOk P w K mg base CX0 1 fP fdP P_placed_rows (spPlaced K)) : FnOk P w K mg base CX0 2 f fd P_inner_rows (spInnerR K ws fs) := by
  refine F.ok sc_inner_rows (fun vs H Q E h => ?_) (fun cdv A outer s H vs Q E hr h => ?_)
  · obtain ⟨n, v, q, d, L, bs, rfl, _⟩ := h
    rfl
  · obtain ⟨n, v, q, d, L, bs, rfl, ok, rd, hq, hbs, b80, kk⟩ := h
    have hr_branches : Room 1 _ := hr.mono (by decide)
    have hr_placed_rows : Room 1 _ := hr.mono (by decide)
    have hthere := hq.there
    obtain ⟨r, k, us, rs, ps, rfl, G, alt⟩ := row_view ok rd hq
    -- the lists inside
    obtain ⟨lds, L', hl, sub0, each, ein⟩ : ∃ (lds : List PyData) (L' : List Addr), DqAll H (pick "rows" us rs) lds L' ∧ (∀ x ∈ L', x ∈ L) ∧ (∀ ld ∈ lds, ∃ cs : List PyData, ld = .list cs ∧ cs.length ≤ 100) ∧
        ((lds = [] ∧ inner d = ([], [])) ∨ ∃ as bs, lds = [.list as, .list bs] ∧ inner d = (as, bs)) := by
      rcases alt with ⟨e1, e2, e3, n1, n2⟩ | ⟨m, u1, pa, pb, as, bs, La, Lb, rfl, rfl, e1, B2, e2, e3, ps0, rfl, d0⟩
      · exact ⟨[], [], by rw [e1]; exact .nil, fun _ m => (nomatch m), fun _ m => (nomatch m), .inl ⟨rfl, e3⟩⟩
      · refine ⟨[.list as, .list bs], _, by rw [e1]; exact .cons B2.a (.cons B2.b .nil), fun x m => by rw [e2]; rwa [List.append_nil] at m, fun ld h => ?_, .inr ⟨as, bs, rfl, e3⟩⟩
        rcases List.mem_cons.mp h with rfl | h
        · exact ⟨as, rfl, B2.la⟩
        · rw [List.mem_singleton.mp h]
          exact ⟨bs, rfl, B2.lb⟩
    obtain ⟨pf, hpf⟩ : ∃ pf : List PyData → List (List Int × PyData), pf = fun l => (l.zipIdx.flatMap fun p => match p.1 with | .list cs => placed (bs ++ [(p.2 : Int)]) cs | _ => []) := ⟨_, rfl⟩
    have pf_take : ∀ {i : Nat} {cs : List PyData}, lds[i]? = some (.list cs) → pf (lds.take (i + 1)) = pf (lds.take i) ++ placed (bs ++ [(i : Int)]) cs := by
      intro i cs h
      have hi : i < lds.length := (List.getElem?_eq_some_iff.mp h).1
      have e : (lds.take i).length = i := by rw [List.length_take]; omega
      rw [hpf]
      show ((lds.take (i + 1)).zipIdx.flatMap _) = (lds.take i).zipIdx.flatMap _ ++ _
      rw [take_next h, List.zipIdx_append, List.flatMap_append]
      simp [e]
    have pf_all : pf lds = innerP bs d := by
      rcases ein with ⟨e1, e2⟩ | ⟨as, bs', e1, e2⟩
      · rw [e1, hpf]
        unfold innerP
        rw [e2]
        rfl
      · rw [e1, hpf]
        unfold innerP
        rw [e2]
        simp
    have l2 : lds.length ≤ 2 := by
      rcases ein with ⟨e1, _⟩ | ⟨as, bs', e1, _⟩ <;> rw [e1] <;> simp
    have pf_len : ∀ i, (pf (lds.take i)).length ≤ 200 := by
      intro i
      have hle : ∀ l : List PyData, (∀ ld ∈ l, ∃ cs : List PyData, ld = .list cs ∧ cs.length ≤ 100) → ∀ k, ((l.zipIdx k).flatMap fun p => match p.1 with | .list cs => placed (bs ++ [(p.2 : Int)]) cs | _ => []).length ≤ 100 * l.length := by
        intro l
        induction l with
        | nil => intro _ k; exact Nat.le_refl _
        | cons x l ih =>
          intro h k
          obtain ⟨cs, rfl, c100⟩ := h x (List.mem_cons_self ..)
          have := ih (fun ld m => h ld (List.mem_cons_of_mem _ m)) (k + 1)
          rw [List.zipIdx_cons, List.flatMap_cons, List.length_append, List.length_cons]
          show (placed _ cs).length + _ ≤ _
          rw [placed_len]
          omega
      have h1 := hle (lds.take i) (fun ld m => each ld (List.mem_of_mem_take m)) 0
      rw [hpf]
      have h2 : (lds.take i).length ≤ 2 := Nat.le_trans (by rw [List.length_take]; exact Nat.min_le_right _ _) l2
      exact Nat.le_trans h1 (by omega)
    refine ⟨_, (pss_cons (ps_set (i := 2) sc_inner_rows.nd rfl (by first | exact Or.inl rfl | exact Or.inr rfl) (pe_lst pa_nil))
 (pss_cons (ps_for PassesOwn.never rfl (pi_enum (by rfl) B.m_enumerate (pa_cons (pe_call G_branches hr_branches rfl d_branches.g d_branches.F.kp d_branches.b .nil pass0 (pa_cons (pv 0) pa_nil)) pa_nil)) (pg_tup rfl (pgs_cons (pg_name (i := 3) sc_inner_rows.nd rfl (by first | exact Or.inl rfl | exact Or.inr rfl)) (pgs_cons (pg_name (i := 4) sc_inner_rows.nd rfl (by first | exact Or.inl rfl | exact Or.inr rfl)) pgs_nil))) (pss_one (ps_expr (pe_bm PySem.F.plainAttrs_list PySem.F.slot_list_extend PySem.F.type_list_extend mt_extend (pv 2) (pa_cons (pe_call G_placed_rows hr_placed_rows rfl d_placed_rows.g d_placed_rows.F.kp d_placed_rows.b .nil pass0 (pa_cons (pv 4) (pa_cons (pe_op op_catA (pv 1) (pe_tup (pa_cons (pv 3) pa_nil))) pa_nil))) pa_nil)))))
 (pss_one (ps_ret (pv 2))))), ?_⟩
    refine ⟨Nat.zero_le _, fun R hR => ?_⟩
    have s0 := same_new (o := .lst []) hR
    refine ⟨_, rfl, r, k, us, rs, rfl, G.rV.same s0, fun b H1 s1 hb h1 => ⟨b, _, rfl, SqL.of h1, ?_⟩⟩
    have s01 := s0.trans s1
    refine for_enumL (xs := pick "rows" us rs) (fun i σ G2 => ∃ (z3 z4 : Option V) (ys : List V) (M : List Addr), σ = [some (.ref r), some (.ref q), some (.ref R), z3, z4] ∧ Same H G2 ∧ G2 b = some (.lst (pick "rows" us rs)) ∧ G2 R = some (.lst ys) ∧ DqAll G2 ys ((pf (lds.take i)).map pd) M ∧ (∀ x ∈ M, x ∈ L)) ⟨_, _, [], [], rfl, s01, h1, s1 _ _ upd_same, ?_, fun x m => nomatch m⟩ ?_ ?_ ?_
    · rw [hpf]
      exact .nil
    · rintro i σ G2 ⟨z3, z4, ys, M, rfl, s2, h2, hy, dy, sub⟩
      exact SqL.of h2
    · rintro i x T σ G2 hx ⟨z3, z4, ys, M, rfl, s2, h2, hy, dy, sub⟩ hT
      have s3 := same_new (o := .tup [.int (i : Nat), x]) hT
      obtain ⟨ld, N, hld, hqx, sN⟩ := hl.get hx
      obtain ⟨cs, rfl, c100⟩ := each ld (List.mem_of_getElem? hld)
      obtain ⟨pa, rfl⟩ : ∃ pa, x = .ref pa := by cases hqx; exact ⟨_, rfl⟩
      have bR : b ≠ R := fun z => by rw [z, upd_same] at hb; cases hb
      refine ⟨T, _, rfl, SqT.of upd_same, rfl, _, _, rfl, _, _, rfl, rfl, ?_⟩
      refine ⟨_, rfl, .inl ⟨rfl, _, SqL.of (s3 _ _ hy)⟩, _, rfl, _, rfl, _, rfl, (by show 1 ≤ sizeLine; decide), fun t1 ht1 => ?_⟩
      have s4 := s3.trans (same_new (o := .tup [.int (i : Nat)]) ht1)
      have done : ∀ {G4 G5 : Hp} {b5 : Addr} {ys5 : List V} {M5 : List Addr}, Same G2 G4 → Same G4 G5 → G4 b5 = none → G5 b5 = some (.lst ys5) → DqAll G5 ys5 ((placed (bs ++ [(i : Int)]) cs).map pd) M5 → (∀ x ∈ M5, x ∈ L) →
          ys.length + ys5.length ≤ sizeLine ∧ ∃ (z3 z4 : Option V) (ys' : List V) (M' : List Addr), [some (.ref r), some (.ref q), some (.ref R), some (.int (i : Nat)), some (.ref pa)] = [some (.ref r), some (.ref q), some (.ref R), z3, z4] ∧ Same H (upd G5 R (.lst (ys ++ ys5))) ∧ (upd G5 R (.lst (ys ++ ys5))) b = some (.lst (pick "rows" us rs)) ∧ (upd G5 R (.lst (ys ++ ys5))) R = some (.lst ys') ∧ DqAll (upd G5 R (.lst (ys ++ ys5))) ys' ((pf (lds.take (i + 1))).map pd) M' ∧ (∀ x ∈ M', x ∈ L) := by
        intro G4 G5 b5 ys5 M5 sa sb hb5 h5 d5 sub5
        have sab := sa.trans sb
        have hR5 := sab _ _ hy
        refine ⟨?_, _, _, ys ++ ys5, M ++ M5, rfl, fun x o e => (upd_ne (ne_of_none e hR)).trans (sab _ _ (s2 _ _ e)), (upd_ne bR).trans (sab _ _ h2), upd_same, ?_, fun x m => (List.mem_append.mp m).elim (sub x) (sub5 x)⟩
        · have h1 := dy.len
          have h2 := d5.len
          rw [List.length_map] at h1 h2
          rw [placed_len] at h2
          have := pf_len i
          exact Nat.le_of_lt (small1000 (by omega))
        · have kp : ∀ {X : List Addr}, (∀ x ∈ X, x ∈ L) → KeepL X G5 (upd G5 R (.lst (ys ++ ys5))) := fun h => by
            refine ⟨fun b m => upd_ne fun z => ?_, fun b us e => (upd_ne (fun z : b = R => by rw [z, hR5] at e; cases e)).trans e⟩
            obtain ⟨us, e⟩ := hthere b (h b m)
            rw [z, hR] at e
            cases e
          rw [pf_take hld, List.map_append]
          exact ((dy.same sab).keep (kp sub)).append (d5.keep (kp sub5))
      refine ⟨q, t1, bs.map V.int, [.int (i : Int)], rfl, rfl, sqt_same (s2.trans s4) hbs, SqT.of upd_same, ?_, fun e => ?_, fun _ e => (nomatch e), fun _ _ p2 hp2 => ?_⟩
      · rw [List.length_map]
        exact Nat.le_of_lt (small1000 (by show bs.length + 1 ≤ 1000; omega))
      · refine ⟨pa, t1, cs, N, bs ++ [(i : Int)], rfl, hqx.same (s2.trans s4), SqT.of (by rw [upd_same, List.map_append, e]; rfl), c100, by rw [List.length_append]; show bs.length + 1 ≤ 90; omega, fun b5 ys5 M5 G5 s5 hb5 h5 d5 sub5 => ?_⟩
        obtain ⟨z1, z2⟩ := done s4 s5 hb5 h5 d5 fun x m => sub0 x (sN x (sub5 x m))
        exact ⟨R, b5, ys, ys5, rfl, rfl, (s4.trans s5) _ _ hy, h5, z1, z2⟩
      · have s6 := s4.trans (same_new (o := .tup (bs.map V.int ++ [V.int (i : Int)])) hp2)
        refine ⟨pa, p2, cs, N, bs ++ [(i : Int)], rfl, hqx.same (s2.trans s6), SqT.of (by rw [upd_same, List.map_append]; rfl), c100, by rw [List.length_append]; show bs.length + 1 ≤ 90; omega, fun b5 ys5 M5 G5 s5 hb5 h5 d5 sub5 => ?_⟩
        obtain ⟨z1, z2⟩ := done s6 s5 hb5 h5 d5 fun x m => sub0 x (sN x (sub5 x m))
        exact ⟨R, b5, ys, ys5, rfl, rfl, (s6.trans s5) _ _ hy, h5, z1, z2⟩
    · rintro σ G2 ⟨z3, z4, ys, M, rfl, s2, h2, hy, dy, sub⟩
      rw [hl.len, List.take_length, pf_all] at dy
      exact ⟨_, rfl, kk R ys M G2 s2 hR hy dy sub⟩
end
end TW
set_option Elab.async false
set_option linter.all false
set_option maxRecDepth 100000
namespace TW
open PySem PySem.Spec PyProof.Rows L2 TL
def spCheck (K : PySem.W.Frag) (ws fs : List Str) : Sp := fun vs H Q _ => ∃ (n : Nat) (v : V) (q a rd : Addr) (d : PyData) (L : List Addr) (bs : List Int) (rs : List Str), vs = [v, .ref q, .ref a, .ref rd] ∧ OkR ws fs d ∧ RowD n d ∧ Dq H v d L ∧ SqT K H q (bs.map V.int) ∧ bs.length ≤ 7 ∧
  (SqL K H a (fs.map V.str) ∨ SqT K H a (fs.map V.str)) ∧ (∀ x ∈ ws, IsW x) ∧ (∀ x ∈ fs, IsW x) ∧ H rd = some (.lst (rs.map V.str)) ∧ (∀ x ∈ readersOf d, x ∉ rs) ∧ ∀ H', Same H H' → Q .non H'
abbrev S_check_row : Stmt := topS 45
abbrev N_check_row : List Str := ["row", "place", "fields", "readers"]
abbrev P_check_row : List Str := ["row", "place", "fields", "readers"]
theorem sc_check_row : FnScope N_check_row P_check_row (defScope S_check_row) := ⟨rfl, rfl, rfl, by decide +kernel, rfl, by decide +kernel, by decide +kernel⟩
theorem part_reader {ws fs : List Str} {H : Hp} {r : Str} {d : PyData} {v : V} {L : List Addr} (h : PartOk ws fs r d) (q : Dq H v d L) (e : r = "reader") : v = .str (strD d) ∧ IsW (strD d) := by
  cases h with
  | reader h => cases q; exact ⟨rfl, h⟩
  | var h => exact absurd e (by decide +kernel)
  | kind h => exact absurd e (by decide +kernel)
  | depth _ _ => exact absurd e (by decide +kernel)
  | field h => exact absurd e (by decide +kernel)
  | rows => exact absurd e (by decide +kernel)
theorem readers_v {H : Hp} {k : Str} {us : List V} {ps : List PyData} {L : List Addr} {ws fs : List Str} {rs : List Str} (hl : formsT.lookup k = some rs) (hp : PartsOk ws fs rs ps) (q : DqAll H us ps L) (hk : k = "watch") : ∃ z, us[0]? = some (.str z) ∧ readersOf (.tuple (.str k :: ps)) = [z] := by
  subst hk
  rcases forms_cases hl with ⟨e, _⟩ | ⟨e, _⟩ | ⟨e, _⟩ | ⟨e, _⟩ | ⟨e, _⟩ | ⟨e, _⟩ | ⟨e, rfl⟩ | ⟨e, _⟩ | ⟨e, _⟩
  all_goals first | (exact absurd e (by decide +kernel)) | skip
  obtain _ | ⟨p1, hp⟩ := hp
  obtain _ | ⟨q1, q⟩ := q
  have e1 := (part_reader p1 q1 rfl).1
  exact ⟨_, by rw [e1]; rfl, if_pos rfl⟩
theorem readers_none {k : Str} {ps : List PyData} (hk : ¬ k = "watch") : readersOf (.tuple (.str k :: ps)) = [] := if_neg hk
section
variable {P : Program} {w : World} {K : PySem.W.Frag} {mg : Str → Option Value} {base : Heap}
set_option maxHeartbeats 4000000 in
theorem ok_check_row {f fF fN : Addr} {fd fdF fdN : FuncData} {t : Tok} {ws fs : List Str} (F : Fun K "check_row" "check_row" S_check_row f fd) (B : Bl mg) (m_LONGEST_PLACE : mg "LONGEST_PLACE" = some (.int 7 t))
    (d_has_form : Df K mg "has_form" S_has_form fF fdF P_has_form) (G_has_form : FnOk P w K mg base CX0 1 fF fdF P_has_form (spForm ws fs)) (d_has_names : Df K mg "has_names" S_has_names fN fdN P_has_names) (G_has_names : FnOk P w K mg base CX0 5 fN fdN P_has_names (spNamesR K ws fs)) :
    FnOk P w K mg base CX0 6 f fd P_check_row (spCheck K ws fs) := by
  refine F.ok sc_check_row (fun vs H Q E h => ?_) (fun cdv A outer s H vs Q E hr h => ?_)
  · obtain ⟨n, v, q, a, rd, d, L, bs, rs, rfl, _⟩ := h
    rfl
  · obtain ⟨n, v, q, a, rd, d, L, bs, rs, rfl, ok, rD, hq, hbs, b7, hS, hw, hf, hrd, nr, kk⟩ := h
    have hr_has_form : Room 1 _ := hr.mono (by decide)
    have hr_has_names : Room 5 _ := hr.mono (by decide)
    obtain ⟨r, k, us, rs', ps, rfl, G, alt⟩ := row_view ok rD hq
    refine ⟨_, (pss_cons (ps_if (pt_cmpR op_gt (pe_callB call_len_seq (by rfl) B.m_len PySem.boot_len (pa_cons (pv 1) pa_nil)) (pe_glob (v := .int _) rfl m_LONGEST_PLACE ⟨_, rfl⟩) (nomark _)) (pss_one ps_never) pss_nil)
 (pss_cons (ps_if (pt_not (pt_val (pe_call G_has_form hr_has_form rfl d_has_form.g d_has_form.F.kp d_has_form.b .nil pass0 (pa_cons (pv 0) pa_nil)))) (pss_one ps_never) pss_nil)
 (pss_cons (ps_if (pt_not (pt_val (pe_call G_has_names hr_has_names rfl d_has_names.g d_has_names.F.kp d_has_names.b .nil pass0 (pa_cons (pv 0) (pa_cons (pv 2) pa_nil))))) (pss_one ps_never) pss_nil)
 (pss_one (ps_if (PW.pt (pw_and (pt_cmpR op_eq (pe_ix ix_tup (pv 0) pe_int (fun _ _ => rfl)) pe_str (nomark _)) (pw_and1 (pt_cmpR op_in_seq (pe_ix ix_tup (pv 0) pe_int (fun _ _ => rfl)) (pv 3) (by rfl))))) (pss_one ps_never) pss_nil))))), ?_⟩
    refine ⟨_, rfl, q, _, rfl, .inr hbs, _, _, rfl, rfl, _, rfl, ite_dec (fun hb => ?_) (fun _ => ?_)⟩
    · have := of_decide_eq_true hb
      rw [List.length_map] at this
      omega
    have G0 : ∀ {H' : Hp}, Same H H' → RowG ws fs H' r d k us rs' ps L := fun s' => ⟨G.rV.same s', G.rD, G.rP, G.rQ.same s', G.rX⟩
    refine ⟨_, rfl, r, d, k, us, rs', ps, L, rfl, G, fun H1 s1 => ⟨_, rfl, iteF ?_⟩⟩
    refine ⟨_, rfl, _, rfl, r, a, d, k, us, rs', ps, L, rfl, G0 s1, seq_same s1 hS, hw, hf, fun H2 s2 => ⟨_, rfl, iteF ?_⟩⟩
    have s12 := s1.trans s2
    refine ⟨_, rfl, r, _, 0, .str k, rfl, rfl, SqT.of (s12 _ _ G.rV.t), atI_of (j := 0) rfl rfl, rfl, _, rfl, ite_dec (fun hb => ?_) (fun hb => iteF (kk _ s12))⟩
    have hk : k = "watch" := V.str.inj (of_decide_eq_true hb)
    obtain ⟨z, hz, ez⟩ := readers_v G.rV.l G.rP G.rQ hk
    refine ⟨_, rfl, r, _, 1, .str z, rfl, rfl, SqT.of (s12 _ _ G.rV.t), atI_of (j := 1) rfl (by rw [List.getElem?_cons_succ]; exact hz), _, rfl, rd, _, rfl, .inl (SqL.of (s12 _ _ hrd)), rfl, flat_strs _, _, rfl, ite_dec (fun hb2 => ?_) (fun hb2 => kk _ s12)⟩
    have hin : z ∈ rs := by
      have e : inV (.str z) (rs.map V.str) = true := hb2
      rw [inV_strs] at e
      exact of_decide_eq_true e
    exact absurd hin (nr z (by rw [G.rD, ez]; exact List.mem_cons_self ..))
end
end TW
set_option Elab.async false
set_option linter.all false
set_option maxRecDepth 100000
namespace TW
open PySem PySem.Spec PyProof.Rows L2 TL
/-! the rest of a walk from one row -/
def wf (n : Nat) (p : List Int × PyData) : List (List Int × PyData) := p :: (Wn n (p.1 ++ [0]) (inner p.2).1 ++ Wn n (p.1 ++ [1]) (inner p.2).2)
theorem walk_placed (n : Nat) (bs : List Int) (ds : List PyData) : walkD n bs ds = (placed bs ds).flatMap (wf n) := by
  rw [walkD_lvl]
  unfold lvl placed
  rw [List.flatMap_map]
  rfl
theorem RowD.up {n : Nat} {d : PyData} (h : RowD n d) : RowD (n + 1) d := by
  induction n generalizing d with
  | zero =>
    cases h with
    | plain n1 n2 fl l5 => exact .plain n1 n2 fl l5
  | succ n ih =>
    cases h with
    | plain n1 n2 fl l5 => exact .plain n1 n2 fl l5
    | br hw fl l2 ra rb la lb => exact .br hw fl l2 (fun d m => ih (ra d m)) (fun d m => ih (rb d m)) la lb
theorem RowD.le {n m : Nat} (h : n ≤ m) {d : PyData} (r : RowD n d) : RowD m d := by
  induction h with
  | refl => exact r
  | step _ ih => exact ih.up
theorem row_inner {n : Nat} {d : PyData} (h : RowD n d) : inner d = ([], []) ∨ ∃ m as bs, n = m + 1 ∧ inner d = (as, bs) ∧ (∀ d ∈ as, RowD m d) ∧ (∀ d ∈ bs, RowD m d) ∧ as.length ≤ 100 ∧ bs.length ≤ 100 := by
  cases h with
  | plain n1 n2 fl l5 => exact .inl (inner_plain fl)
  | br hw fl l2 ra rb la lb => exact .inr ⟨_, _, _, rfl, inner_br, ra, rb, la, lb⟩
/-- more fuel than levels changes nothing -/
theorem walk_up : ∀ {n : Nat} {bs : List Int} {ds : List PyData}, (∀ d ∈ ds, RowD n d) → walkD (n + 1) bs ds = walkD n bs ds
  | n, bs, ds, h => by
    rw [walk_placed, walk_placed]
    have mem : ∀ p ∈ placed bs ds, RowD n p.2 := fun p m => by
      unfold placed at m
      obtain ⟨q, hq, rfl⟩ := List.mem_map.mp m
      exact h _ (List.fst_mem_of_mem_zipIdx hq)
    have each : ∀ p ∈ placed bs ds, wf (n + 1) p = wf n p := fun p m => by
      unfold wf
      rcases row_inner (mem p m) with e | ⟨k, as, bs', rfl, e, ra, rb, _, _⟩
      · rw [e]
        show p :: (Wn (n + 1) _ [] ++ Wn (n + 1) _ []) = p :: (Wn n _ [] ++ Wn n _ [])
        rw [Wn_nil, Wn_nil, Wn_nil, Wn_nil]
      · rw [e]
        show p :: (walkD (k + 1) _ as ++ walkD (k + 1) _ bs') = p :: (walkD k _ as ++ walkD k _ bs')
        rw [walk_up ra, walk_up rb]
    clear h mem
    generalize placed bs ds = l at each
    induction l with
    | nil => rfl
    | cons p l ih =>
      rw [List.flatMap_cons, List.flatMap_cons, each p (List.mem_cons_self ..), ih fun q m => each q (List.mem_cons_of_mem _ m)]
theorem walk_le {n m : Nat} (h : n ≤ m) {bs : List Int} {ds : List PyData} (r : ∀ d ∈ ds, RowD n d) : walkD m bs ds = walkD n bs ds := by
  induction h with
  | refl => rfl
  | @step m h ih => rw [walk_up (fun d hd => (r d hd).le h), ih]
theorem inner_wf {n lev : Nat} {pl : List Int} {d : PyData} (hr : RowD lev d) (hl : lev ≤ n) : (innerP pl d).flatMap (wf n) = Wn n (pl ++ [0]) (inner d).1 ++ Wn n (pl ++ [1]) (inner d).2 := by
  unfold innerP
  rw [List.flatMap_append, ← walk_placed, ← walk_placed]
  rcases row_inner hr with e | ⟨k, as, bs', rfl, e, ra, rb, _, _⟩
  · rw [e]
    show walkD n _ [] ++ walkD n _ [] = Wn n _ [] ++ Wn n _ []
    rw [walkD_nil, walkD_nil, Wn_nil, Wn_nil]
  · rw [e]
    obtain ⟨m, rfl⟩ : ∃ m, n = m + 1 := ⟨n - 1, by omega⟩
    show walkD (m + 1) _ as ++ walkD (m + 1) _ bs' = walkD m _ as ++ walkD m _ bs'
    rw [walk_le (show k ≤ m + 1 by omega) ra, walk_le (show k ≤ m + 1 by omega) rb, walk_le (show k ≤ m by omega) ra, walk_le (show k ≤ m by omega) rb]
/-- a row still to be gone through -/
def Todo (ws fs : List Str) (n : Nat) (p : List Int × PyData) : Prop := ∃ lev, lev ≤ n ∧ RowD lev p.2 ∧ p.1.length + 2 * lev ≤ 7 ∧ ∀ e ∈ wf n p, OkR ws fs e.2
theorem placed_mem {bs : List Int} {ds : List PyData} {p : List Int × PyData} (h : p ∈ placed bs ds) : p.2 ∈ ds ∧ p.1.length = bs.length + 1 := by
  unfold placed at h
  obtain ⟨q, hq, rfl⟩ := List.mem_map.mp h
  exact ⟨List.fst_mem_of_mem_zipIdx hq, List.length_append ..⟩
theorem todo_inner {ws fs : List Str} {n : Nat} {p q : List Int × PyData} (h : Todo ws fs n p) (m : q ∈ innerP p.1 p.2) : Todo ws fs n q := by
  obtain ⟨lev, hl, hr, hp, ok⟩ := h
  have okq : ∀ e ∈ wf n q, OkR ws fs e.2 := fun e he => ok e (by
    unfold wf
    rw [← inner_wf hr hl]
    exact List.mem_cons_of_mem _ (List.mem_flatMap.mpr ⟨q, m, he⟩))
  rcases row_inner hr with e | ⟨k, as, bs', rfl, e, ra, rb, _, _⟩
  · unfold innerP at m
    rw [e] at m
    cases m
  · unfold innerP at m
    rw [e] at m
    rcases List.mem_append.mp m with m | m
    · obtain ⟨h1, h2⟩ := placed_mem m
      rw [List.length_append] at h2
      exact ⟨k, by omega, ra _ h1, by show q.1.length + 2 * k ≤ 7; simp only [List.length_singleton] at h2; omega, okq⟩
    · obtain ⟨h1, h2⟩ := placed_mem m
      rw [List.length_append] at h2
      exact ⟨k, by omega, rb _ h1, by show q.1.length + 2 * k ≤ 7; simp only [List.length_singleton] at h2; omega, okq⟩
theorem inner_le {n : Nat} {p : List Int × PyData} (h : RowD n p.2) : (innerP p.1 p.2).length ≤ 200 := by
  unfold innerP
  rw [List.length_append, placed_len, placed_len]
  rcases row_inner h with e | ⟨k, as, bs', rfl, e, ra, rb, la, lb⟩
  · rw [e]
    exact Nat.zero_le _
  · rw [e]
    show as.length + bs'.length ≤ 200
    omega
def spChecked (K : PySem.W.Frag) (ws fs : List Str) : Sp := fun vs H Q _ => ∃ (n : Nat) (a f : Addr) (ds : List PyData) (L : List Addr), vs = [.ref a, .ref f] ∧ n ≤ 3 ∧ Dq H (.ref a) (.list ds) L ∧ (∀ d ∈ ds, RowD n d) ∧ ds.length ≤ 100 ∧ (∀ d ∈ rowsD n ds, OkR ws fs d) ∧ (rowsD n ds).length ≤ 100 ∧ (rds n ds).Nodup ∧
  (SqL K H f (fs.map V.str) ∨ SqT K H f (fs.map V.str)) ∧ (∀ x ∈ ws, IsW x) ∧ (∀ x ∈ fs, IsW x) ∧ ∀ (b : Addr) (ys : List V) (M : List Addr) (H' : Hp), Same H H' → H b = none → H' b = some (.lst ys) → DqAll H' ys ((walkD n [] ds).map pd) M → (∀ x ∈ M, x ∈ L) → Q (.ref b) H'
/-- rows found, and rows still to be gone through -/
structure CInv (ws fs : List Str) (n : Nat) (ds : List PyData) (L : List Addr) (H : Hp) (F R A : Addr) (fd td : List (List Int × PyData)) (ys zs : List V) (G : Hp) : Prop where
  cS : Same H G
  cF : G F = some (.lst ys)
  cR : G R = some (.lst ((fd.flatMap fun p => readersOf p.2).map V.str))
  cA : G A = some (.lst zs.reverse)
  cY : ∃ M, DqAll G ys (fd.map pd) M ∧ ∀ x ∈ M, x ∈ L
  cZ : ∃ M, DqAll G zs (td.map pd) M ∧ ∀ x ∈ M, x ∈ L
  cT : ∀ p ∈ td, Todo ws fs n p
  cW : fd ++ td.flatMap (wf n) = walkD n [] ds
theorem keepN {H G : Hp} {F : Addr} {zs : List V} {o : HO} {M L : List Addr} (h0 : H F = none) (hL : ∀ x ∈ L, ∃ xs, H x = some (.lst xs)) (hM : ∀ x ∈ M, x ∈ L) (hF : G F = some (.lst zs)) : KeepL M G (upd G F o) := by
  refine ⟨fun b m => upd_ne fun z => ?_, fun b us e => (upd_ne (fun z : b = F => by rw [z, hF] at e; cases e)).trans e⟩
  obtain ⟨us, e⟩ := hL b (hM b m)
  rw [z, h0] at e
  cases e
theorem dq_ints_inv {H : Hp} : ∀ {is : List Int} {vs : List V} {L : List Addr}, DqAll H vs (is.map PyData.int) L → vs = is.map V.int ∧ L = []
  | [], _, _, .nil => ⟨rfl, rfl⟩
  | i :: is, _, _, .cons q a => by
    obtain ⟨e1, e2⟩ := dq_ints_inv a
    cases q
    rw [e1, e2]
    exact ⟨rfl, rfl⟩
/-- a pair (place, row) -/
theorem pd_inv {H : Hp} {z : V} {p : List Int × PyData} {N : List Addr} (h : Dq H z (pd p) N) : ∃ (t pl : Addr) (v : V), z = .ref t ∧ H t = some (.tup [.ref pl, v]) ∧ H pl = some (.tup (p.1.map V.int)) ∧ Dq H v p.2 N := by
  cases h with
  | @tup t xs _ _ ht da =>
  cases da with
  | @cons v1 _ _ _ L1 M1 q1 d2 =>
  cases d2 with
  | @cons v2 _ _ _ L2 M2 q2 d3 =>
  cases d3
  cases q1 with
  | @tup pl ys _ _ hpl di =>
  obtain ⟨e1, e2⟩ := dq_ints_inv di
  subst e1 e2
  exact ⟨t, pl, v2, rfl, ht, hpl, by simpa using q2⟩
theorem rds_walk {n : Nat} {ds : List PyData} : (walkD n [] ds).flatMap (fun p => readersOf p.2) = rds n ds := by
  unfold rds
  rw [← walkD_rows n [] ds, List.flatMap_map]
abbrev S_checked_rows : Stmt := topS 44
abbrev N_checked_rows : List Str := ["rows", "fields", "found", "readers", "ahead", "place", "row"]
abbrev P_checked_rows : List Str := ["rows", "fields"]
theorem sc_checked_rows : FnScope N_checked_rows P_checked_rows (defScope S_checked_rows) := ⟨rfl, rfl, rfl, by decide +kernel, rfl, by decide +kernel, by decide +kernel⟩
section
variable {P : Program} {w : World} {K : PySem.W.Frag} {mg : Str → Option Value} {base : Heap}
set_option maxHeartbeats 4000000 in
theorem ok_checked_rows {f0 fC fP fI : Addr} {fd0 fdC fdP fdI : FuncData} {ws fs : List Str} (F0 : Fun K "checked_rows" "checked_rows" S_checked_rows f0 fd0) (B : Bl mg) (d_check_row : Df K mg "check_row" S_check_row fC fdC P_check_row) (G_check_row : FnOk P w K mg base CX0 6 fC fdC P_check_row (spCheck K ws fs))
    (d_placed_rows : Df K mg "placed_rows" S_placed_rows fP fdP P_placed_rows) (G_placed_rows : FnOk P w K mg base CX0 1 fP fdP P_placed_rows (spPlaced K)) (d_inner_rows : Df K mg "inner_rows" S_inner_rows fI fdI P_inner_rows) (G_inner_rows : FnOk P w K mg base CX0 2 fI fdI P_inner_rows (spInnerR K ws fs)) :
    FnOk P w K mg base CX0 7 f0 fd0 P_checked_rows (spChecked K ws fs) := by
  refine F0.ok sc_checked_rows (fun vs H Q E h => ?_) (fun cdv Ar outer s H vs Q E hr h => ?_)
  · obtain ⟨n, a, f, ds, L, rfl, _⟩ := h
    rfl
  · obtain ⟨n, a, f, ds, L, rfl, n3, hd, rows, l100, ok, r100, nd, hS, hw, hf, kk⟩ := h
    have hr_check_row : Room 6 _ := hr.mono (by decide)
    have hr_placed_rows : Room 1 _ := hr.mono (by decide)
    have hr_inner_rows : Room 2 _ := hr.mono (by decide)
    have hL := hd.there
    refine ⟨_, (pss_cons (ps_set (i := 2) sc_checked_rows.nd rfl (by first | exact Or.inl rfl | exact Or.inr rfl) (pe_lst pa_nil))
 (pss_cons (ps_set (i := 3) sc_checked_rows.nd rfl (by first | exact Or.inl rfl | exact Or.inr rfl) (pe_lst pa_nil))
 (pss_cons (ps_set (i := 4) sc_checked_rows.nd rfl (by first | exact Or.inl rfl | exact Or.inr rfl) (pe_callTy call_list_of (by rfl) B.m_list (by decide +kernel) (pa_cons (pe_revL (pe_call G_placed_rows hr_placed_rows rfl d_placed_rows.g d_placed_rows.F.kp d_placed_rows.b .nil pass0 (pa_cons (pv 0) (pa_cons (pe_tup pa_nil) pa_nil)))) pa_nil)))
 (pss_cons (ps_while PassesOwn.never (pt_truth (pv 4) (by intro _; rfl)) (pss_cons (ps_asg (pe_bm0 PySem.F.plainAttrs_list PySem.F.slot_list_pop PySem.F.type_list_pop mt_pop (pv 4)) (pg_tup rfl (pgs_cons (pg_name (i := 5) sc_checked_rows.nd rfl (by first | exact Or.inl rfl | exact Or.inr rfl)) (pgs_cons (pg_name (i := 6) sc_checked_rows.nd rfl (by first | exact Or.inl rfl | exact Or.inr rfl)) pgs_nil))))
 (pss_cons (ps_expr (pe_call G_check_row hr_check_row rfl d_check_row.g d_check_row.F.kp d_check_row.b .nil pass0 (pa_cons (pv 6) (pa_cons (pv 5) (pa_cons (pv 1) (pa_cons (pv 3) pa_nil))))))
 (pss_cons (ps_cut (ps_if (pt_cmpR op_eq (pe_ix ix_tup (pv 6) pe_int (fun _ _ => rfl)) pe_str (nomark _)) (pss_one (ps_expr (pe_bm PySem.F.plainAttrs_list PySem.F.slot_list_append PySem.F.type_list_append mt_append (pv 3) (pa_cons (pe_ix ix_tup (pv 6) pe_int (fun _ _ => rfl)) pa_nil)))) pss_nil))
 (pss_cons (ps_expr (pe_bm PySem.F.plainAttrs_list PySem.F.slot_list_append PySem.F.type_list_append mt_append (pv 2) (pa_cons (pe_tup (pa_cons (pv 5) (pa_cons (pv 6) pa_nil))) pa_nil)))
 (pss_one (ps_expr (pe_bm PySem.F.plainAttrs_list PySem.F.slot_list_extend PySem.F.type_list_extend mt_extend (pv 4) (pa_cons (pe_revL (pe_call G_inner_rows hr_inner_rows rfl d_inner_rows.g d_inner_rows.F.kp d_inner_rows.b .nil pass0 (pa_cons (pv 6) (pa_cons (pv 5) pa_nil)))) pa_nil)))))))))
 (pss_one (ps_ret (pv 2))))))), ?_⟩
    refine ⟨Nat.zero_le _, fun F hF => ?_⟩
    have s0 := same_new (o := .lst []) hF
    refine ⟨Nat.zero_le _, fun R hR => ?_⟩
    have FR : F ≠ R := ne_of_none upd_same hR
    have s1 := s0.trans (same_new (o := .lst []) hR)
    refine ⟨_, rfl, Nat.zero_le _, fun t ht => ?_⟩
    have s2 := s1.trans (same_new (o := .tup []) ht)
    refine ⟨a, t, ds, L, [], rfl, hd.same s2, SqT.of upd_same, l100, by show 0 ≤ 90; omega, fun b ys M H3 s3 hb h3 d3 sub3 => ⟨b, ys, rfl, SqL.of h3, fun p1 hp1 => ⟨p1, _, rfl, .inl (SqL.of upd_same), fun A hA => ?_⟩⟩⟩
    have s4 := s2.trans (s3.trans ((same_new (o := .lst ys.reverse) hp1).trans (same_new (o := .lst ys.reverse) hA)))
    have s34 := s3.trans ((same_new (o := .lst ys.reverse) hp1).trans (same_new (o := .lst ys.reverse) hA))
    have hF1 := s34 _ _ ((upd_ne (ne_of_none ((upd_ne FR).trans upd_same) ht)).trans ((upd_ne FR).trans (upd_same (H := H) (a := F) (o := .lst []))))
    have hR1 := s34 _ _ ((upd_ne (ne_of_none upd_same ht)).trans (upd_same (H := upd H F (.lst [])) (a := R) (o := .lst [])))
    have FA : F ≠ A := fun z => by
      have := (s3.trans (same_new (o := .lst ys.reverse) hp1)) _ _ ((upd_ne (ne_of_none ((upd_ne FR).trans upd_same) ht)).trans ((upd_ne FR).trans (upd_same (H := H) (a := F) (o := .lst []))))
      rw [z, hA] at this
      cases this
    have RA : R ≠ A := fun z => by
      have := (s3.trans (same_new (o := .lst ys.reverse) hp1)) _ _ ((upd_ne (ne_of_none upd_same ht)).trans (upd_same (H := upd H F (.lst [])) (a := R) (o := .lst [])))
      rw [z, hA] at this
      cases this
    have hA0 : H A = none := (s2.trans (s3.trans (same_new (o := .lst ys.reverse) hp1))).free hA
    have hR0 : H R = none := s0.free hR
    refine ⟨fun m σ G => ∃ (z5 z6 : Option V) (fd td : List (List Int × PyData)) (ys zs : List V), σ = [some (.ref a), some (.ref f), some (.ref F), some (.ref R), some (.ref A), z5, z6] ∧ CInv ws fs n ds L H F R A fd td ys zs G ∧ m = (td.flatMap (wf n)).length, ⟨_, _, _, [], placed [] ds, [], ys, rfl, ⟨s4, hF1, hR1, upd_same, ⟨[], .nil, fun x m => nomatch m⟩, ⟨M, d3.same ((same_new (o := .lst ys.reverse) hp1).trans (same_new (o := .lst ys.reverse) hA)), sub3⟩, fun p hp => ?_, (walk_placed n [] ds).symm⟩, rfl⟩, ?_⟩
    · obtain ⟨h1, h2⟩ := placed_mem hp
      refine ⟨n, Nat.le_refl _, rows _ h1, by rw [h2]; show 0 + 1 + 2 * n ≤ 7; omega, fun e he => ok _ ?_⟩
      rw [← walkD_rows n [] ds, walk_placed]
      exact List.mem_map.mpr ⟨e, List.mem_flatMap.mpr ⟨p, hp, he⟩, rfl⟩
    rintro m σ G ⟨z5, z6, fd, td, ys, zs, rfl, I, rfl⟩
    obtain ⟨MY, dY, subY⟩ := I.cY
    obtain ⟨MZ, dZ, subZ⟩ := I.cZ
    refine ⟨_, rfl, !zs.reverse.isEmpty, .inl ⟨_, SqL.of I.cA, rfl⟩, ?_⟩
    cases td with
    | nil =>
      have ez : zs = [] := by cases dZ; rfl
      subst ez
      refine iteF ?_
      have eW := I.cW
      rw [List.flatMap_nil, List.append_nil] at eW
      rw [eW] at dY
      exact ⟨_, rfl, kk F ys MY G I.cS hF I.cF dY subY⟩
    | cons p td =>
      obtain ⟨z, zs', rfl⟩ : ∃ z zs', zs = z :: zs' := by cases dZ; exact ⟨_, _, rfl⟩
      cases dZ with
      | @cons _ _ _ _ N1 N2 qz dZ' =>
      have hb : (!(z :: zs').reverse.isEmpty) = true := by simp
      rw [hb]
      refine iteT ?_
      obtain ⟨t1, pl, v, rfl, ht1, hpl, hv⟩ := pd_inv qz
      obtain ⟨lev, hlev, hrow, h7, hok⟩ := I.cT p (List.mem_cons_self ..)
      have okp : OkR ws fs p.2 := hok p (List.mem_cons_self ..)
      have subN1 : ∀ x ∈ N1, x ∈ L := fun x m => subZ x (List.mem_append_left _ m)
      have subN2 : ∀ x ∈ N2, x ∈ L := fun x m => subZ x (List.mem_append_right _ m)
      refine ⟨fun σ' G' => ∃ (z5 z6 : Option V) (fd' td' : List (List Int × PyData)) (ys' zs2 : List V), σ' = [some (.ref a), some (.ref f), some (.ref F), some (.ref R), some (.ref A), z5, z6] ∧ CInv ws fs n ds L H F R A fd' td' ys' zs2 G' ∧ (td'.flatMap (wf n)).length < ((p :: td).flatMap (wf n)).length, fun σ' G' ⟨y5, y6, fd', td', ys', zs2, e1, I', l'⟩ => ⟨_, l', y5, y6, fd', td', ys', zs2, e1, I', rfl⟩, ?_⟩
      have erev : (V.ref t1 :: zs').reverse = zs'.reverse ++ [V.ref t1] := List.reverse_cons
      refine ⟨_, rfl, .inl ⟨rfl, _, SqL.of I.cA⟩, A, _, .ref t1, rfl, rfl, I.cA, ?_, ?_⟩
      · rw [erev, List.length_append, List.getElem?_append_right (by simp)]
        simp
      have edl : (V.ref t1 :: zs').reverse.dropLast = zs'.reverse := by rw [erev, List.dropLast_concat]
      rw [edl]
      obtain ⟨G1, e1⟩ : ∃ G1 : Hp, G1 = upd G A (.lst zs'.reverse) := ⟨_, rfl⟩
      have k1 : ∀ {M : List Addr}, (∀ x ∈ M, x ∈ L) → KeepL M G G1 := fun h => by rw [e1]; exact keepN hA0 hL h I.cA
      have k0 : KeepL [] G G1 := k1 fun x m => nomatch m
      have c1 : G1 A = some (.lst zs'.reverse) := by rw [e1]; exact upd_same
      have f1 : G1 F = some (.lst ys) := by rw [e1]; exact (upd_ne FA).trans I.cF
      have r1 : G1 R = some (.lst ((fd.flatMap fun q => readersOf q.2).map V.str)) := by rw [e1]; exact (upd_ne RA).trans I.cR
      have sG1 : Same H G1 := fun b o e => by rw [e1]; exact (upd_ne (ne_of_none e hA0)).trans (I.cS _ _ e)
      rw [← e1]
      refine ⟨t1, _, rfl, SqT.of (k0.t _ _ ht1), rfl, _, _, rfl, _, _, rfl, rfl, ?_⟩
      have hv1 := hv.keep (k1 subN1)
      have hpl1 := k0.t _ _ hpl
      have eW := I.cW
      have enod : ∀ x ∈ readersOf p.2, x ∉ fd.flatMap fun q => readersOf q.2 := by
        have nd2 := nd
        rw [← rds_walk, ← eW, List.flatMap_append, List.flatMap_cons] at nd2
        intro x hx hx2
        refine (List.nodup_append.mp nd2).2.2 x hx2 x ?_ rfl
        unfold wf
        rw [List.cons_append, List.flatMap_cons]
        exact List.mem_append_left _ hx
      refine ⟨_, rfl, _, rfl, _, rfl, _, rfl, lev, v, pl, f, R, p.2, N1, p.1, _, rfl, okp, hrow, hv1, SqT.of hpl1, by omega, seq_same sG1 hS, hw, hf, r1, enod, fun G2 s5 => ?_⟩
      obtain ⟨r, k, us, rs, ps, rfl, RG, alt⟩ := row_view okp hrow (hv1.same s5)
      have bound : fd.length + (td.flatMap (wf n)).length + 1 ≤ 100 := by
        have e1 := congrArg List.length eW
        rw [List.length_append, List.flatMap_cons, List.length_append, walkD_len] at e1
        have e2 : 1 ≤ (wf n p).length := by
          unfold wf
          simp
        omega
      have tdl : td.length ≤ (td.flatMap (wf n)).length := by
        clear eW bound enod I dZ' subZ
        induction td with
        | nil => exact Nat.le_refl _
        | cons q td ih =>
          rw [List.flatMap_cons, List.length_append, List.length_cons]
          have : 1 ≤ (wf n q).length := by
            unfold wf
            simp
          omega
      have rdl : ((fd.flatMap fun q => readersOf q.2)).length ≤ 100 := by
        have h1 : ∀ l : List (List Int × PyData), (l.flatMap fun q => readersOf q.2).length ≤ l.length := by
          intro l
          induction l with
          | nil => exact Nat.le_refl _
          | cons q l ih =>
            rw [List.flatMap_cons, List.length_append, List.length_cons]
            have : (readersOf q.2).length ≤ 1 := by
              unfold readersOf
              split <;> simp
            omega
        have := h1 fd
        omega
      have lF : ∀ {M : List Addr} {o : HO} {T T' : Hp}, True := fun {_ _ _ _} => trivial
      refine ⟨fun σ' G' => σ' = [some (.ref a), some (.ref f), some (.ref F), some (.ref R), some (.ref A), some (.ref pl), some (.ref r)] ∧ G' F = some (.lst ys) ∧ G' A = some (.lst zs'.reverse) ∧ G' R = some (.lst (((fd ++ [p]).flatMap fun q => readersOf q.2).map V.str)) ∧ Same H G' ∧ (∀ M : List Addr, (∀ x ∈ M, x ∈ L) → KeepL M G2 G'), ?_, ?_⟩
      · refine ⟨_, rfl, r, _, 0, .str k, rfl, rfl, SqT.of RG.rV.t, atI_of (j := 0) rfl rfl, rfl, _, rfl, ite_dec (fun hb => ?_) (fun hb => ?_)⟩
        · have hk : k = "watch" := V.str.inj (of_decide_eq_true hb)
          obtain ⟨z, hz, ez⟩ := readers_v RG.rV.l RG.rP RG.rQ hk
          refine ⟨_, rfl, .inl ⟨rfl, _, SqL.of (s5 _ _ r1)⟩, _, rfl, r, _, 1, .str z, rfl, rfl, SqT.of RG.rV.t, atI_of (j := 1) rfl (by rw [List.getElem?_cons_succ]; exact hz), R, _, _, rfl, rfl, s5 _ _ r1, by rw [List.length_map]; exact small1000 (by omega), rfl, ?_⟩
          refine ⟨(upd_ne FR).trans (s5 _ _ f1), (upd_ne RA.symm).trans (s5 _ _ c1), ?_, fun b o e => (upd_ne (ne_of_none e hR0)).trans (s5 _ _ (sG1 _ _ e)), fun M h => keepN hR0 hL h (s5 _ _ r1)⟩
          rw [upd_same, List.flatMap_append, List.map_append, List.flatMap_cons, List.flatMap_nil, List.append_nil, RG.rD, ez]
          rfl
        · have hk : ¬ k = "watch" := fun e => of_decide_eq_false hb (by rw [e])
          refine ⟨rfl, s5 _ _ f1, s5 _ _ c1, ?_, sG1.trans s5, fun M h => ⟨fun b m => rfl, fun b xs e => e⟩⟩
          rw [List.flatMap_append, List.flatMap_cons, List.flatMap_nil, List.append_nil, RG.rD, readers_none hk, List.append_nil]
          exact s5 _ _ r1
      rintro σ' G3 ⟨rfl, f3, c3, r3, sG3, k3⟩
      have ylen : ys.length ≤ 100 := by
        have := dY.len
        rw [List.length_map] at this
        omega
      refine ⟨_, rfl, .inl ⟨rfl, _, SqL.of f3⟩, _, rfl, _, rfl, (by show 2 ≤ sizeLine; decide), fun t2 ht2 => ⟨F, ys, _, rfl, rfl, (upd_ne (ne_of_none f3 ht2)).trans f3, small1000 (by omega), ?_⟩⟩
      have s6 := same_new (o := .tup [V.ref pl, V.ref r]) ht2
      obtain ⟨G4, e4⟩ : ∃ G4 : Hp, G4 = upd (upd G3 t2 (.tup [V.ref pl, V.ref r])) F (.lst (ys ++ [V.ref t2])) := ⟨_, rfl⟩
      have k4 : ∀ M : List Addr, (∀ x ∈ M, x ∈ L) → KeepL M (upd G3 t2 (.tup [V.ref pl, V.ref r])) G4 := fun M h => by rw [e4]; exact keepN hF hL h (s6 _ _ f3)
      have f4 : G4 F = some (.lst (ys ++ [V.ref t2])) := by rw [e4]; exact upd_same
      have c4 : G4 A = some (.lst zs'.reverse) := by rw [e4]; exact (upd_ne FA.symm).trans (s6 _ _ c3)
      have r4 : G4 R = some (.lst (((fd ++ [p]).flatMap fun q => readersOf q.2).map V.str)) := by rw [e4]; exact (upd_ne FR.symm).trans (s6 _ _ r3)
      have sG4 : Same H G4 := fun b o e => by rw [e4]; exact (upd_ne (ne_of_none e hF)).trans (s6 _ _ (sG3 _ _ e))
      have kAll : ∀ {M : List Addr} {vs : List V} {es : List PyData}, (∀ x ∈ M, x ∈ L) → DqAll G vs es M → DqAll G4 vs es M := fun {M vs es} h d => ((((d.keep (k1 h)).same s5).keep (k3 _ h)).same s6).keep (k4 _ h)
      have kOne : ∀ {M : List Addr} {u : V} {e : PyData}, (∀ x ∈ M, x ∈ L) → Dq G u e M → Dq G4 u e M := fun {M u e} h d => ((((d.keep (k1 h)).same s5).keep (k3 _ h)).same s6).keep (k4 _ h)
      have k04 := k4 [] fun x m => nomatch m
      have hpl4 : G4 pl = some (.tup (p.1.map V.int)) := k04.t _ _ (s6 _ _ ((k3 [] fun x m => nomatch m).t _ _ (s5 _ _ hpl1)))
      rw [← e4]
      refine ⟨_, rfl, .inl ⟨rfl, _, SqL.of c4⟩, _, rfl, _, rfl, lev, .ref r, pl, p.2, N1, p.1, rfl, okp, hrow, kOne subN1 hv, SqT.of hpl4, by omega, fun b ysI MI G5 s7 hb5 h5 d5 sub5 => ⟨b, ysI, rfl, SqL.of h5, fun q7 hq7 => ?_⟩⟩
      have s8 := s7.trans (same_new (o := .lst ysI.reverse) hq7)
      have c5 := s8 _ _ c4
      have zlen : zs'.length ≤ 100 := by
        have := dZ'.len
        rw [List.length_map] at this
        omega
      have ilen : ysI.length ≤ 200 := by
        have := d5.len
        rw [List.length_map] at this
        have := inner_le hrow
        omega
      refine ⟨A, q7, _, _, rfl, rfl, c5, upd_same, ?_, ?_⟩
      · rw [List.length_reverse, List.length_reverse]
        exact Nat.le_of_lt (small1000 (by omega))
      have k8 : ∀ {M : List Addr}, (∀ x ∈ M, x ∈ L) → KeepL M (upd G5 q7 (.lst ysI.reverse)) (upd (upd G5 q7 (.lst ysI.reverse)) A (.lst (zs'.reverse ++ ysI.reverse))) := fun h => keepN hA0 hL h c5
      have subI : ∀ x ∈ MI, x ∈ L := fun x m => subN1 x (sub5 x m)
      have eT : ((innerP p.1 p.2 ++ td).flatMap (wf n)).length < ((p :: td).flatMap (wf n)).length := by
        rw [List.flatMap_append, inner_wf hrow hlev, List.flatMap_cons, List.length_append, List.length_append, List.length_append]
        have : (wf n p).length = (Wn n (p.1 ++ [0]) (inner p.2).1).length + (Wn n (p.1 ++ [1]) (inner p.2).2).length + 1 := by
          unfold wf
          rw [List.length_cons, List.length_append]
        omega
      refine ⟨_, _, fd ++ [p], innerP p.1 p.2 ++ td, ys ++ [V.ref t2], ysI ++ zs', rfl, ⟨?_, ?_, ?_, ?_, ⟨MY ++ (N1 ++ []), ?_, ?_⟩, ⟨MI ++ N2, ?_, ?_⟩, ?_, ?_⟩, eT⟩
      · exact fun b o e => (upd_ne (ne_of_none e hA0)).trans (s8 _ _ (sG4 _ _ e))
      · exact (upd_ne FA).trans (s8 _ _ f4)
      · exact (upd_ne RA).trans (s8 _ _ r4)
      · rw [upd_same, List.reverse_append]
      · rw [List.map_append]
        refine (((kAll subY dY).same s8).keep (k8 subY)).snoc (.tup ((k8 (M := []) fun x m => nomatch m).t _ _ (s8 _ _ (k04.t _ _ upd_same))) (.cons (L := []) (.tup ((k8 (M := []) fun x m => nomatch m).t _ _ (s8 _ _ hpl4)) (dq_ints _)) (.cons (((kOne subN1 hv).same s8).keep (k8 subN1)) .nil)))
      · intro x m
        rw [List.append_nil] at m
        exact (List.mem_append.mp m).elim (subY x) (subN1 x)
      · rw [List.map_append]
        exact ((d5.same (same_new hq7)).keep (k8 subI)).append (((kAll subN2 dZ').same s8).keep (k8 subN2))
      · exact fun x m => (List.mem_append.mp m).elim (subI x) (subN2 x)
      · intro q hq
        rcases List.mem_append.mp hq with hq | hq
        · exact todo_inner ⟨lev, hlev, hrow, h7, hok⟩ hq
        · exact I.cT q (List.mem_cons_of_mem _ hq)
      · rw [← eW, List.flatMap_append, inner_wf hrow hlev, List.flatMap_cons]
        unfold wf
        simp
end
end TW
set_option Elab.async false
set_option linter.all false
set_option maxRecDepth 100000
set_option maxHeartbeats 1000000
namespace L2
open PySem PySem.Spec PyProof.Rows
/-- list.extend of a tuple -/
theorem extend_tuple (l b : Addr) (xs ys : Array Value) (n n2 : Nat) (dd : Option Addr) (sl : Array (Option Value)) (short : ¬ (!xs.isEmpty && Builtin.List.listTooLong (xs.size + ys.size)) = true) (h1 : xs.size ≤ sizeLine) (h2 : xs.size + ys.size ≤ sizeLine + 1) :
    Meets (Builtin.«list.extend» ⟨[.ref l, .ref b], []⟩) (fun _ R s => s.heap.get? l = some { cls := .type "list", dict := none, data := .seq xs n, slots := #[] } ∧ s.heap.get? b = some { cls := .type "tuple", dict := dd, data := .seq ys n2, slots := sl } ∧
      R (.ok (.ret Value.none)) { s with heap := s.heap.update l (Obj.mapSeq fun x => x ++ ys), toks := s.toks }) := by
  refine .of_wp fun prog w A R s h => ?_
  obtain ⟨heap, gens, drawn, toks, os⟩ := s
  obtain ⟨el, eb, fin⟩ := h
  have a1 := AutoSeq1.idx_int
  have a2 := AutoSeq1.sub_tuple_tuple
  have a3 := AutoSeq1.sub_list_list
  have a4 := AutoSeq1.sub_tuple_list
  have a5 := AutoSeq1.sub_list_tuple
  have big : (xs ++ ys).size ≤ sizeLine + 1 := by
    rw [Array.size_append]
    exact h2
  wp_walk using (wpAny_updateSeq el rfl (hz := h1) (_hz' := big)), AutoSeq1.wpAny_loadPart' el, AutoSeq1.wpAny_loadPart' eb
  exact ⟨_, rfl, fin⟩
section
variable {X : Cx}
/-- l.extend(a list or a tuple) -/
def rExtendA (K : PySem.W.Frag) : V → List V → Hp → VK → Prop := fun x vs H Q => ∃ l b xs zs, x = .ref l ∧ vs = [.ref b] ∧ H l = some (.lst xs) ∧ (H b = some (.lst zs) ∨ SqT K H b zs) ∧ xs.length + zs.length ≤ sizeLine ∧ Q .non (upd H l (.lst (xs ++ zs)))
theorem mt_extendA : MtM X "list.extend" (rExtendA X.K) := by
  intro pins s σ H x vs v us Q I rx rv h
  obtain ⟨l, b, xs, zs, rfl, rfl, eL, eB | eB, small, q⟩ := h
  · exact mt_extend pins s σ H _ _ v us Q I rx rv ⟨l, b, xs, zs, rfl, rfl, eL, eB, small, q⟩
  cases rx
  obtain ⟨u, rfl, ru⟩ := rv.one
  cases ru
  obtain ⟨_, its, n, r, hl, e⟩ := I.lstM eL
  obtain ⟨its2, r2, ⟨⟨cls, dd, data, sl⟩, ho, hc, n2, hd⟩, _⟩ := I.tuple eB
  simp only at hc hd
  subst hc hd
  have total : its.toArray.size + its2.toArray.size ≤ sizeLine := by
    rw [List.size_toArray, List.size_toArray, ← r.length, ← r2.length]
    exact small
  have short : ¬ (!its.toArray.isEmpty && Builtin.List.listTooLong (its.toArray.size + its2.toArray.size)) = true := by
    rw [notLongL total, Bool.and_false]
    exact Bool.false_ne_true
  refine call_meets PySem.F.slot_list_extend ⟨_, e, rfl⟩ PySem.F.entry_list_extend (PySem.F.args_list_extend_2 _ _) (extend_tuple l b its.toArray its2.toArray n n2 dd sl short (by omega) (by omega)) ⟨e, ho, ?_⟩
  refine ⟨.non, _, I.lset (its' := its ++ its2) eL e (by simp) (r.append r2) ?_, rfl, q⟩
  rw [List.length_append]
  exact small
end
end L2
set_option Elab.async false
set_option linter.all false
set_option maxRecDepth 100000
namespace TW
open PySem PySem.Spec PyProof.Rows L2 TL
/-- a dict comprehension without a test, over a list -/
theorem dc_listN {K : PySem.W.Frag} {a : Addr} {xs : List V} {g : TG} {tk tv : TE} {vs : List Nat} {σ : St'} {H1 : Hp} {D : Addr} {Qd : Hp → Prop} (Pv : Nat → Hp → Prop) (h0 : Pv 0 (upd H1 D (.dK []))) (hl : ∀ i H, Pv i H → SqL K H a xs)
    (hs : ∀ i x H, xs[i]? = some x → Pv i H → g x (wipe σ vs) H fun σ2 H2 => wipe σ2 vs = wipe σ vs ∧ tk σ2 H2 fun y H4 => tv σ2 H4 fun z H5 => ∃ kvs k, y = kV k ∧ H5 D = some (.dK kvs) ∧ kvs.length < sizeLine ∧ Pv (i + 1) (upd H5 D (.dK (putK kvs k z)))) (hd : ∀ H, Pv xs.length H → Qd H)
    (mono : ∀ x σ1 H Q Q', (∀ σ2 H2, Q σ2 H2 → Q' σ2 H2) → g x σ1 H Q → g x σ1 H Q') :
    ∃ W : Nat → Nat → Hp → Prop, (∃ m, W 0 m (upd H1 D (.dK []))) ∧ ∀ i m H, W i m H →
      ((Itl K a).stop i H ∧ Qd H) ∨ ((Itl K a).go i H ∧ ∃ Nx : Hp → Prop, (∀ H', Nx H' → ∃ m', m' < m ∧ W (i + 1) m' H') ∧ ∀ x H', (Itl K a).yld i H x H' → g x (wipe σ vs) H' fun σ2 H2 => wipe σ2 vs = wipe σ vs ∧ tYes σ2 H2 fun b H3 =>
        if b = true then tk σ2 H3 fun y H4 => tv σ2 H4 fun z H5 => ∃ kvs k, y = kV k ∧ H5 D = some (.dK kvs) ∧ kvs.length < sizeLine ∧ Nx (upd H5 D (.dK (putK kvs k z))) else Nx H3) := by
  refine ⟨fun i m H => m = xs.length - i ∧ i ≤ xs.length ∧ Pv i H, ⟨xs.length, by simp, Nat.zero_le _, h0⟩, ?_⟩
  rintro i m H ⟨rfl, hi, p⟩
  have q := hl i H p
  by_cases lt : i < xs.length
  · have hx : xs[i]? = some xs[i] := List.getElem?_eq_getElem lt
    refine .inr ⟨⟨xs, _, q, hx⟩, Pv (i + 1), fun H' p' => ⟨xs.length - (i + 1), by omega, rfl, lt, p'⟩, fun x H' y => ?_⟩
    obtain ⟨e, y⟩ := y
    subst e
    exact mono _ _ _ _ _ (fun σ2 H2 h => ⟨h.1, yes_of h.2⟩) (hs i x _ (y xs q) p)
  · have e : i = xs.length := by omega
    subst e
    exact .inl ⟨⟨xs, q, Nat.le_refl _⟩, hd H p⟩
/-- a dict of words, each with True -/
def tkv (l : List Str) : List (Key × V) := l.map fun x => ((Sum.inr x : Key), V.bl true)
theorem tkv_val (x : Str) : ∀ l : List Str, (valV (tkv l) (Sum.inr x : Key)).isSome = decide (x ∈ l)
  | [] => rfl
  | y :: l => by
    show (valV (((Sum.inr y : Key), V.bl true) :: tkv l) _).isSome = _
    by_cases h : y = x
    · subst h
      rw [valV_pos rfl]
      exact (decide_eq_true (List.mem_cons_self ..)).symm
    · rw [valV_neg (fun e => h (Sum.inr.inj e)), tkv_val x l]
      exact decide_eq_decide.mpr ⟨fun m => List.mem_cons_of_mem _ m, fun m => (List.mem_cons.mp m).elim (fun e => absurd e.symm h) id⟩
theorem tkv_put_new {l : List Str} {x : Str} (h : x ∉ l) : putK (tkv l) (Sum.inr x : Key) (.bl true) = tkv (l ++ [x]) := by
  have e : valV (tkv l) (Sum.inr x : Key) = none := by
    have := tkv_val x l
    rw [decide_eq_false h] at this
    cases e : valV (tkv l) (Sum.inr x : Key) with
    | none => rfl
    | some v => rw [e] at this; cases this
  rw [putK_new _ e]
  unfold tkv
  rw [List.map_append]
  rfl
theorem tkv_put_old {l : List Str} {x : Str} (h : x ∈ l) : putK (tkv l) (Sum.inr x : Key) (.bl true) = tkv l := by
  unfold putK
  rw [if_pos]
  · unfold tkv
    rw [List.map_map]
    refine List.map_congr_left fun y _ => ?_
    show (if (Sum.inr y : Key) = Sum.inr x then ((Sum.inr y : Key), V.bl true) else ((Sum.inr y : Key), V.bl true)) = _
    split <;> rfl
  · rw [valV_any, tkv_val, decide_eq_true h]
theorem dedupN_mem {l : List Str} {x : Str} : ∀ {i : Nat}, i ≤ l.length → (x ∈ dedupN l i ↔ x ∈ l.take i)
  | 0, _ => by simp [dedupN]
  | i + 1, h => by
    have hi : i < l.length := h
    have e : l[i]? = some l[i] := List.getElem?_eq_getElem hi
    have ih := dedupN_mem (x := x) (i := i) (Nat.le_of_lt hi)
    by_cases m : l[i] ∈ l.take i
    · rw [dedupN_in e m, take_next e, List.mem_append, ih]
      constructor
      · exact .inl
      · rintro (h | h)
        · exact h
        · rw [List.mem_singleton.mp h]
          exact m
    · rw [dedupN_out e m, take_next e, List.mem_append, List.mem_append, ih]
def spAllV (K : PySem.W.Frag) (ws fs : List Str) : Sp := fun vs H Q _ => ∃ (i p o : Addr) (is os : List Str) (ys : List V) (l : List (List Int × PyData)) (M : List Addr), vs = [.ref i, .ref p, .ref o] ∧ (SqL K H i (is.map V.str) ∨ SqT K H i (is.map V.str)) ∧ H p = some (.lst ys) ∧ DqAll H ys (l.map pd) M ∧
  (∀ e ∈ l, OkR ws fs e.2 ∧ ∃ n, RowD n e.2) ∧ l.length ≤ 100 ∧ (H o = some (.lst (os.map V.str)) ∨ SqT K H o (os.map V.str)) ∧ is.length ≤ 100 ∧ os.length ≤ 100 ∧
  ∀ b H', Same H H' → H b = none → H' b = some (.lst ((dedupF (is ++ (l.flatMap fun e => varsOf e.2) ++ os)).map V.str)) → Q (.ref b) H'
abbrev S_all_variables : Stmt := topS 46
abbrev N_all_variables : List Str := ["inputs", "pairs", "outputs", "told", "_", "row", "name"]
abbrev P_all_variables : List Str := ["inputs", "pairs", "outputs"]
theorem sc_all_variables : FnScope N_all_variables P_all_variables (defScope S_all_variables) := ⟨rfl, rfl, rfl, by decide +kernel, rfl, by decide +kernel, by decide +kernel⟩
section
variable {P : Program} {w : World} {K : PySem.W.Frag} {mg : Str → Option Value} {base : Heap}
set_option maxHeartbeats 4000000 in
theorem ok_all_variables {f fR : Addr} {fd fdR : FuncData} {ws fs : List Str} (F : Fun K "all_variables" "all_variables" S_all_variables f fd) (B : Bl mg) (d_row_variables : Df K mg "row_variables" S_row_variables fR fdR P_row_variables) (G_row_variables : FnOk P w K mg base CX0 1 fR fdR P_row_variables (spPartsOf "variable")) :
    FnOk P w K mg base CX0 2 f fd P_all_variables (spAllV K ws fs) := by
  refine F.ok sc_all_variables (fun vs H Q E h => ?_) (fun cdv A outer s H vs Q E hr h => ?_)
  · obtain ⟨i, p, o, is, os, ys, l, M, rfl, _⟩ := h
    rfl
  · obtain ⟨i, p, o, is, os, ys, l, M, rfl, hI, hP, dP, okl, l100, hO, i100, o100, kk⟩ := h
    have hr_row_variables : Room 1 _ := hr.mono (Nat.le_refl _)
    have vlen : ∀ j, ((l.take j).flatMap fun e => varsOf e.2).length ≤ 200 := by
      intro j
      have h1 := vars_all_le (ws := ws) (fs := fs) (l := (l.take j).map (·.2)) fun d m => by
        obtain ⟨e, me, rfl⟩ := List.mem_map.mp m
        exact (okl e (List.mem_of_mem_take me)).1
      rw [List.flatMap_map, List.length_map] at h1
      have h2 : (l.take j).length ≤ 100 := Nat.le_trans (by rw [List.length_take]; exact Nat.min_le_right _ _) l100
      exact Nat.le_trans h1 (by omega)
    refine ⟨_, (pss_cons (ps_set (i := 3) sc_all_variables.nd rfl (by first | exact Or.inl rfl | exact Or.inr rfl) (pe_callTy call_list_of (by rfl) B.m_list (by decide +kernel) (pa_cons (pv 0) pa_nil)))
 (pss_cons (ps_for PassesOwn.never rfl (pi_list (pv 1)) (pg_tup rfl (pgs_cons (pg_name (i := 4) sc_all_variables.nd rfl (by first | exact Or.inl rfl | exact Or.inr rfl)) (pgs_cons (pg_name (i := 5) sc_all_variables.nd rfl (by first | exact Or.inl rfl | exact Or.inr rfl)) pgs_nil))) (pss_one (ps_expr (pe_bm PySem.F.plainAttrs_list PySem.F.slot_list_extend PySem.F.type_list_extend mt_extendA (pv 3) (pa_cons (pe_call G_row_variables hr_row_variables rfl d_row_variables.g d_row_variables.F.kp d_row_variables.b .nil pass0 (pa_cons (pv 5) pa_nil)) pa_nil)))))
 (pss_cons (ps_expr (pe_bm PySem.F.plainAttrs_list PySem.F.slot_list_extend PySem.F.type_list_extend mt_extendA (pv 3) (pa_cons (pv 2) pa_nil)))
 (pss_one (ps_ret (pe_callTy (call_list_dK rfl) (by rfl) B.m_list (by decide +kernel) (pa_cons (pe_dc (own := [("name", 6)]) (g := gName 6) (tt := tYes) rfl sc_all_variables.nd (pi_list (pv 3)) (blkOk_by (own := [("name", 6)]) (N := N_all_variables) (sc := defScope S_all_variables) (by decide +kernel)) (fun _ _ _ _ _ => pg_name (i := 6) sc_all_variables.nd rfl (by first | exact Or.inl rfl | exact Or.inr rfl)) (fun _ _ _ _ _ => pts_nil) (fun _ _ _ _ _ => (pv 6)) (fun _ _ _ _ _ => pe_bl)) pa_nil))))))), ?_⟩
    refine ⟨_, rfl, i, _, rfl, hI, fun F0 hF0 => ?_⟩
    have s0 := same_new (o := .lst (is.map V.str)) hF0
    refine ⟨_, rfl, p, rfl, ⟨_, SqL.of (s0 _ _ hP)⟩, for_list (xs := ys) (fun j σ G => ∃ (z4 z5 z6 : Option V), σ = [some (.ref i), some (.ref p), some (.ref o), some (.ref F0), z4, z5, z6] ∧ Same H G ∧ G F0 = some (.lst ((is ++ (l.take j).flatMap fun e => varsOf e.2).map V.str))) ⟨_, _, _, rfl, s0, by rw [List.take_zero, List.flatMap_nil, List.append_nil]; exact upd_same⟩ ?_ ?_ ?_⟩
    · rintro j σ G hj ⟨z4, z5, z6, rfl, sG, hG⟩
      exact SqL.of (sG _ _ hP)
    · rintro j x σ G hx ⟨z4, z5, z6, rfl, sG, hG⟩
      obtain ⟨dd, N, hdj, hq, _⟩ := dP.get hx
      rw [List.getElem?_map] at hdj
      cases el : l[j]? with
      | none => rw [el] at hdj; cases hdj
      | some e =>
      rw [el] at hdj
      have edd : pd e = dd := Option.some.inj hdj
      rw [← edd] at hq
      obtain ⟨t, pl, v, rfl, ht, hpl, hv⟩ := pd_inv hq
      obtain ⟨oke, nn, hrow⟩ := okl e (List.mem_of_getElem? el)
      obtain ⟨r, k, us, rs, ps, rfl, RG, alt⟩ := row_view oke hrow (hv.same sG)
      refine ⟨t, _, rfl, SqT.of (sG _ _ ht), rfl, _, _, rfl, _, _, rfl, rfl, ?_⟩
      refine ⟨_, rfl, .inl ⟨rfl, _, SqL.of hG⟩, _, rfl, r, k, us, rs, rfl, RG.rV, fun b G2 s2 hb h2 => ?_⟩
      have vl := vlen j
      have v2 := vars_le oke
      refine ⟨F0, b, _, _, rfl, rfl, s2 _ _ hG, .inl h2, ?_, ?_⟩
      · rw [RG.rX, List.length_map, List.length_map, List.length_append]
        exact Nat.le_of_lt (small1000 (by omega))
      refine ⟨_, _, _, rfl, fun b o e => (upd_ne (ne_of_none e hF0)).trans (s2 _ _ (sG _ _ e)), ?_⟩
      rw [upd_same, RG.rX, take_next el, List.flatMap_append, ← List.map_append, List.append_assoc]
      simp
    · rintro σ G ⟨z4, z5, z6, rfl, sG, hG⟩
      have el : ys.length = l.length := by rw [dP.len, List.length_map]
      rw [el, List.take_length] at hG
      have vl := vlen l.length
      rw [List.take_length] at vl
      obtain ⟨tl, etl⟩ : ∃ tl, tl = is ++ (l.flatMap fun e => varsOf e.2) ++ os := ⟨_, rfl⟩
      have tlen : tl.length ≤ 500 := by
        rw [etl, List.length_append, List.length_append]
        omega
      have hO2 : G o = some (.lst (os.map V.str)) ∨ SqT K G o (os.map V.str) := hO.elim (fun h => .inl (sG _ _ h)) fun h => .inr (sqt_same sG h)
      refine ⟨_, rfl, .inl ⟨rfl, _, SqL.of hG⟩, _, rfl, F0, o, _, _, rfl, rfl, hG, hO2, ?_, ?_⟩
      · rw [List.length_map, List.length_map, List.length_append]
        exact Nat.le_of_lt (small1000 (by omega))
      rw [← List.map_append, ← etl]
      obtain ⟨G1, e1⟩ : ∃ G1 : Hp, G1 = upd G F0 (.lst (tl.map V.str)) := ⟨_, rfl⟩
      have h1 : G1 F0 = some (.lst (tl.map V.str)) := by rw [e1]; exact upd_same
      have s1 : Same H G1 := fun b o e => by rw [e1]; exact (upd_ne (ne_of_none e hF0)).trans (sG _ _ e)
      rw [← e1]
      refine ⟨_, rfl, F0, rfl, ⟨_, SqL.of h1⟩, fun D hD => dc_listN (xs := tl.map V.str) (fun j G' => Same G1 G' ∧ G' D = some (.dK (tkv (dedupN tl j)))) ⟨same_new hD, upd_same⟩ (fun j G' h => SqL.of (h.1 _ _ h1)) ?_ ?_ (fun x σ1 H1 Q1 Q2 m h => m _ _ h)⟩
      · rintro j x G' hx ⟨sG', hD'⟩
        obtain ⟨z, hz, rfl⟩ := get_str hx
        have jl : j ≤ tl.length := Nat.le_of_lt (List.getElem?_eq_some_iff.mp hz).1
        refine ⟨rfl, _, rfl, _, Sum.inr z, rfl, hD', ?_, fun b o e => (upd_ne (ne_of_none e hD)).trans (sG' _ _ e), ?_⟩
        · unfold tkv
          rw [List.length_map]
          have := dedupN_le tl j
          exact small1000 (by omega)
        · rw [upd_same]
          by_cases m : z ∈ tl.take j
          · rw [tkv_put_old ((dedupN_mem jl).mpr m), dedupN_in hz m]
          · rw [tkv_put_new (fun h => m ((dedupN_mem jl).mp h)), dedupN_out hz m]
      · rintro G' ⟨sG', hD'⟩
        rw [List.length_map] at hD'
        refine ⟨D, _, rfl, hD', fun q hq => kk q _ ((s1.trans sG').trans (same_new hq)) ((s1.trans sG').free hq) ?_⟩
        rw [upd_same, ← etl]
        unfold tkv
        rw [List.map_map]
        rfl
end
end TW
set_option Elab.async false
set_option linter.all false
set_option maxRecDepth 100000
namespace TW
open PySem PySem.Spec PyProof.Rows L2 TL
theorem cnt_strs {c : Str} : ∀ ks : List Str, (ks.map V.str).countP (fun z => eqV z (.str c)) = ks.countP (fun k => decide (k = c))
  | [] => rfl
  | k :: ks => by
    rw [List.map_cons, List.countP_cons, List.countP_cons, cnt_strs ks]
    have e : eqV (.str k) (.str c) = decide (k = c) := by
      by_cases h : k = c
      · subst h
        simp [eqV]
      · simp [eqV, h]
    rw [e]
theorem cnt_copies : ∀ l : List (List Int × PyData), (l.map fun e => kindOf e.2).countP (fun k => decide (k = ("copy" : Str))) = (l.map fun e => copiesOf e.2).sum
  | [] => rfl
  | e :: l => by
    rw [List.map_cons, List.countP_cons, List.map_cons, List.sum_cons, cnt_copies l]
    unfold copiesOf
    by_cases h : kindOf e.2 = "copy"
    · rw [if_pos h, if_pos (decide_eq_true h)]
      omega
    · rw [if_neg h, if_neg (by rw [decide_eq_false h]; exact Bool.false_ne_true)]
      omega
theorem cnt_readers : ∀ l : List (List Int × PyData), (l.map fun e => kindOf e.2).countP (fun k => decide (k = ("watch" : Str))) = (l.flatMap fun e => readersOf e.2).length
  | [] => rfl
  | e :: l => by
    rw [List.map_cons, List.countP_cons, List.flatMap_cons, List.length_append, cnt_readers l]
    unfold readersOf
    by_cases h : kindOf e.2 = "watch"
    · rw [if_pos h, if_pos (decide_eq_true h)]
      show _ = 1 + _
      omega
    · rw [if_neg h, if_neg (by rw [decide_eq_false h]; exact Bool.false_ne_true)]
      show _ = 0 + _
      omega
def spMany (K : PySem.W.Frag) (ws fs : List Str) : Sp := fun vs H Q _ => ∃ (p v : Addr) (ys us : List V) (l : List (List Int × PyData)) (M : List Addr), vs = [.ref p, .ref v] ∧ H p = some (.lst ys) ∧ DqAll H ys (l.map pd) M ∧ (∀ e ∈ l, OkR ws fs e.2) ∧ l.length ≤ 20 ∧ H v = some (.lst us) ∧ us.length ≤ 6 ∧
  (l.map fun e => copiesOf e.2).sum ≤ 4 ∧ (l.flatMap fun e => readersOf e.2).length ≤ 3 ∧ ∀ H', Same H H' → Q .non H'
abbrev S_check_many : Stmt := topS 47
abbrev N_check_many : List Str := ["pairs", "variables", "words", "_", "row"]
abbrev P_check_many : List Str := ["pairs", "variables"]
theorem sc_check_many : FnScope N_check_many P_check_many (defScope S_check_many) := ⟨rfl, rfl, rfl, by decide +kernel, rfl, by decide +kernel, by decide +kernel⟩
section
variable {P : Program} {w : World} {K : PySem.W.Frag} {mg : Str → Option Value} {base : Heap}
set_option maxHeartbeats 4000000 in
theorem ok_check_many {f : Addr} {fd : FuncData} {t1 t2 t3 t4 : Tok} {ws fs : List Str} (F : Fun K "check_many" "check_many" S_check_many f fd) (B : Bl mg) (m_MOST_ROWS : mg "MOST_ROWS" = some (.int 20 t1)) (m_MOST_VARIABLES : mg "MOST_VARIABLES" = some (.int 6 t2)) (m_MOST_COPIES : mg "MOST_COPIES" = some (.int 4 t3)) (m_MOST_WATCHES : mg "MOST_WATCHES" = some (.int 3 t4)) :
    FnOk P w K mg base CX0 1 f fd P_check_many (spMany K ws fs) := by
  refine F.ok sc_check_many (fun vs H Q E h => ?_) (fun cdv A outer s H vs Q E hr h => ?_)
  · obtain ⟨p, v, ys, us, l, M, rfl, _⟩ := h
    rfl
  · obtain ⟨p, v, ys, us, l, M, rfl, hP, dP, okl, l20, hV, u6, c4, r3, kk⟩ := h
    refine ⟨_, (pss_cons (ps_setLc (i := 2) (own := [("_", 3), ("row", 4)]) (tt := tYes) rfl sc_check_many.nd rfl rfl (sw_true rfl rfl rfl (by decide +kernel)) (pi_list (pv 0)) (blkOk_by (own := [("_", 3), ("row", 4)]) (N := N_check_many) (sc := defScope S_check_many) (by decide +kernel)) (fun _ _ _ _ _ => (pg_tupK (K := K) (n := 2) rfl rfl (pgs_cons (pg_name (i := 3) sc_check_many.nd rfl (by first | exact Or.inl rfl | exact Or.inr rfl)) (pgs_cons (pg_name (i := 4) sc_check_many.nd rfl (by first | exact Or.inl rfl | exact Or.inr rfl)) pgs_nil)))) (fun _ _ _ _ _ => pts_nil) (fun _ _ _ _ _ => (pe_ix (ix_tupK (K := K) rfl) (pv 4) pe_int (fun _ _ => rfl))))
 (pss_cons (ps_if (PW.pt (pw_or (pt_cmpR op_gt (pe_callB call_len_seq (by rfl) B.m_len PySem.boot_len (pa_cons (pv 2) pa_nil)) (pe_glob (v := .int _) rfl m_MOST_ROWS ⟨_, rfl⟩) (nomark _)) (pw_or1 (pt_cmpR op_gt (pe_callB call_len_seq (by rfl) B.m_len PySem.boot_len (pa_cons (pv 1) pa_nil)) (pe_glob (v := .int _) rfl m_MOST_VARIABLES ⟨_, rfl⟩) (nomark _))))) (pss_one ps_never) pss_nil)
 (pss_one (ps_if (PW.pt (pw_or (pt_cmpR op_gt (pe_bm PySem.F.plainAttrs_list PySem.F.slot_list_count PySem.F.type_list_count mt_countL (pv 2) (pa_cons pe_str pa_nil)) (pe_glob (v := .int _) rfl m_MOST_COPIES ⟨_, rfl⟩) (nomark _)) (pw_or1 (pt_cmpR op_gt (pe_bm PySem.F.plainAttrs_list PySem.F.slot_list_count PySem.F.type_list_count mt_countL (pv 2) (pa_cons pe_str pa_nil)) (pe_glob (v := .int _) rfl m_MOST_WATCHES ⟨_, rfl⟩) (nomark _))))) (pss_one ps_never) pss_nil)))), ?_⟩
    refine ⟨_, rfl, p, rfl, ⟨_, SqL.of hP⟩, fun D hD => lc_list (xs := ys) (fun j G => Same H G ∧ G D = some (.lst (((l.take j).map fun e => kindOf e.2).map V.str))) ⟨same_new hD, upd_same⟩ (fun j G _ h => SqL.of (h.1 _ _ hP)) ?_ ?_⟩
    · rintro j x G hx ⟨sG, hG⟩
      obtain ⟨dd, N, hdj, hq, _⟩ := dP.get hx
      rw [List.getElem?_map] at hdj
      cases el : l[j]? with
      | none => rw [el] at hdj; cases hdj
      | some e =>
      rw [el] at hdj
      have edd : pd e = dd := Option.some.inj hdj
      rw [← edd] at hq
      obtain ⟨t, pl, v', rfl, ht, hpl, hv⟩ := pd_inv hq
      obtain ⟨k, ps, rs, ed, hl, hp⟩ := okl e (List.mem_of_getElem? el)
      obtain ⟨r, us', rfl, hr'⟩ : ∃ r us', v' = .ref r ∧ H r = some (.tup (.str k :: us')) := by
        rw [ed] at hv
        cases hv with
        | tup h1 d1 =>
          cases d1 with
          | cons q1 _ =>
            cases q1
            exact ⟨_, _, rfl, h1⟩
      refine ⟨t, _, rfl, SqT.of (sG _ _ ht), rfl, _, _, rfl, _, _, rfl, rfl, rfl, yes_of ?_⟩
      refine ⟨_, rfl, r, _, 0, .str k, rfl, rfl, SqT.of (sG _ _ hr'), atI_of (j := 0) rfl rfl, _, hG, ?_, fun b o e => (upd_ne (ne_of_none e hD)).trans (sG _ _ e), ?_⟩
      · rw [List.length_map, List.length_map, List.length_take]
        exact small1000 (by omega)
      · have ek : kindOf e.2 = k := by
          rw [ed]
          rfl
        rw [upd_same, take_next el, List.map_append, List.map_append]
        show _ = some (HO.lst (_ ++ [V.str (kindOf e.2)]))
        rw [ek]
    · rintro G ⟨sG, hG⟩
      have el : ys.length = l.length := by rw [dP.len, List.length_map]
      rw [el, List.take_length] at hG
      refine ⟨_, rfl, D, _, rfl, .inl (SqL.of hG), _, _, rfl, rfl, _, rfl, ite_dec (fun hb => ?_) (fun _ => ?_)⟩
      · have := of_decide_eq_true hb
        rw [List.length_map, List.length_map] at this
        omega
      refine ⟨_, rfl, v, _, rfl, .inl (SqL.of (sG _ _ hV)), _, _, rfl, rfl, _, rfl, ite_dec (fun hb => ?_) (fun _ => ?_)⟩
      · have := of_decide_eq_true hb
        omega
      refine ⟨_, rfl, .inl ⟨rfl, _, SqL.of hG⟩, D, _, _, rfl, rfl, SqL.of hG, rfl, flat_strs _, _, _, rfl, rfl, _, rfl, ite_dec (fun hb => ?_) (fun _ => ?_)⟩
      · have := of_decide_eq_true hb
        rw [cnt_strs, cnt_copies] at this
        omega
      refine ⟨_, rfl, .inl ⟨rfl, _, SqL.of hG⟩, D, _, _, rfl, rfl, SqL.of hG, rfl, flat_strs _, _, _, rfl, rfl, _, rfl, ite_dec (fun hb => ?_) (fun _ => kk G sG)⟩
      have := of_decide_eq_true hb
      rw [cnt_strs, cnt_readers] at this
      omega
end
end TW
set_option Elab.async false
set_option linter.all false
set_option maxRecDepth 100000
set_option maxHeartbeats 1000000
namespace L2
open PySem PySem.Spec PyProof.Rows
section
variable {X : Cx}
/-- a store into a dict whose keys are tuples, as a comprehension makes it -/
theorem dictSetT {pn : List (Addr × Obj)} {τ : St} {G : Hp} {z : Shared} {E : Value → Shared → Prop} {q b : Addr} {m : List (List Key × V)} {k : List Key} {v : V} {r : Value} {Q : Unit → Shared → Prop} (hu : X.A.units < cLine) (J : Inv X pn τ G z) (hq : G q = some (.dT m)) (hb : G b = some (.tup (k.map kV))) (small : m.length < sizeLine)
    (rv : RelV v r) (fin : ∀ z', Inv X pn τ (upd G q (.dT (putK m k v))) z' → Q () z') : wpAny (model X.prog X.w) X.A (dictSet q (.ref b) r) Q E z := by
  obtain ⟨len, low, xs, rel, dd⟩ := dt_of J.hok hq
  have l1 : xs.length ≤ sizeLine := by
    rw [← Paired.length rel]
    exact len
  have l2 : (putK m k v).length ≤ sizeLine := Nat.le_trans (length_putK m k v) small
  refine wpAny_dictSet_heap (hsz := l1) hu (key_of J.hok hb) dd fun h' dd' same => fin _ ?_
  obtain ⟨o, ents, ep, ho, c1, c2, c3, _, c5⟩ := dd'
  refine d_write J (by rw [hq]; exact True.intro) same ⟨o, ho⟩ ⟨l2, low, _, (rel.put k hb rv).keeps fun c ys ec => ?_, o, ents, ep, ho, c1, c2, c3, c5⟩
  rw [upd_ne (ne_of ec hq fun n => nomatch n)]
  exact ec
/-- {place: v for .. in ..}, the keys tuples, without a test: q the new dict -/
def tDcT (wi : TI) (g : TG) (tk tv : TE) (vs : List Nat) : TE := fun σ H Q => wi σ H fun J H1 => ∀ q, H1 q = none → ∃ Z : Nat → Nat → Hp → Prop, (∃ m, Z 0 m (upd H1 q (.dT []))) ∧ ∀ i m G, Z i m G →
  (J.stop i G ∧ Q (.ref q) G) ∨ (J.go i G ∧ ∃ Y : Hp → Prop, (∀ G', Y G' → ∃ m', m' < m ∧ Z (i + 1) m' G') ∧ ∀ x G', J.yld i G x G' → g x (wipe σ vs) G' fun σ2 G2 => wipe σ2 vs = wipe σ vs ∧
    tk σ2 G2 fun y G3 => tv σ2 G3 fun z G4 => ∃ kvs k b, y = .ref b ∧ G4 b = some (.tup (k.map kV)) ∧ G4 q = some (.dT kvs) ∧ kvs.length < sizeLine ∧ Y (upd G4 q (.dT (putK kvs k z))))
theorem pe_dcT {ke ve tg src : Expr} {sc : Scope} {own : List (Str × Nat)} {pos : Pos} {wi : TI} {g : TG} {tk tv : TE} (hu : X.A.units < cLine) (calm : X.calm = true) (nd : X.N.Nodup) (walked : PI X tg src wi) (bo : BlkOk X.N X.env.scope sc own)
    (pg : ∀ (s : Shared) (H : Hp) (C : Addr) (cl : List (Str × Addr)) (fp : List Addr), PG (X.blk s H sc (compEnvC sc cl C X.env) fp) tg g)
    (pk : ∀ (s : Shared) (H : Hp) (C : Addr) (cl : List (Str × Addr)) (fp : List Addr), PE (X.blk s H sc (compEnvC sc cl C X.env) fp) ke tk)
    (pv : ∀ (s : Shared) (H : Hp) (C : Addr) (cl : List (Str × Addr)) (fp : List Addr), PE (X.blk s H sc (compEnvC sc cl C X.env) fp) ve tv) (plain : ∀ x, foldedSetIterable src X.env x = pure x := by intro _; rfl) :
    PE X (.DictComp ke ve [⟨tg, src, [], 0⟩] sc pos) (tDcT wi g tk tv (own.map (·.2))) := by
  constructor
  intro pn z σ H Q I reads
  rw [arm_eval_DictComp]
  have cells : ∀ y ∈ sc.names, y.2 = .free → ∃ c, X.env.cells.lookup y.1 = some c := fun y m e => I.ok.has y.1 (bo.free y m e)
  refine wpAny_comprehension_free rfl plain (closure_ok cells) bo.kind (fun y m e => by rw [bo.uniq y m, e]) (thn (walked.run pn z σ H _ I reads) fun _ _ q1 => thn q1 fun _ z2 q2 => ?_)
  obtain ⟨it, fp, stand, J, H2, rfl, I2, T, at0, apart, rest⟩ := q2
  refine wpAny_newObj_type (newEnv_comp ?_)
  -- the new dict, and the block's own frame behind it
  obtain ⟨q, eq⟩ : ∃ q, q = z2.heap.objs.size := ⟨_, rfl⟩
  obtain ⟨G0, eG⟩ : ∃ G0 : Hp, G0 = upd H2 q (.dT []) := ⟨_, rfl⟩
  obtain ⟨z3, ez⟩ : ∃ z3 : Shared, z3 = { z2 with heap := z2.heap.push { cls := .type "dict", data := .dict #[] } } := ⟨_, rfl⟩
  have I3 : Inv X pn σ G0 z3 := by
    rw [eG, ez, eq]
    exact I2.laid (t' := z2.toks) (fun _ _ e => Heap.get?_push_of_some _ e) (Nat.le_refl _) (dt_empty z2.heap I2.big)
  have free0 : H2 q = none := I2.hok.fresh (Nat.le_of_eq eq.symm)
  obtain ⟨Z, ⟨m0, start⟩, turn⟩ := rest q free0
  rw [← eG] at start
  have away : ∀ b ∈ fp, b < q := fun b m => by
    obtain ⟨_, e, _⟩ := T.obj _ _ at0 b m
    rw [eq]
    exact Heap.lt_size e
  have grown : z3.heap.objs.size = q + 1 := by rw [ez, eq]; exact Heap.size_push ..
  have off : ∀ b ∈ fp, FpOk X pn G0 b ∧ b < z3.heap.objs.size := fun b m => by
    have lt := away b m
    refine ⟨⟨?_, (apart b m).2⟩, by rw [grown]; exact Nat.lt_succ_of_lt lt⟩
    rw [eG, upd_ne (Nat.ne_of_lt lt)]
    exact (apart b m).1
  have old : ∀ b o, z2.heap.get? b = some o → z3.heap.get? b = some o := fun _ _ e => by rw [ez]; exact Heap.get?_push_of_some _ e
  obtain ⟨z4, ez4⟩ : ∃ z4 : Shared, z4 = { z3 with heap := pushCells (z3.heap.push { cls := .type "dict", data := .dict #[] }) sc.names } := ⟨_, rfl⟩
  obtain ⟨cls, ecl⟩ : ∃ cls : List (Str × Addr), cls = cellsFrom (z3.heap.objs.size + 1) sc.names (cloFrom X.env.cells sc.names []) := ⟨_, rfl⟩
  obtain ⟨env, een⟩ : ∃ env : Env, env = compEnvC sc cls z3.heap.objs.size X.env := ⟨_, rfl⟩
  have eloc : env.locals = z3.heap.objs.size := by rw [een]; rfl
  have I4 : Inv (X.blk z3 G0 sc env fp) [] (wipe σ (own.map (·.2))) G0 z4 := by
    rw [een, ecl, ez4]
    exact block_start I3 bo nd off
  have at4 : stand 0 z4.heap := T.keep _ _ _ at0 fun b _ o e => by rw [ez4]; exact pushCells_keeps _ _ _ _ (Heap.get?_push_of_some _ (old b o e))
  have pg := pg z3 G0 z3.heap.objs.size cls fp
  have pk := pk z3 G0 z3.heap.objs.size cls fp
  have pv := pv z3 G0 z3.heap.objs.size cls fp
  rw [← een] at pg pk pv
  have hold : ∀ {σ' : St} {G : Hp} {s' : Shared}, Inv (X.blk z3 G0 sc env fp) [] σ' G s' → (∀ b ∈ fp, G b = none) → ∀ b ∈ fp, FpOk (X.blk z3 G0 sc env fp) [] G b := fun I' none' b m => by
    obtain ⟨x1, x2⟩ := I'.ok.exf b m
    exact ⟨none' b m, x1, I'.ok.exfs b m, .inl m, fun x c e => x2 x c e, fun p hp => absurd (show p ∈ ([] : List (Addr × Obj)) ++ [] from hp) List.not_mem_nil⟩
  have all : codeAny (model X.prog X.w) X.A (.compLoop (.DictComp ke ve [⟨tg, src, [], 0⟩] sc pos) 0 (.ref it) (.ref q) env) (compPost (model X.prog X.w) X.A X.xe none (EP X pn σ Q) (.ref q) z3.heap.objs.size) z4 := by
    refine compLoop_anyD (fun m s' => ∃ i G, Inv (X.blk z3 G0 sc env fp) [] (wipe σ (own.map (·.2))) G s' ∧ stand i s'.heap ∧ (∀ b ∈ fp, G b = none) ∧ Z i m G) ?_ m0 ⟨0, G0, I4, at4, fun b m => (off b m).1.1, start⟩
    rintro m s5 ⟨i, G, I5, at5, no5, zz⟩
    rcases turn i m G zz with ⟨halt, q5⟩ | ⟨goes, Y, back, each⟩
    · refine thnF (T.done (X.blk z3 G0 sc env fp) rfl rfl rfl calm i [] s5 _ G (fun _ _ => False) I5 (hold I5 no5) at5 halt) fun _ s6 ⟨none6, I6⟩ => ?_
      subst none6
      have I7 : Inv X pn σ G s6 := I3.call' (ch := fp) I6.os I6.base I6.hok I6.bare fun b m => by
        obtain ⟨_, x1, x2, x3, x4, x5⟩ := (off b m).1
        exact ⟨x3, x1, x4, x5⟩
      obtain ⟨names, hn, _⟩ := I6.loc
      have hn : s6.heap.Ns env.locals names := hn
      have nL : G env.locals = none := I6.free
      rw [eloc] at hn nL
      obtain ⟨y0, y1, y2, y3, y4, y5⟩ := I3.fpOk (Nat.le_refl _) nL
      exact ⟨names, hn, fun h'' sb => ⟨.ref q, G, I7.turned (t' := s6.toks) (fun b o ne e => (sb.2 b ne).trans e) y0 y1 y3 y4 y5, rfl, q5⟩⟩
    · refine thnF (T.item (X.blk z3 G0 sc env fp) rfl rfl rfl calm i [] s5 _ G (fun _ _ => False) I5 (hold I5 no5) at5 goes) fun _ s6 ⟨u, some6, more⟩ => ?_
      subst some6
      refine thnF more fun _ s7 ⟨x, G7, I7, rx, yl, at7, no7⟩ => ?_
      have I8 := I7.pinned (hold I7 no7) (T.obj _ _ at7)
      refine thnF (pg.run _ s7 _ G7 x u _ I8 rx (each x G7 yl)) fun _ s9 ⟨σ9, G9, I9, wiped, q9⟩ => ?_
      refine wpAny_tests_nil ?_
      rw [if_pos rfl]
      refine thnF (pk.run _ s9 σ9 G9 _ I9 q9) fun _ s10 ⟨yk, G10, I10, rk, q10⟩ => ?_
      refine thnF (pv.run _ s10 σ9 G10 _ I10 q10) fun _ s11 ⟨yv, G11, I11, rv, kvs, k, b, ek, hb, hq, small, nx⟩ => ?_
      subst ek
      cases rk
      refine dictSetT (X := X.blk z3 G0 sc env fp) hu I11 hq hb small rv fun s12 I12 => ?_
      obtain ⟨m', less, next⟩ := back _ nx
      have kept : ∀ b ∈ fp, ∀ o, s7.heap.get? b = some o → s12.heap.get? b = some o ∧ (upd G11 q (.dT (putK kvs k yv))) b = none := fun b hm o e => by
        obtain ⟨a1, a2, _⟩ := I12.pin (b, o) (List.mem_append_right _ (List.mem_append_right _ (mem_pinsAt hm e)))
        exact ⟨a1, a2⟩
      have same : (wipe σ (own.map (·.2))).length = σ9.length := by rw [← wiped, wipe_length]
      refine ⟨m', less, i + 1, _, (I12.unpinned (pins := [])).weak same (fun j v e => ?_), T.keep _ _ _ at7 fun b hm o e => (kept b hm o e).1, fun b hm => ?_, next⟩
      · rw [← wiped] at e
        exact (wipe_some e).1
      · obtain ⟨o, e, _⟩ := T.obj _ _ at7 b hm
        exact (kept b hm o e).2
  have fin := codeAny_compStart_dict all (T.self X.A 0 _ _ _ at4 all)
  rw [een, ecl, ez4, ez] at fin
  rw [eq] at fin
  exact fin
end
end L2
set_option Elab.async false
set_option linter.all false
set_option maxRecDepth 100000
namespace TW
open PySem PySem.Spec PyProof.Rows L2 TL
/-! words in a tuple, of the heap or of the written part -/
def WT (K : PySem.W.Frag) (G : Hp) (a : Addr) (ws : List Str) : Prop := G a = some (.tup (ws.map V.str)) ∨ ∀ G', SqT K G' a (ws.map V.str)
def WS (K : PySem.W.Frag) (G : Hp) (a : Addr) (ws : List Str) : Prop := G a = some (.lst (ws.map V.str)) ∨ WT K G a ws
section
variable {K : PySem.W.Frag} {G G' : Hp} {a h : Addr} {ws : List Str}
theorem WT.sqt (w : WT K G a ws) : SqT K G a (ws.map V.str) := w.elim SqT.of fun z => z G
theorem WT.same (w : WT K G a ws) (s : Same G G') : WT K G' a ws := w.elim (fun e => .inl (s _ _ e)) .inr
theorem WS.same (w : WS K G a ws) (s : Same G G') : WS K G' a ws := w.elim (fun e => .inl (s _ _ e)) fun z => .inr (z.same s)
theorem WT.keep (w : WT K G a ws) (s : ∀ xs, G a = some (.tup xs) → G' a = some (.tup xs)) : WT K G' a ws := w.elim (fun e => .inl (s _ e)) .inr
theorem WS.seq (w : WS K G a ws) : SqL K G a (ws.map V.str) ∨ SqT K G a (ws.map V.str) := w.elim (fun e => .inl (SqL.of e)) fun z => .inr z.sqt
theorem kd_wt (z : ∀ G', SqT K G' a (ws.map V.str)) : Kd K G (.ref a) "tuple" := by
  refine ⟨by decide, ?_, fun y e => by cases e⟩
  rcases z (fun _ => none) with (e | ⟨o, e⟩) | ⟨o, its, n, e, c, _⟩
  · cases e
  · cases e
  · exact .kTuple e c
theorem WS.kd (w : WS K G a ws) : ∃ T, (T = "list" ∨ T = "tuple") ∧ Kd K G (.ref a) T := by
  rcases w with e | e | z
  · exact ⟨"list", .inl rfl, by decide, .base (.lst e), fun y e => by cases e⟩
  · exact ⟨"tuple", .inr rfl, by decide, .base (.tup e), fun y e => by cases e⟩
  · exact ⟨"tuple", .inr rfl, kd_wt z⟩
theorem WS.seqK (w : WS K G a ws) (hw : ∀ x ∈ ws, IsW x) (l : ws.length ≤ 1000) : SeqK K G a (ws.map V.str) := ⟨w.seq, by rw [List.length_map]; omega, fun y hy => by
  obtain ⟨z, hz, rfl⟩ := List.mem_map.mp hy
  exact ⟨_, kdW (by have := (hw z hz).2.1; omega)⟩⟩
theorem ne_tup {C dx : Addr} {fl : List (Str × V)} {xs : List V} (e : G h = some (.ins C dx fl)) (z : G a = some (.tup xs)) : a ≠ h := fun n => by
  rw [n, e] at z
  cases z
theorem ne_lst {C dx : Addr} {fl : List (Str × V)} {xs : List V} (e : G h = some (.ins C dx fl)) (z : G a = some (.lst xs)) : a ≠ h := fun n => by
  rw [n, e] at z
  cases z
end
theorem pn1 : ¬ (("inputs" : Str) = "fields") := by decide +kernel
theorem pn2 : ¬ (("inputs" : Str) = "outputs") := by decide +kernel
theorem pn3 : ¬ (("inputs" : Str) = "_rows") := by decide +kernel
theorem pn4 : ¬ (("inputs" : Str) = "_table") := by decide +kernel
theorem pn5 : ¬ (("inputs" : Str) = "_variables") := by decide +kernel
theorem pn6 : ¬ (("fields" : Str) = "outputs") := by decide +kernel
theorem pn7 : ¬ (("fields" : Str) = "_rows") := by decide +kernel
theorem pn8 : ¬ (("fields" : Str) = "_table") := by decide +kernel
theorem pn9 : ¬ (("fields" : Str) = "_variables") := by decide +kernel
theorem pn10 : ¬ (("outputs" : Str) = "_rows") := by decide +kernel
theorem pn11 : ¬ (("outputs" : Str) = "_table") := by decide +kernel
theorem pn12 : ¬ (("outputs" : Str) = "_variables") := by decide +kernel
theorem pn13 : ¬ (("_rows" : Str) = "_table") := by decide +kernel
theorem pn14 : ¬ (("_rows" : Str) = "_variables") := by decide +kernel
theorem pn15 : ¬ (("_table" : Str) = "_variables") := by decide +kernel
/-- where the parts of a Program stand -/
structure PP where
  dx : Addr
  tI : Addr
  tF : Addr
  tO : Addr
  qR : Addr
  qT : Addr
  qV : Addr
  LR : List Addr
  us : List V
  LT : List Addr
def pfl (p : PP) : List (Str × V) := putF "_variables" (.ref p.qV) (putF "_table" (.ref p.qT) (putF "_rows" (.ref p.qR) (putF "outputs" (.ref p.tO) (putF "fields" (.ref p.tF) (putF "inputs" (.ref p.tI) [])))))
theorem pfl_inputs (p : PP) : (pfl p).lookup ("inputs" : Str) = some (.ref p.tI) := by
  unfold pfl
  rw [lookup_putF, if_neg pn5, lookup_putF, if_neg pn4, lookup_putF, if_neg pn3, lookup_putF, if_neg pn2, lookup_putF, if_neg pn1, lookup_putF, if_pos rfl]
theorem pfl_fields (p : PP) : (pfl p).lookup ("fields" : Str) = some (.ref p.tF) := by
  unfold pfl
  rw [lookup_putF, if_neg pn9, lookup_putF, if_neg pn8, lookup_putF, if_neg pn7, lookup_putF, if_neg pn6, lookup_putF, if_pos rfl]
theorem pfl_outputs (p : PP) : (pfl p).lookup ("outputs" : Str) = some (.ref p.tO) := by
  unfold pfl
  rw [lookup_putF, if_neg pn12, lookup_putF, if_neg pn11, lookup_putF, if_neg pn10, lookup_putF, if_pos rfl]
theorem pfl_rows (p : PP) : (pfl p).lookup ("_rows" : Str) = some (.ref p.qR) := by
  unfold pfl
  rw [lookup_putF, if_neg pn14, lookup_putF, if_neg pn13, lookup_putF, if_pos rfl]
theorem pfl_table (p : PP) : (pfl p).lookup ("_table" : Str) = some (.ref p.qT) := by
  unfold pfl
  rw [lookup_putF, if_neg pn15, lookup_putF, if_pos rfl]
theorem pfl_variables (p : PP) : (pfl p).lookup ("_variables" : Str) = some (.ref p.qV) := by
  unfold pfl
  rw [lookup_putF, if_pos rfl]
/-- what a program is made of -/
structure GoodP (is fs os : List Str) (n : Nat) (ds : List PyData) (ws : List Str) : Prop where
  iw : ∀ x ∈ is, IsW x
  iN : is.Nodup
  i1 : 1 ≤ is.length
  i3 : is.length ≤ 3
  fw : ∀ x ∈ fs, IsW x
  fN : fs.Nodup
  f1 : 1 ≤ fs.length
  f2 : fs.length ≤ 2
  ow : ∀ x ∈ os, IsW x
  oN : os.Nodup
  o3 : os.length ≤ 3
  ww : ∀ x ∈ ws, IsW x
  n3 : n ≤ 3
  rd : ∀ d ∈ ds, RowD n d
  ok : ∀ d ∈ rowsD n ds, OkR ws fs d
  r20 : (rowsD n ds).length ≤ 20
  c4 : cps n ds ≤ 4
  w3 : (rds n ds).length ≤ 3
  wN : (rds n ds).Nodup
  v6 : (dedupF (is ++ (rowsD n ds).flatMap varsOf ++ os)).length ≤ 6
def vars (is os : List Str) (n : Nat) (ds : List PyData) : List Str := dedupF (is ++ (rowsD n ds).flatMap varsOf ++ os)
def keyI (pl : List Int) : List Key := pl.map Sum.inl
/-- a Program at h -/
structure ProgAt (K : PySem.W.Frag) (C : Addr) (H : Hp) (h : Addr) (is fs os : List Str) (n : Nat) (ds : List PyData) (ws : List Str) (p : PP) : Prop where
  ob : H h = some (.ins C p.dx (pfl p))
  i : WT K H p.tI is
  f : WT K H p.tF fs
  o : WT K H p.tO os
  r : Dq H (.ref p.qR) (.list ds) p.LR
  t : H p.qT = some (.dT (((walkD n [] ds).map fun e => keyI e.1).zip p.us))
  u : DqAll H p.us (rowsD n ds) p.LT
  v : H p.qV = some (.lst ((vars is os n ds).map V.str))
  g : GoodP is fs os n ds ws
/-- what may not be written to -/
def PP.own (p : PP) : List Addr := p.qV :: (p.LR ++ p.LT)
theorem ProgAt.same {K : PySem.W.Frag} {C h : Addr} {H H' : Hp} {is fs os ws : List Str} {n : Nat} {ds : List PyData} {p : PP} (A : ProgAt K C H h is fs os n ds ws p) (s : Same H H') : ProgAt K C H' h is fs os n ds ws p :=
  ⟨s _ _ A.ob, A.i.same s, A.f.same s, A.o.same s, A.r.same s, s _ _ A.t, A.u.same s, s _ _ A.v, A.g⟩
/-- lists that are none of its own may be written to -/
theorem ProgAt.only {K : PySem.W.Frag} {C h : Addr} {H H' : Hp} {is fs os ws : List Str} {n : Nat} {ds : List PyData} {p : PP} {L : List Addr} (A : ProgAt K C H h is fs os n ds ws p) (s : OnlyL L H H') (hL : ∀ x ∈ L, ∃ xs, H x = some (.lst xs)) (off : ∀ x ∈ L, x ∉ p.own) : ProgAt K C H' h is fs os n ds ws p := by
  have no : ∀ {b : Addr} {o : HO}, H b = some o → (∀ xs, o ≠ .lst xs) → H' b = some o := fun {b o} e n => s _ _ e fun m => by
    obtain ⟨xs, z⟩ := hL b m
    rw [e] at z
    exact n xs (Option.some.inj z)
  have kp : ∀ {M : List Addr}, (∀ x ∈ M, x ∈ p.own) → (∀ x ∈ M, ∃ xs, H x = some (.lst xs)) → KeepL M H H' := fun h1 h2 => ⟨fun b m => by
    obtain ⟨xs, e⟩ := h2 b m
    rw [e]
    exact s _ _ e fun z => off b z (h1 b m), fun b xs e => no e fun _ z => nomatch z⟩
  have wt : ∀ {a : Addr} {zs : List Str}, WT K H a zs → WT K H' a zs := fun w => w.keep fun xs e => no e fun _ z => nomatch z
  refine ⟨no A.ob fun _ z => (nomatch z), wt A.i, wt A.f, wt A.o, A.r.keep (kp (fun x m => ?_) A.r.there), no A.t fun _ z => (nomatch z), A.u.keep (kp (fun x m => ?_) A.u.there), s _ _ A.v fun z => off _ z (List.mem_cons_self ..), A.g⟩
  · exact List.mem_cons_of_mem _ (List.mem_append_left _ m)
  · exact List.mem_cons_of_mem _ (List.mem_append_right _ m)
def spProgI (K : PySem.W.Frag) (C : Addr) : Sp := fun vs H Q _ => ∃ (h dx aI aF aR aO : Addr) (is fs os : List Str) (n : Nat) (ds : List PyData) (ws : List Str) (L : List Addr), vs = [.ref h, .ref aI, .ref aF, .ref aR, .ref aO] ∧ H h = some (.ins C dx []) ∧ WS K H aI is ∧ WS K H aF fs ∧ Dq H (.ref aR) (.list ds) L ∧ ds.length ≤ 100 ∧ WS K H aO os ∧ GoodP is fs os n ds ws ∧
  ∀ (p : PP) (H' : Hp), (∀ b o, H b = some o → b ≠ h → H' b = some o) → ProgAt K C H' h is fs os n ds ws p → (∀ x ∈ p.own, H x = none) → Q .non H'
/-- what the walk asks of the class -/
structure HCP (K : PySem.W.Frag) (mg : Str → Option Value) (C : Addr) : Prop where
  cl : Cls K C
  nI : NoAttr K C "inputs"
  nF : NoAttr K C "fields"
  nO : NoAttr K C "outputs"
  nR : NoAttr K C "_rows"
  nT : NoAttr K C "_table"
  nV : NoAttr K C "_variables"
  g : mg "Program" = some (.ref C)
abbrev S_Program___init__ : Stmt := inClass (topS 43) 0
abbrev N_Program___init__ : List Str := ["self", "inputs", "fields", "rows", "outputs", "pairs", "variables", "place", "row"]
abbrev P_Program___init__ : List Str := ["self", "inputs", "fields", "rows", "outputs"]
theorem sc_Program___init__ : FnScope N_Program___init__ P_Program___init__ (defScope S_Program___init__) := ⟨rfl, rfl, rfl, by decide +kernel, rfl, by decide +kernel, by decide +kernel⟩
abbrev S_Program_rows : Stmt := inClass (topS 43) 3
abbrev N_Program_rows : List Str := ["self"]
abbrev P_Program_rows : List Str := ["self"]
theorem sc_Program_rows : FnScope N_Program_rows P_Program_rows (defScope S_Program_rows) := ⟨rfl, rfl, rfl, by decide +kernel, rfl, by decide +kernel, by decide +kernel⟩
abbrev S_Program_variables : Stmt := inClass (topS 43) 9
abbrev N_Program_variables : List Str := ["self"]
abbrev P_Program_variables : List Str := ["self"]
theorem sc_Program_variables : FnScope N_Program_variables P_Program_variables (defScope S_Program_variables) := ⟨rfl, rfl, rfl, by decide +kernel, rfl, by decide +kernel, by decide +kernel⟩
end TW
set_option Elab.async false
set_option linter.all false
set_option maxRecDepth 100000
namespace TW
open PySem PySem.Spec PyProof.Rows L2 TL
/-! places are unlike -/
def Ext (b : List Int) (p : List Int) : Prop := ∃ rest, p = b ++ rest ∧ rest ≠ []
theorem ext_trans {b c p : List Int} (h : Ext (b ++ c) p) : Ext b p := by
  obtain ⟨rest, rfl, h⟩ := h
  exact ⟨c ++ rest, List.append_assoc .., fun e => h (List.append_eq_nil_iff.mp e).2⟩
theorem lvl_unlike {W : List Int → List PyData → List (List Int × PyData)} (hW : ∀ b as, ((W b as).map (·.1)).Nodup) (hE : ∀ b as, ∀ e ∈ W b as, Ext b e.1) (base : List Int) : ∀ (ds : List PyData) (k : Nat),
    (((ds.zipIdx k).flatMap fun p => (base ++ [(p.2 : Int)], p.1) :: (W (base ++ [(p.2 : Int)] ++ [0]) (inner p.1).1 ++ W (base ++ [(p.2 : Int)] ++ [1]) (inner p.1).2)).map (·.1)).Nodup ∧
    ∀ e ∈ ((ds.zipIdx k).flatMap fun p => (base ++ [(p.2 : Int)], p.1) :: (W (base ++ [(p.2 : Int)] ++ [0]) (inner p.1).1 ++ W (base ++ [(p.2 : Int)] ++ [1]) (inner p.1).2)), ∃ (i : Nat) (rest : List Int), k ≤ i ∧ e.1 = base ++ ((i : Int) :: rest)
  | [], k => ⟨List.nodup_nil, fun e m => nomatch m⟩
  | d :: ds, k => by
    obtain ⟨ih1, ih2⟩ := lvl_unlike hW hE base ds (k + 1)
    have blk : ∀ e ∈ ((base ++ [(k : Int)], d) :: (W (base ++ [(k : Int)] ++ [0]) (inner d).1 ++ W (base ++ [(k : Int)] ++ [1]) (inner d).2)), ∃ rest : List Int, e.1 = base ++ ((k : Int) :: rest) := by
      intro e m
      rcases List.mem_cons.mp m with rfl | m
      · exact ⟨[], rfl⟩
      · rcases List.mem_append.mp m with m | m
        · obtain ⟨rest, h, _⟩ := ext_trans (hE _ _ e m)
          exact ⟨rest, by rw [h, List.append_assoc]; rfl⟩
        · obtain ⟨rest, h, _⟩ := ext_trans (hE _ _ e m)
          exact ⟨rest, by rw [h, List.append_assoc]; rfl⟩
    have n0 : (((base ++ [(k : Int)], d) :: (W (base ++ [(k : Int)] ++ [0]) (inner d).1 ++ W (base ++ [(k : Int)] ++ [1]) (inner d).2)).map (·.1)).Nodup := by
      rw [List.map_cons, List.nodup_cons, List.map_append, List.nodup_append]
      refine ⟨fun m => ?_, hW _ _, hW _ _, fun x hx y hy e => ?_⟩
      · have long : ∀ x ∈ ((W (base ++ [(k : Int)] ++ [0]) (inner d).1).map (·.1) ++ (W (base ++ [(k : Int)] ++ [1]) (inner d).2).map (·.1)), (base ++ [(k : Int)]).length < x.length := by
          intro x m
          rcases List.mem_append.mp m with m | m
          · obtain ⟨e, me, rfl⟩ := List.mem_map.mp m
            obtain ⟨rest, h, _⟩ := hE _ _ e me
            rw [h]
            simp only [List.length_append, List.length_cons, List.length_nil]
            omega
          · obtain ⟨e, me, rfl⟩ := List.mem_map.mp m
            obtain ⟨rest, h, _⟩ := hE _ _ e me
            rw [h]
            simp only [List.length_append, List.length_cons, List.length_nil]
            omega
        have := long _ m
        exact absurd this (Nat.lt_irrefl _)
      · obtain ⟨e1, m1, rfl⟩ := List.mem_map.mp hx
        obtain ⟨e2, m2, rfl⟩ := List.mem_map.mp hy
        obtain ⟨r1, h1, _⟩ := hE _ _ e1 m1
        obtain ⟨r2, h2, _⟩ := hE _ _ e2 m2
        rw [h1, h2, List.append_assoc, List.append_assoc (base ++ [(k : Int)])] at e
        have := List.append_cancel_left e
        rw [List.singleton_append, List.singleton_append] at this
        injection this with h _
        omega
    rw [List.zipIdx_cons, List.flatMap_cons]
    refine ⟨?_, fun e m => ?_⟩
    · rw [List.map_append, List.nodup_append]
      refine ⟨n0, ih1, fun x hx y hy e => ?_⟩
      obtain ⟨e1, m1, rfl⟩ := List.mem_map.mp hx
      obtain ⟨e2, m2, rfl⟩ := List.mem_map.mp hy
      obtain ⟨r1, h1⟩ := blk e1 m1
      obtain ⟨i, r2, hi, h2⟩ := ih2 e2 m2
      rw [h1, h2] at e
      have := List.append_cancel_left e
      injection this with h _
      omega
    · rcases List.mem_append.mp m with m | m
      · obtain ⟨rest, h⟩ := blk e m
        exact ⟨k, rest, Nat.le_refl _, h⟩
      · obtain ⟨i, rest, hi, h⟩ := ih2 e m
        exact ⟨i, rest, by omega, h⟩
theorem walk_ext : ∀ (n : Nat) (base : List Int) (ds : List PyData), ((walkD n base ds).map (·.1)).Nodup ∧ ∀ e ∈ walkD n base ds, Ext base e.1
  | 0, base, ds => by
    obtain ⟨h1, h2⟩ := lvl_unlike (W := fun _ _ => []) (fun _ _ => List.nodup_nil) (fun _ _ e m => nomatch m) base ds 0
    exact ⟨h1, fun e m => by
      obtain ⟨i, rest, _, h⟩ := h2 e m
      exact ⟨_, h, by simp⟩⟩
  | n + 1, base, ds => by
    obtain ⟨h1, h2⟩ := lvl_unlike (W := walkD n) (fun b as => (walk_ext n b as).1) (fun b as => (walk_ext n b as).2) base ds 0
    exact ⟨h1, fun e m => by
      obtain ⟨i, rest, _, h⟩ := h2 e m
      exact ⟨_, h, by simp⟩⟩
theorem keyI_inj {p q : List Int} (h : p.map (Sum.inl (β := Str)) = q.map Sum.inl) : p = q := by
  induction p generalizing q with
  | nil => cases q with
    | nil => rfl
    | cons y q => cases h
  | cons x p ih => cases q with
    | nil => cases h
    | cons y q =>
      injection h with h1 h2
      injection h1 with h1
      rw [h1, ih h2]
/-- a table grows by a new key -/
theorem putT_new {ks : List (List Key)} {us : List V} {k : List Key} {v : V} (hl : ks.length = us.length) (h : k ∉ ks) : putK (ks.zip us) k v = (ks ++ [k]).zip (us ++ [v]) := by
  have e : valV (ks.zip us) k = none := by
    clear hl
    induction ks generalizing us with
    | nil => rfl
    | cons k0 ks ih =>
      cases us with
      | nil => rfl
      | cons u us =>
        rw [List.zip_cons_cons, valV_neg (fun z => h (by rw [← z]; exact List.mem_cons_self ..))]
        exact ih fun m => h (List.mem_cons_of_mem _ m)
  rw [putK_new _ e, List.zip_append hl]
  rfl
theorem rowsD_rd : ∀ {n : Nat} {ds : List PyData}, (∀ d ∈ ds, RowD n d) → ∀ d ∈ rowsD n ds, RowD n d
  | n, ds, h, d, m => by
    rw [rowsD_lvl] at m
    unfold lvlR at m
    obtain ⟨e, he, m⟩ := List.mem_flatMap.mp m
    rcases List.mem_cons.mp m with rfl | m
    · exact h _ he
    · rcases row_inner (h e he) with z | ⟨k, as, bs, rfl, z, ra, rb, _, _⟩
      · rw [z] at m
        have : Rn n [] ++ Rn n [] = [] := by rw [Rn_nil]; rfl
        rw [show (([] : List PyData), ([] : List PyData)).1 = [] from rfl, show (([] : List PyData), ([] : List PyData)).2 = [] from rfl, this] at m
        cases m
      · rw [z] at m
        rcases List.mem_append.mp m with m | m
        · exact (rowsD_rd ra d m).up
        · exact (rowsD_rd rb d m).up
theorem rows_up {n : Nat} {ds : List PyData} (h : ∀ d ∈ ds, RowD n d) : rowsD (n + 1) ds = rowsD n ds := by
  rw [← walkD_rows (n + 1) [] ds, ← walkD_rows n [] ds, walk_up h]
theorem rowsD_sub : ∀ {n : Nat} {ds : List PyData}, (∀ d ∈ ds, RowD n d) → ∀ d ∈ rowsD n ds, ∀ e ∈ rowsD n [d], e ∈ rowsD n ds
  | n, ds, h, d, m, e, he => by
    have m0 := m
    rw [rowsD_lvl] at m
    unfold lvlR at m
    obtain ⟨t, ht, m⟩ := List.mem_flatMap.mp m
    rcases List.mem_cons.mp m with rfl | m
    · exact rowsD_mem ht he
    · rcases row_inner (h t ht) with z | ⟨k, as, bs, rfl, z, ra, rb, _, _⟩
      · rw [z] at m
        have : Rn n [] ++ Rn n [] = [] := by rw [Rn_nil]; rfl
        rw [show (([] : List PyData), ([] : List PyData)).1 = [] from rfl, show (([] : List PyData), ([] : List PyData)).2 = [] from rfl, this] at m
        cases m
      · rw [z] at m
        have up : ∀ {l : List PyData}, (∀ d ∈ l, RowD k d) → d ∈ rowsD k l → e ∈ rowsD k l := fun {l} hl md => by
          have rd := rowsD_rd hl d md
          rw [rows_up (n := k) (fun x hx => by rw [List.mem_singleton.mp hx]; exact rd)] at he
          exact rowsD_sub hl d md e he
        refine rowsD_mem ht ?_
        rw [rows_br z]
        rcases List.mem_append.mp m with m | m
        · exact List.mem_cons_of_mem _ (List.mem_append_left _ (up ra m))
        · exact List.mem_cons_of_mem _ (List.mem_append_right _ (up rb m))
/-- a table by a comprehension over a list -/
theorem dcT_list {K : PySem.W.Frag} {a : Addr} {xs : List V} {g : TG} {tk tv : TE} {vs : List Nat} {σ : St'} {H1 : Hp} {D : Addr} {Qd : Hp → Prop} (Pv : Nat → Hp → Prop) (h0 : Pv 0 (upd H1 D (.dT []))) (hl : ∀ i H, Pv i H → SqL K H a xs)
    (hs : ∀ i x G, xs[i]? = some x → Pv i G → g x (wipe σ vs) G fun σ2 G2 => wipe σ2 vs = wipe σ vs ∧ tk σ2 G2 fun y G3 => tv σ2 G3 fun z G4 => ∃ kvs k b, y = .ref b ∧ G4 b = some (.tup (k.map kV)) ∧ G4 D = some (.dT kvs) ∧ kvs.length < sizeLine ∧ Pv (i + 1) (upd G4 D (.dT (putK kvs k z)))) (hd : ∀ G, Pv xs.length G → Qd G) :
    ∃ Z : Nat → Nat → Hp → Prop, (∃ m, Z 0 m (upd H1 D (.dT []))) ∧ ∀ i m G, Z i m G →
      ((Itl K a).stop i G ∧ Qd G) ∨ ((Itl K a).go i G ∧ ∃ Y : Hp → Prop, (∀ G', Y G' → ∃ m', m' < m ∧ Z (i + 1) m' G') ∧ ∀ x G', (Itl K a).yld i G x G' → g x (wipe σ vs) G' fun σ2 G2 => wipe σ2 vs = wipe σ vs ∧
        tk σ2 G2 fun y G3 => tv σ2 G3 fun z G4 => ∃ kvs k b, y = .ref b ∧ G4 b = some (.tup (k.map kV)) ∧ G4 D = some (.dT kvs) ∧ kvs.length < sizeLine ∧ Y (upd G4 D (.dT (putK kvs k z)))) := by
  refine ⟨fun i m G => m = xs.length - i ∧ i ≤ xs.length ∧ Pv i G, ⟨xs.length, by simp, Nat.zero_le _, h0⟩, ?_⟩
  rintro i m G ⟨rfl, hi, p⟩
  have q := hl i G p
  by_cases lt : i < xs.length
  · have hx : xs[i]? = some xs[i] := List.getElem?_eq_getElem lt
    refine .inr ⟨⟨xs, _, q, hx⟩, Pv (i + 1), fun G' p' => ⟨xs.length - (i + 1), by omega, rfl, lt, p'⟩, fun x G' y => ?_⟩
    obtain ⟨e, y⟩ := y
    subst e
    exact hs i x _ (y xs q) p
  · have e : i = xs.length := by omega
    subst e
    exact .inl ⟨⟨xs, q, Nat.le_refl _⟩, hd G p⟩
end TW
set_option Elab.async false
set_option linter.all false
set_option maxRecDepth 100000
namespace TW
open PySem PySem.Spec PyProof.Rows L2 TL
/-- the object under construction -/
structure Mk1 (C h dx : Addr) (H G : Hp) (fl : List (Str × V)) : Prop where
  s : ∀ b o, H b = some o → b ≠ h → G b = some o
  e : G h = some (.ins C dx fl)
section
variable {K : PySem.W.Frag} {C h dx a : Addr} {H G G' : Hp} {fl fl' : List (Str × V)} {ws : List Str}
theorem Mk1.same (m : Mk1 C h dx H G fl) (s : Same G G') : Mk1 C h dx H G' fl := ⟨fun b o e n => s _ _ (m.s b o e n), s _ _ m.e⟩
theorem Mk1.set (m : Mk1 C h dx H G fl) : Mk1 C h dx H (upd G h (.ins C dx fl')) fl' := ⟨fun b o e n => (upd_ne n).trans (m.s b o e n), upd_same⟩
theorem Mk1.wsK (m : Mk1 C h dx H G fl) (e0 : ∃ f0, H h = some (.ins C dx f0)) (w : WS K H a ws) : WS K G a ws := by
  obtain ⟨f0, e0⟩ := e0
  rcases w with e | e | z
  · exact .inl (m.s _ _ e (ne_lst e0 e))
  · exact .inr (.inl (m.s _ _ e (ne_tup e0 e)))
  · exact .inr (.inr z)
theorem Mk1.wtK (m : Mk1 C h dx H G fl) (w : WT K G a ws) : WT K (upd G h (.ins C dx fl')) a ws := w.keep fun xs e => (upd_ne (ne_tup m.e e)).trans e
theorem Mk1.keep (m : Mk1 C h dx H G fl) {M : List Addr} (h2 : ∀ x ∈ M, ∃ xs, G x = some (.lst xs)) : KeepL M G (upd G h (.ins C dx fl')) := ⟨fun b hb => by
  obtain ⟨xs, e⟩ := h2 b hb
  exact upd_ne (ne_lst m.e e), fun b xs e => (upd_ne (ne_tup m.e e)).trans e⟩
theorem Mk1.free (m : Mk1 C h dx H G fl) (hq : G a = none) : H a = none := by
  cases e : H a with
  | none => rfl
  | some o =>
    have n : a ≠ h := fun n => by rw [n, m.e] at hq; cases hq
    rw [m.s _ _ e n] at hq
    cases hq
theorem Mk1.old (m : Mk1 C h dx H G fl) (e0 : ∃ f0, H h = some (.ins C dx f0)) {M : List Addr} (h2 : ∀ x ∈ M, ∃ xs, H x = some (.lst xs)) : KeepL M H G := by
  obtain ⟨f0, e0⟩ := e0
  refine ⟨fun b hb => ?_, fun b xs e => m.s _ _ e (ne_tup e0 e)⟩
  obtain ⟨xs, e⟩ := h2 b hb
  rw [e]
  exact m.s _ _ e (ne_lst e0 e)
end
theorem areW_of {ws : List Str} {lo hi : Int} (h1 : ∀ x ∈ ws, IsW x) (h2 : ws.Nodup) (h3 : lo ≤ (ws.length : Int)) (h4 : (ws.length : Int) ≤ hi) : AreW (ws.map V.str) lo hi := ⟨ws, rfl, h1, h2, h3, h4⟩
section
variable {P : Program} {w : World} {K : PySem.W.Frag} {mg : Str → Option Value} {base : Heap}
set_option maxHeartbeats 8000000 in
theorem ok_progI {f0 C fA fF fK fV fM fC fR : Addr} {fd0 fdA fdF fdK fdV fdM fdC fdR : FuncData} {t1 t2 : Tok} {dvs : List V} {kws : List (Str × V)} (F0 : FunD K "__init__" "Program.__init__" (defArgs S_Program___init__) (defBody S_Program___init__) (defScope S_Program___init__) dvs kws f0 fd0) (B : Bl mg) (T : HCP K mg C)
    (m_MOST_INPUTS : mg "MOST_INPUTS" = some (.int 3 t1)) (m_MOST_OUTPUTS : mg "MOST_OUTPUTS" = some (.int 3 t2))
    (d_are_words : Df K mg "are_words" S_are_words fA fdA P_are_words) (G_are_words : FnOk P w K mg base CX0 2 fA fdA P_are_words (spAreW K))
    (d_are_fields : Df K mg "are_fields" S_are_fields fF fdF P_are_fields) (G_are_fields : FnOk P w K mg base CX0 3 fF fdF P_are_fields (spAreF K))
    (d_checked_rows : Df K mg "checked_rows" S_checked_rows fK fdK P_checked_rows) (G1 : ∀ ws fs : List Str, FnOk P w K mg base CX0 7 fK fdK P_checked_rows (spChecked K ws fs))
    (d_all_variables : Df K mg "all_variables" S_all_variables fV fdV P_all_variables) (G2 : ∀ ws fs : List Str, FnOk P w K mg base CX0 2 fV fdV P_all_variables (spAllV K ws fs))
    (d_check_many : Df K mg "check_many" S_check_many fM fdM P_check_many) (G3 : ∀ ws fs : List Str, FnOk P w K mg base CX0 1 fM fdM P_check_many (spMany K ws fs))
    (d_copied_rows : Df K mg "copied_rows" S_copied_rows fC fdC P_copied_rows) (d_copied_row : Df K mg "copied_row" S_copied_row fR fdR P_copied_row)
    (G4 : ∀ (ws fs : List Str) (n : Nat), FnOk P w K mg base CX0 (2 * n + 2) fR fdR P_copied_row (spCopyR ws fs n) ∧ FnOk P w K mg base CX0 (2 * n + 3) fC fdC P_copied_rows (spCopies ws fs n)) :
    FnOk P w K mg base CX0 10 f0 fd0 P_Program___init__ (spProgI K C) := by
  refine F0.ok sc_Program___init__ (fun vs H Q E h => ?_) (fun cdv A outer s H vs Q E hr h => ?_)
  · obtain ⟨h, dx, aI, aF, aR, aO, is, fs, os, n, ds, ws, L, rfl, _⟩ := h
    rfl
  · obtain ⟨h, dx, aI, aF, aR, aO, is, fs, os, n, ds, ws, L, rfl, hh, hI, hF, hR, d100, hO, g, kk⟩ := h
    have G_checked_rows := G1 ws fs
    have G_all_variables := G2 ws fs
    have G_check_many := G3 ws fs
    have G_copied_rows := (G4 ws fs n).2
    have G_copied_row := (G4 ws fs n).1
    have n3 := g.n3
    have hr_are_words : Room 2 _ := hr.mono (by decide)
    have hr_are_fields : Room 3 _ := hr.mono (by decide)
    have hr_checked_rows : Room 7 _ := hr.mono (by decide)
    have hr_all_variables : Room 2 _ := hr.mono (by decide)
    have hr_check_many : Room 1 _ := hr.mono (by decide)
    have hr_copied_rows : Room (2 * n + 3) _ := hr.mono (by omega)
    have hr_copied_row : Room (2 * n + 2) _ := hr.mono (by omega)
    have hu0 : (A.deeper (envOfC "Program.__init__" (defScope S_Program___init__) s.heap.objs.size f0 cdv)).units < cLine := by have := hr.un; omega
    refine ⟨_, (pss_cons (ps_if (pt_not (pt_val (pe_call G_are_words hr_are_words rfl d_are_words.g d_are_words.F.kp d_are_words.b .nil pass0 (pa_cons (pv 1) (pa_cons pe_int (pa_cons (pe_glob (v := .int _) rfl m_MOST_INPUTS ⟨_, rfl⟩) pa_nil)))))) (pss_one ps_never) pss_nil)
 (pss_cons (ps_if (pt_not (pt_val (pe_call G_are_fields hr_are_fields rfl d_are_fields.g d_are_fields.F.kp d_are_fields.b .nil pass0 (pa_cons (pv 2) pa_nil)))) (pss_one ps_never) pss_nil)
 (pss_cons (ps_if (pt_not (pt_val (pe_call G_are_words hr_are_words rfl d_are_words.g d_are_words.F.kp d_are_words.b .nil pass0 (pa_cons (pv 4) (pa_cons pe_int (pa_cons (pe_glob (v := .int _) rfl m_MOST_OUTPUTS ⟨_, rfl⟩) pa_nil)))))) (pss_one ps_never) pss_nil)
 (pss_cons (ps_if (pt_not (pt_val (pe_callB call_isi (by rfl) B.m_isinstance (by decide +kernel) (pa_cons (pv 3) (pa_cons (pe_bltn (v := .ty "list") (by rfl) B.m_list (by decide +kernel) rfl) pa_nil))))) (pss_one ps_never) pss_nil)
 (pss_cons (ps_set (i := 5) sc_Program___init__.nd rfl (by first | exact Or.inl rfl | exact Or.inr rfl) (pe_call G_checked_rows hr_checked_rows rfl d_checked_rows.g d_checked_rows.F.kp d_checked_rows.b .nil pass0 (pa_cons (pv 3) (pa_cons (pv 2) pa_nil))))
 (pss_cons (ps_set (i := 6) sc_Program___init__.nd rfl (by first | exact Or.inl rfl | exact Or.inr rfl) (pe_call G_all_variables hr_all_variables rfl d_all_variables.g d_all_variables.F.kp d_all_variables.b .nil pass0 (pa_cons (pv 1) (pa_cons (pv 5) (pa_cons (pv 4) pa_nil)))))
 (pss_cons (ps_expr (pe_call G_check_many hr_check_many rfl d_check_many.g d_check_many.F.kp d_check_many.b .nil pass0 (pa_cons (pv 5) (pa_cons (pv 6) pa_nil))))
 (pss_cons (ps_cut (ps_fld (pv 0) (pe_callTy call_tuple_of (by rfl) B.m_tuple (by decide +kernel) (pa_cons (pv 1) pa_nil)) rfl))
 (pss_cons (ps_cut (ps_fld (pv 0) (pe_callTy call_tuple_of (by rfl) B.m_tuple (by decide +kernel) (pa_cons (pv 2) pa_nil)) rfl))
 (pss_cons (ps_cut (ps_fld (pv 0) (pe_callTy call_tuple_of (by rfl) B.m_tuple (by decide +kernel) (pa_cons (pv 4) pa_nil)) rfl))
 (pss_cons (ps_fld (pv 0) (pe_call G_copied_rows hr_copied_rows rfl d_copied_rows.g d_copied_rows.F.kp d_copied_rows.b .nil pass0 (pa_cons (pv 3) pa_nil)) rfl)
 (pss_cons (ps_fld (pv 0) (pe_dcT (own := [("place", 7), ("row", 8)]) hu0 rfl sc_Program___init__.nd (pi_list (pv 5)) (blkOk_by (own := [("place", 7), ("row", 8)]) (N := N_Program___init__) (sc := defScope S_Program___init__) (by decide +kernel)) (fun _ _ _ _ _ => (pg_tupK (K := K) (n := 2) rfl rfl (pgs_cons (pg_name (i := 7) sc_Program___init__.nd rfl (by first | exact Or.inl rfl | exact Or.inr rfl)) (pgs_cons (pg_name (i := 8) sc_Program___init__.nd rfl (by first | exact Or.inl rfl | exact Or.inr rfl)) pgs_nil)))) (fun _ _ _ _ _ => (pv 7)) (fun _ _ _ _ _ => (pe_call G_copied_row hr_copied_row rfl d_copied_row.g d_copied_row.F.kp d_copied_row.b .nil pass0 (pa_cons (pv 8) pa_nil)))) rfl)
 (pss_one (ps_fld (pv 0) (pv 6) rfl)))))))))))))), ?_⟩
    obtain ⟨TI, hTI, kI⟩ := hI.kd
    refine ⟨_, rfl, _, TI, 1, 3, rfl, kI, by decide, .inr ⟨hTI, aI, _, rfl, hI.seqK g.iw (by have := g.i3; omega), fun b H1 s1 hb => ⟨_, rfl, ?_⟩⟩⟩
    have hbt : b = true := hb.mpr (areW_of g.iw g.iN (by have := g.i1; omega) (by have := g.i3; omega))
    subst hbt
    refine iteF ?_
    obtain ⟨TF, hTF, kF⟩ := (hF.same s1).kd
    refine ⟨_, rfl, _, TF, rfl, kF, .inr ⟨hTF, aF, _, rfl, (hF.same s1).seqK g.fw (by have := g.f2; omega), fun b H2 s2 hb => ⟨_, rfl, ?_⟩⟩⟩
    have hbt : b = true := hb.mpr (areW_of g.fw g.fN (by have := g.f1; omega) (by have := g.f2; omega))
    subst hbt
    refine iteF ?_
    have s12 := s1.trans s2
    obtain ⟨TO, hTO, kO⟩ := (hO.same s12).kd
    refine ⟨_, rfl, _, TO, 0, 3, rfl, kO, by decide, .inr ⟨hTO, aO, _, rfl, (hO.same s12).seqK g.ow (by have := g.o3; omega), fun b H3 s3 hb => ⟨_, rfl, ?_⟩⟩⟩
    have hbt : b = true := hb.mpr (areW_of g.ow g.oN (by omega) (by have := g.o3; omega))
    subst hbt
    refine iteF ?_
    have s13 := s12.trans s3
    obtain ⟨xs, hxs⟩ : ∃ xs, H aR = some (.lst xs) := by cases hR; exact ⟨_, by assumption⟩
    refine ⟨_, rfl, _, _, _, _, _, rfl, .ty "list", .base (.lst (s13 _ _ hxs)), kit7_list (by decide), _, rfl, iteF ?_⟩
    refine ⟨_, rfl, _, rfl, n, aR, aF, ds, L, rfl, g.n3, hR.same s13, g.rd, d100, g.ok, Nat.le_trans g.r20 (by decide), g.wN, (hF.same s13).seq, g.ww, g.fw, fun pr ys M H4 s4 hpr h4 dP subP => ?_⟩
    have s14 := s13.trans s4
    have okW : ∀ e ∈ walkD n [] ds, OkR ws fs e.2 := fun e m => g.ok _ (by rw [← walkD_rows n [] ds]; exact List.mem_map_of_mem m)
    have wl : (walkD n [] ds).length = (rowsD n ds).length := walkD_len n [] ds
    have r20 := g.r20
    have hO14 : H4 aO = some (.lst (os.map V.str)) ∨ SqT K H4 aO (os.map V.str) := (hO.same s14).elim .inl fun z => .inr z.sqt
    refine ⟨_, rfl, _, rfl, _, rfl, aI, pr, aO, is, os, ys, walkD n [] ds, M, rfl, (hI.same s14).seq, h4, dP, fun e m => ⟨okW e m, n, rowsD_rd g.rd _ (by rw [← walkD_rows n [] ds]; exact List.mem_map_of_mem m)⟩, by omega, hO14, by have := g.i3; omega, by have := g.o3; omega, fun pv H5 s5 hpv h5 => ?_⟩
    have ev : is ++ (walkD n [] ds).flatMap (fun e => varsOf e.2) ++ os = is ++ (rowsD n ds).flatMap varsOf ++ os := by
      rw [← walkD_rows n [] ds, List.flatMap_map]
    rw [ev] at h5
    have dP5 := dP.same s5
    refine ⟨_, rfl, _, rfl, pr, pv, ys, _, walkD n [] ds, M, rfl, s5 _ _ h4, dP5, okW, by omega, h5, by rw [List.length_map]; exact g.v6, ?_, ?_, fun H6 s6 => ?_⟩
    · have e : ((walkD n [] ds).map fun e => copiesOf e.2).sum = cps n ds := by
        unfold cps
        rw [← walkD_rows n [] ds, List.map_map]
        rfl
      rw [e]
      exact g.c4
    · rw [rds_walk]
      exact g.w3
    have s16 := s14.trans (s5.trans s6)
    have hh6 := s16 _ _ hh
    have e0 : ∃ f0, H6 h = some (.ins C dx f0) := ⟨_, hh6⟩
    have m0 : Mk1 C h dx H6 H6 [] := ⟨fun b o e _ => e, hh6⟩
    have hpr6 := s6 _ _ (s5 _ _ h4)
    have hpv6 := s6 _ _ h5
    have dP6 := dP5.same s6
    have hR6 := hR.same s16
    -- inputs
    refine ⟨fun σ G => ∃ tI, σ = [some (.ref h), some (.ref aI), some (.ref aF), some (.ref aR), some (.ref aO), some (.ref pr), some (.ref pv), none, none] ∧ Mk1 C h dx H6 G (putF "inputs" (.ref tI) []) ∧ WT K G tI is, ?_, ?_⟩
    · rcases hI.same s16 with e | e
      · refine ⟨_, rfl, aI, _, rfl, .inl ⟨SqL.of e, fun tI ht => ?_⟩⟩
        have m1 := m0.same (same_new (o := .tup (is.map V.str)) ht)
        exact ⟨_, rfl, h, C, dx, _, rfl, m1.e, T.cl, T.nI, by decide, tI, rfl, m1.set, m1.wtK (.inl upd_same)⟩
      · exact ⟨_, rfl, aI, _, rfl, .inr ⟨e.sqt, _, rfl, h, C, dx, _, rfl, m0.e, T.cl, T.nI, by decide, aI, rfl, m0.set, m0.wtK e⟩⟩
    rintro σ G1 ⟨tI, rfl, m1, wI⟩
    -- fields
    refine ⟨fun σ G => ∃ tF, σ = [some (.ref h), some (.ref aI), some (.ref aF), some (.ref aR), some (.ref aO), some (.ref pr), some (.ref pv), none, none] ∧ Mk1 C h dx H6 G (putF "fields" (.ref tF) (putF "inputs" (.ref tI) [])) ∧ WT K G tI is ∧ WT K G tF fs, ?_, ?_⟩
    · rcases m1.wsK e0 (hF.same s16) with e | e
      · refine ⟨_, rfl, aF, _, rfl, .inl ⟨SqL.of e, fun tF ht => ?_⟩⟩
        have s' := same_new (o := .tup (fs.map V.str)) ht
        have m2 := m1.same s'
        exact ⟨_, rfl, h, C, dx, _, rfl, m2.e, T.cl, T.nF, by show 1 < 1000; decide, tF, rfl, m2.set, m2.wtK (wI.same s'), m2.wtK (.inl upd_same)⟩
      · exact ⟨_, rfl, aF, _, rfl, .inr ⟨e.sqt, _, rfl, h, C, dx, _, rfl, m1.e, T.cl, T.nF, by show 1 < 1000; decide, aF, rfl, m1.set, m1.wtK wI, m1.wtK e⟩⟩
    rintro σ G2 ⟨tF, rfl, m2, wI2, wF⟩
    -- outputs
    refine ⟨fun σ G => ∃ tO, σ = [some (.ref h), some (.ref aI), some (.ref aF), some (.ref aR), some (.ref aO), some (.ref pr), some (.ref pv), none, none] ∧ Mk1 C h dx H6 G (putF "outputs" (.ref tO) (putF "fields" (.ref tF) (putF "inputs" (.ref tI) []))) ∧ WT K G tI is ∧ WT K G tF fs ∧ WT K G tO os, ?_, ?_⟩
    · rcases m2.wsK e0 (hO.same s16) with e | e
      · refine ⟨_, rfl, aO, _, rfl, .inl ⟨SqL.of e, fun tO ht => ?_⟩⟩
        have s' := same_new (o := .tup (os.map V.str)) ht
        have m3 := m2.same s'
        exact ⟨_, rfl, h, C, dx, _, rfl, m3.e, T.cl, T.nO, by show 2 < 1000; decide, tO, rfl, m3.set, m3.wtK (wI2.same s'), m3.wtK (wF.same s'), m3.wtK (.inl upd_same)⟩
      · exact ⟨_, rfl, aO, _, rfl, .inr ⟨e.sqt, _, rfl, h, C, dx, _, rfl, m2.e, T.cl, T.nO, by show 2 < 1000; decide, aO, rfl, m2.set, m2.wtK wI2, m2.wtK wF, m2.wtK e⟩⟩
    rintro σ G3 ⟨tO, rfl, m3, wI3, wF3, wO⟩
    -- rows
    have hR3 : Dq G3 (.ref aR) (.list ds) L := hR6.keep (m3.old e0 hR6.there)
    refine ⟨_, rfl, aR, ds, L, rfl, hR3, g.rd, g.ok, d100, fun qR LR G4 s7 dR fR => ⟨_, rfl, h, C, dx, _, rfl, s7 _ _ m3.e, T.cl, T.nR, by show 3 < 1000; decide, ?_⟩⟩
    have m4' := m3.same s7
    have dR5 := dR.keep (m4'.keep (fl' := putF "_rows" (.ref qR) (putF "outputs" (.ref tO) (putF "fields" (.ref tF) (putF "inputs" (.ref tI) [])))) dR.there)
    have m5 : Mk1 C h dx H6 (upd G4 h (.ins C dx (putF "_rows" (.ref qR) (putF "outputs" (.ref tO) (putF "fields" (.ref tF) (putF "inputs" (.ref tI) [])))))) _ := m4'.set
    have wI5 := m4'.wtK (fl' := putF "_rows" (.ref qR) (putF "outputs" (.ref tO) (putF "fields" (.ref tF) (putF "inputs" (.ref tI) [])))) (wI3.same s7)
    have wF5 := m4'.wtK (fl' := putF "_rows" (.ref qR) (putF "outputs" (.ref tO) (putF "fields" (.ref tF) (putF "inputs" (.ref tI) [])))) (wF3.same s7)
    have wO5 := m4'.wtK (fl' := putF "_rows" (.ref qR) (putF "outputs" (.ref tO) (putF "fields" (.ref tF) (putF "inputs" (.ref tI) [])))) (wO.same s7)
    obtain ⟨G5, e5⟩ : ∃ G5 : Hp, G5 = upd G4 h (.ins C dx (putF "_rows" (.ref qR) (putF "outputs" (.ref tO) (putF "fields" (.ref tF) (putF "inputs" (.ref tI) []))))) := ⟨_, rfl⟩
    rw [← e5] at m5 dR5 wI5 wF5 wO5 ⊢
    have prh : pr ≠ h := ne_lst hh6 hpr6
    have pvh : pv ≠ h := ne_lst hh6 hpv6
    have hpr5 := m5.s _ _ hpr6 prh
    have dP5' := dP6.keep (m5.old e0 dP6.there)
    -- table
    refine ⟨_, rfl, pr, rfl, ⟨_, SqL.of hpr5⟩, fun D hD => dcT_list (xs := ys) (fun j G => ∃ (us : List V) (LT : List Addr), Same G5 G ∧ us.length = j ∧ G D = some (.dT ((((walkD n [] ds).take j).map fun e => keyI e.1).zip us)) ∧ DqAll G us ((rowsD n ds).take j) LT ∧ ∀ x ∈ LT, G5 x = none) ⟨[], [], same_new hD, rfl, by rw [List.take_zero]; exact upd_same, .nil, fun x m => nomatch m⟩ (fun j G ⟨us, LT, sG, _⟩ => SqL.of (sG _ _ hpr5)) ?_ ?_⟩
    · rintro j x G hx ⟨us, LT, sG, ul, hT, dU, fU⟩
      obtain ⟨dd, N, hdj, hq, _⟩ := dP5'.get hx
      rw [List.getElem?_map] at hdj
      cases el : (walkD n [] ds)[j]? with
      | none => rw [el] at hdj; cases hdj
      | some e =>
      rw [el] at hdj
      have edd : pd e = dd := Option.some.inj hdj
      rw [← edd] at hq
      obtain ⟨t, pl, v, rfl, ht, hpl, hv⟩ := pd_inv hq
      have em : e ∈ walkD n [] ds := List.mem_of_getElem? el
      have erow : (rowsD n ds)[j]? = some e.2 := by
        rw [← walkD_rows n [] ds, List.getElem?_map, el]
        rfl
      have jl : j < (walkD n [] ds).length := (List.getElem?_eq_some_iff.mp el).1
      have rde := rowsD_rd g.rd e.2 (List.mem_of_getElem? erow)
      refine ⟨t, _, rfl, SqT.of (sG _ _ ht), rfl, _, _, rfl, _, _, rfl, rfl, rfl, _, rfl, _, rfl, v, e.2, N, rfl, hv.same sG, rde, ?_, fun u M' G' s8 qu fu => ?_⟩
      · exact fun x hx => g.ok x (rowsD_sub g.rd e.2 (List.mem_of_getElem? erow) x hx)
      have hTD := s8 _ _ hT
      have kp : ∀ {X : List Addr} {o : HO}, (∀ x ∈ X, ∃ xs, G' x = some (.lst xs)) → KeepL X G' (upd G' D o) := fun h => by
        refine ⟨fun b m => upd_ne fun z => ?_, fun b xs e => (upd_ne fun z => ?_).trans e⟩
        · obtain ⟨xs, e⟩ := h b m
          rw [z, hTD] at e
          cases e
        · rw [z, hTD] at e
          cases e
      refine ⟨_, keyI e.1, pl, rfl, by rw [(s8 _ _ (sG _ _ hpl))]; unfold keyI; rw [List.map_map]; rfl, hTD, ?_, us ++ [u], LT ++ M', fun b o e => (upd_ne (ne_of_none e hD)).trans (s8 _ _ (sG _ _ e)), by rw [List.length_append, ul]; rfl, ?_, ?_, fun x m => ?_⟩
      · rw [List.length_zip, ul]
        exact small1000 (Nat.le_trans (Nat.min_le_right _ _) (by omega))
      · have kl : ((((walkD n [] ds).take j).map fun e => keyI e.1)).length = us.length := by
          rw [List.length_map, List.length_take, ul]
          omega
        have kn : keyI e.1 ∉ (((walkD n [] ds).take j).map fun e => keyI e.1) := fun m => by
          obtain ⟨e', me, ee⟩ := List.mem_map.mp m
          have e1 := keyI_inj ee
          obtain ⟨i, hi, ei⟩ := List.mem_take_iff_getElem.mp me
          have nd := (walk_ext n [] ds).1
          have a1 : ((walkD n [] ds).map (·.1))[i]? = some e'.1 := by rw [List.getElem?_map, ← ei, List.getElem?_eq_getElem]; rfl
          have a2 : ((walkD n [] ds).map (·.1))[j]? = some e.1 := by rw [List.getElem?_map, el]; rfl
          have hil : i < ((walkD n [] ds).map (·.1)).length := (List.getElem?_eq_some_iff.mp a1).1
          have := (List.getElem?_inj hil nd).mp (a1.trans (by rw [e1]; exact a2.symm))
          omega
        rw [upd_same, putT_new kl kn, take_next el, List.map_append]
        rfl
      · rw [take_next erow]
        have d1 := dU.same s8
        exact (d1.keep (kp d1.there)).snoc (qu.keep (kp qu.there))
      · exact (List.mem_append.mp m).elim (fU x) fun m => sG.free (fu x m)
    · rintro G ⟨us, LT, sG, ul, hT, dU, fU⟩
      have yl : ys.length = (walkD n [] ds).length := by rw [dP.len, List.length_map]
      rw [yl] at ul hT dU
      rw [List.take_length] at hT
      rw [wl, List.take_length] at dU
      refine ⟨_, rfl, h, C, dx, _, rfl, sG _ _ m5.e, T.cl, T.nT, by show 4 < 1000; decide, ?_⟩
      obtain ⟨fl5, efl5⟩ : ∃ fl5, fl5 = putF "_table" (.ref D) (putF "_rows" (.ref qR) (putF "outputs" (.ref tO) (putF "fields" (.ref tF) (putF "inputs" (.ref tI) [])))) := ⟨_, rfl⟩
      have m6' := m5.same sG
      have m6 : Mk1 C h dx H6 (upd G h (.ins C dx fl5)) fl5 := m6'.set
      obtain ⟨p, ep⟩ : ∃ p : PP, p = ⟨dx, tI, tF, tO, qR, D, pv, LR, us, LT⟩ := ⟨_, rfl⟩
      rw [← efl5]
      refine ⟨_, rfl, _, rfl, h, C, dx, _, rfl, m6.e, T.cl, T.nV, by rw [efl5]; show 5 < 1000; decide, ?_⟩
      have efl : putF "_variables" (.ref pv) fl5 = pfl p := by rw [ep, efl5]; rfl
      rw [efl]
      have m7 : Mk1 C h dx H6 (upd (upd G h (.ins C dx fl5)) h (.ins C dx (pfl p))) (pfl p) := m6.set
      have nh : ∀ {b : Addr} {o : HO}, G b = some o → (∀ fl, o ≠ .ins C dx fl) → (upd (upd G h (.ins C dx fl5)) h (.ins C dx (pfl p))) b = some o := fun {b o} e n => by
        have z : b ≠ h := fun z => by rw [z, m6'.e] at e; exact n _ (Option.some.inj e).symm
        exact (upd_ne z).trans ((upd_ne z).trans e)
      have kd : ∀ {v : V} {d : PyData} {M : List Addr}, Dq G v d M → Dq (upd (upd G h (.ins C dx fl5)) h (.ins C dx (pfl p))) v d M := fun {v d M} q => q.keep ⟨fun b m => by
        obtain ⟨xs, e⟩ := q.there b m
        rw [e]
        exact nh e fun _ z => (nomatch z), fun b xs e => nh e fun _ z => (nomatch z)⟩
      have kdA : ∀ {vs : List V} {es : List PyData} {M : List Addr}, DqAll G vs es M → DqAll (upd (upd G h (.ins C dx fl5)) h (.ins C dx (pfl p))) vs es M := fun {vs es M} q => q.keep ⟨fun b m => by
        obtain ⟨xs, e⟩ := q.there b m
        rw [e]
        exact nh e fun _ z => (nomatch z), fun b xs e => nh e fun _ z => (nomatch z)⟩
      have kw : ∀ {a : Addr} {zs : List Str}, WT K G a zs → WT K (upd (upd G h (.ins C dx fl5)) h (.ins C dx (pfl p))) a zs := fun w => w.keep fun xs e => nh e fun _ z => (nomatch z)
      have back : ∀ {b : Addr}, G5 b = none → H b = none := fun {b} e => s16.free (m5.free e)
      have hLR : ∀ x ∈ LR, H x = none := fun x m => s16.free (m3.free (fR x m))
      refine kk p _ (fun b o e n => m7.s _ _ (s16 _ _ e) n) ?_ ?_
      · have a1 : p.dx = dx := by rw [ep]
        have a2 : p.tI = tI := by rw [ep]
        have a3 : p.tF = tF := by rw [ep]
        have a4 : p.tO = tO := by rw [ep]
        have a5 : p.qR = qR := by rw [ep]
        have a6 : p.qT = D := by rw [ep]
        have a7 : p.qV = pv := by rw [ep]
        have a8 : p.LR = LR := by rw [ep]
        have a9 : p.us = us := by rw [ep]
        have a10 : p.LT = LT := by rw [ep]
        refine ⟨?_, ?_, ?_, ?_, ?_, ?_, ?_, ?_, g⟩
        · rw [a1]
          exact upd_same
        · rw [a2]
          exact kw (wI5.same sG)
        · rw [a3]
          exact kw (wF5.same sG)
        · rw [a4]
          exact kw (wO5.same sG)
        · rw [a5, a8]
          exact kd (dR5.same sG)
        · rw [a6, a9]
          exact nh hT fun _ z => (nomatch z)
        · rw [a9, a10]
          exact kdA dU
        · rw [a7]
          exact m7.s _ _ hpv6 pvh
      · intro x m
        rw [ep] at m
        rcases List.mem_cons.mp m with rfl | m
        · exact s14.free hpv
        · exact (List.mem_append.mp m).elim (hLR x) fun m => back (fU x m)
end
end TW
set_option Elab.async false
set_option linter.all false
set_option maxRecDepth 100000
namespace TW
open PySem PySem.Spec PyProof.Rows L2 TL
/-- what repr asks of data: its depth and its weight -/
structure Shw (d : PyData) (D W : Nat) : Prop where
  sS : d.showable = true
  sH : d.hasDict = false
  sD : d.depth ≤ D
  sL : d.leavesShort 8 = true
  sW : d.weight ≤ W
  sC : d.canLay0 = true
structure ShwA (ds : List PyData) (D W : Nat) : Prop where
  sS : PyData.showableAll ds = true
  sH : PyData.hasDictAll ds = false
  sD : PyData.depthAll ds ≤ D
  sL : PyData.leavesShortAll 8 ds = true
  sW : PyData.weightAll ds ≤ W
  sC : PyData.canLayAll0 ds = true
theorem Shw.up {d : PyData} {D D' W W' : Nat} (x : Shw d D W) (h1 : D ≤ D') (h2 : W ≤ W') : Shw d D' W' := ⟨x.sS, x.sH, Nat.le_trans x.sD h1, x.sL, Nat.le_trans x.sW h2, x.sC⟩
theorem ShwA.up {d : List PyData} {D D' W W' : Nat} (x : ShwA d D W) (h1 : D ≤ D') (h2 : W ≤ W') : ShwA d D' W' := ⟨x.sS, x.sH, Nat.le_trans x.sD h1, x.sL, Nat.le_trans x.sW h2, x.sC⟩
theorem ShwA.nil : ShwA [] 0 0 := ⟨rfl, rfl, Nat.le_refl _, rfl, Nat.le_refl _, rfl⟩
theorem ShwA.cons {d : PyData} {ds : List PyData} {D V W : Nat} (x : Shw d D V) (y : ShwA ds D W) : ShwA (d :: ds) D (V + 1 + W) := by
  refine ⟨?_, ?_, ?_, ?_, ?_, by simp only [PyData.canLayAll0, x.sC, y.sC, Bool.and_self]⟩
  · simp only [PyData.showableAll, x.sS, y.sS, Bool.and_self]
  · simp only [PyData.hasDictAll, x.sH, y.sH, Bool.or_self]
  · have a := x.sD
    have b := y.sD
    simp only [PyData.depthAll]
    omega
  · simp only [PyData.leavesShortAll, x.sL, y.sL, Bool.and_self]
  · have a := x.sW
    have b := y.sW
    simp only [PyData.weightAll]
    omega
theorem ShwA.append {ds es : List PyData} {D V W : Nat} (x : ShwA ds D V) (y : ShwA es D W) : ShwA (ds ++ es) D (V + W) := by
  induction ds generalizing V with
  | nil => exact y.up (Nat.le_refl _) (Nat.le_add_left _ _)
  | cons d ds ih =>
    obtain ⟨s, h, dd, l, w, c⟩ := x
    simp only [PyData.showableAll, Bool.and_eq_true] at s
    simp only [PyData.hasDictAll, Bool.or_eq_false_iff] at h
    simp only [PyData.depthAll] at dd
    simp only [PyData.leavesShortAll, Bool.and_eq_true] at l
    simp only [PyData.weightAll] at w
    simp only [PyData.canLayAll0, Bool.and_eq_true] at c
    have a : Shw d D d.weight := ⟨s.1, h.1, by omega, l.1, Nat.le_refl _, c.1⟩
    have b : ShwA ds D (V - (d.weight + 1)) := ⟨s.2, h.2, by omega, l.2, by omega, c.2⟩
    exact (ShwA.cons a (ih b)).up (Nat.le_refl _) (by omega)
theorem Shw.tup {ds : List PyData} {D W : Nat} (x : ShwA ds D W) : Shw (.tuple ds) (D + 1) W := ⟨by simp only [PyData.showable, x.sS], by simp only [PyData.hasDict, x.sH], by have := x.sD; simp only [PyData.depth]; omega, by simp only [PyData.leavesShort, x.sL], by simp only [PyData.weight]; exact x.sW, by simp only [PyData.canLay0, x.sC]⟩
theorem Shw.lst {ds : List PyData} {D W : Nat} (x : ShwA ds D W) : Shw (.list ds) (D + 1) W := ⟨by simp only [PyData.showable, x.sS], by simp only [PyData.hasDict, x.sH], by have := x.sD; simp only [PyData.depth]; omega, by simp only [PyData.leavesShort, x.sL], by simp only [PyData.weight]; exact x.sW, by simp only [PyData.canLay0, x.sC]⟩
theorem Shw.str {z : Str} (h : z.length ≤ 100) (hc : ∀ c ∈ z.cps.toList, c < 1000) : Shw (.str z) 0 100 := by
  refine ⟨by simp only [PyData.showable], by simp only [PyData.hasDict], by simp only [PyData.depth]; exact Nat.le_refl _, ?_, by simp only [PyData.weight]; exact h, ?_⟩
  · have e : (1000 : Nat) ≤ 16 ^ 8 := by decide
    simp only [PyData.leavesShort, List.all_eq_true, decide_eq_true_eq]
    exact fun c m => Nat.lt_of_lt_of_le (hc c m) e
  · simp only [PyData.canLay0]
    unfold PyData.strOk
    rw [Array.all_eq_true']
    exact fun c m => decide_eq_true (Nat.lt_of_lt_of_le (hc c (by simpa using m)) (by decide))
theorem Shw.word {z : Str} (h : IsW z) : Shw (.str z) 0 100 := .str (by have := h.2.1; omega) fun c m => by
  have := h.2.2 c m
  omega
theorem Shw.int {i : Int} (h0 : 0 ≤ i) (h4 : i ≤ 4) : Shw (.int i) 0 100 := by
  have h : i = 0 ∨ i = 1 ∨ i = 2 ∨ i = 3 ∨ i = 4 := by omega
  rcases h with rfl | rfl | rfl | rfl | rfl <;> exact ⟨by decide, rfl, by decide, by decide +kernel, by decide, rfl⟩
theorem Shw.words {ws : List Str} (h : ∀ x ∈ ws, IsW x) : ShwA (ws.map .str) 0 (101 * ws.length) := by
  induction ws with
  | nil => exact .nil
  | cons x ws ih => exact (ShwA.cons (.word (h x (List.mem_cons_self ..))) (ih fun y m => h y (List.mem_cons_of_mem _ m))).up (Nat.le_refl _) (by rw [List.length_cons]; omega)
theorem Shw.fits {d : PyData} {D W : Nat} (x : Shw d D W) (hW : W ≤ 2 ^ 20) : d.shown.length ≤ sizeLine := PyData.shown_fits (B := 8) (Nat.le_refl _) (by decide) x.sL (Nat.le_trans x.sW hW)
theorem part_shw {ws fs : List Str} {r : Str} {d : PyData} (hw : ∀ x ∈ ws, IsW x) (hf : ∀ x ∈ fs, IsW x) (h : PartOk ws fs r d) (n : ¬ r = "rows") : Shw d 0 100 := by
  cases h with
  | @var x h => exact .word (hw _ h)
  | @field x h => exact .word (hf _ h)
  | @kind x h => rcases h with rfl | rfl <;> exact .word (by decide +kernel)
  | depth h0 h1 => exact .int h0 h1
  | reader h => exact .word h
  | rows => exact absurd rfl n
theorem parts_shw {ws fs : List Str} (hw : ∀ x ∈ ws, IsW x) (hf : ∀ x ∈ fs, IsW x) : ∀ {rs : List Str} {ds : List PyData}, PartsOk ws fs rs ds → ("rows" : Str) ∉ rs → ShwA ds 0 (101 * rs.length)
  | _, _, .nil, _ => .nil
  | _, _, .cons h a, n => ((part_shw hw hf h fun z => n (by rw [z]; exact List.mem_cons_self ..)).up (Nat.le_refl _) (Nat.le_refl _) |> fun x => ShwA.cons x (parts_shw hw hf a fun z => n (List.mem_cons_of_mem _ z))).up (Nat.le_refl _) (by rw [List.length_cons]; omega)
theorem kind_shw {k : Str} {rs : List Str} (h : formsT.lookup k = some rs) : Shw (.str k) 0 100 := by
  rcases forms_cases h with ⟨rfl, _⟩ | ⟨rfl, _⟩ | ⟨rfl, _⟩ | ⟨rfl, _⟩ | ⟨rfl, _⟩ | ⟨rfl, _⟩ | ⟨rfl, _⟩ | ⟨rfl, _⟩ | ⟨rfl, _⟩ <;> exact .word (by decide +kernel)
theorem PartsOk.left {ws fs : List Str} : ∀ {rs us : List Str} {ds es : List PyData}, rs.length = ds.length → PartsOk ws fs (rs ++ us) (ds ++ es) → PartsOk ws fs rs ds
  | [], _, [], _, _, _ => .nil
  | [], _, _ :: _, _, h, _ => by simp at h
  | _ :: _, _, [], _, h, _ => by simp at h
  | _ :: _, _, _ :: _, _, h, .cons a b => .cons a (PartsOk.left (by simpa using h) b)
theorem row_shw {ws fs : List Str} (hw : ∀ x ∈ ws, IsW x) (hf : ∀ x ∈ fs, IsW x) (n : Nat) (below : ∀ m, n = m + 1 → ∀ ds : List PyData, (∀ d ∈ ds, RowD m d) → (∀ d ∈ rowsD m ds, OkR ws fs d) → ShwA ds (2 * m + 1) (900 * (rowsD m ds).length)) {d : PyData} (rd : RowD n d) (ok : ∀ e ∈ rowsD n [d], OkR ws fs e) :
    Shw d (2 * n + 1) (900 * (rowsD n [d]).length - 1) ∧ 1 ≤ (rowsD n [d]).length := by
  obtain ⟨k, ps, rs, ed, hl, hp⟩ := ok d (by rw [rowsD_one]; exact List.mem_cons_self ..)
  have l4 := (forms_len hl).2
  cases rd with
  | @plain _ x ps0 n1 n2 fl l5 =>
    cases ed
    have z : inner (.tuple (.str k :: ps)) = ([], []) := inner_plain fl
    have x := Shw.tup (ShwA.cons (kind_shw hl) (parts_shw hw hf hp (forms_plain hl n1 n2)))
    rw [(pl_nums z).1]
    exact ⟨x.up (by omega) (by show _ ≤ 900 * 1 - 1; omega), Nat.le_refl _⟩
  | @br m x ps0 as bs hk fl l2 ra rb la lb =>
    cases ed
    have z : inner (.tuple (.str k :: (ps0 ++ [.list as, .list bs]))) = (as, bs) := inner_br
    rw [rows_br z] at ok ⊢
    have A := below m rfl as ra fun x hx => ok x (List.mem_cons_of_mem _ (List.mem_append_left _ hx))
    have B := below m rfl bs rb fun x hx => ok x (List.mem_cons_of_mem _ (List.mem_append_right _ hx))
    obtain ⟨qs, rfl, hn⟩ := forms_br hl hk
    have hlen := hp.len
    rw [List.length_append, List.length_append] at hlen
    have hq : qs.length = ps0.length := by simpa using hlen
    have p0 := parts_shw hw hf (PartsOk.left hq hp) hn
    have x := Shw.tup (ShwA.cons ((kind_shw hl).up (Nat.zero_le _) (Nat.le_refl _)) (ShwA.append (p0.up (Nat.zero_le _) (Nat.le_refl _)) (ShwA.cons (Shw.lst A) (ShwA.cons (Shw.lst B) (ShwA.nil.up (Nat.zero_le _) (Nat.le_refl _))))))
    rw [List.length_cons, List.length_append]
    exact ⟨x.up (by omega) (by omega), by omega⟩
theorem rows_shw_all {ws fs : List Str} (hw : ∀ x ∈ ws, IsW x) (hf : ∀ x ∈ fs, IsW x) (n : Nat) (below : ∀ m, n = m + 1 → ∀ ds : List PyData, (∀ d ∈ ds, RowD m d) → (∀ d ∈ rowsD m ds, OkR ws fs d) → ShwA ds (2 * m + 1) (900 * (rowsD m ds).length)) (ds : List PyData) :
    (∀ d ∈ ds, RowD n d) → (∀ d ∈ rowsD n ds, OkR ws fs d) → ShwA ds (2 * n + 1) (900 * (rowsD n ds).length) := by
  induction ds with
  | nil => exact fun _ _ => ShwA.nil.up (Nat.zero_le _) (Nat.zero_le _)
  | cons d ds ih =>
    intro hr ok
    have e : rowsD n (d :: ds) = rowsD n [d] ++ rowsD n ds := rowsD_append n [d] ds
    have rest := ih (fun x m => hr x (List.mem_cons_of_mem _ m)) fun x m => ok x (by rw [e]; exact List.mem_append_right _ m)
    obtain ⟨one, pos⟩ := row_shw hw hf n below (hr d (List.mem_cons_self ..)) fun x m => ok x (by rw [e]; exact List.mem_append_left _ m)
    rw [e, List.length_append]
    exact (ShwA.cons one rest).up (Nat.le_refl _) (by omega)
/-- rows: as deep as their levels, as heavy as they are many -/
theorem rows_shw {ws fs : List Str} (hw : ∀ x ∈ ws, IsW x) (hf : ∀ x ∈ fs, IsW x) (n : Nat) : ∀ (ds : List PyData), (∀ d ∈ ds, RowD n d) → (∀ d ∈ rowsD n ds, OkR ws fs d) → ShwA ds (2 * n + 1) (900 * (rowsD n ds).length) := by
  induction n with
  | zero => exact rows_shw_all hw hf 0 fun m h => nomatch h
  | succ n ih => exact rows_shw_all hw hf (n + 1) (fun m h => by obtain rfl := Nat.succ.inj h; exact ih)
end TW
set_option Elab.async false
set_option linter.all false
set_option maxRecDepth 100000
namespace TW
open PySem PySem.Spec PyProof.Rows L2 TL
/-- two lists or tuples of the same content have the same repr -/
def spExact (K : PySem.W.Frag) : Sp := fun vs H Q _ => ∃ (a b : Addr) (d : PyData), vs = [.ref a, .ref b] ∧ Dp K H (.ref a) d ∧ Dp K H (.ref b) d ∧ d.showable = true ∧ d.hasDict = false ∧ d.depth ≤ 60 ∧ d.shown.length ≤ sizeLine ∧ Q (.bl true) H
abbrev S_law_exact : Stmt := topS 61
abbrev N_law_exact : List Str := ["_law_actual", "_law_due_here"]
abbrev P_law_exact : List Str := ["_law_actual", "_law_due_here"]
theorem sc_law_exact : FnScope N_law_exact P_law_exact (defScope S_law_exact) := ⟨rfl, rfl, rfl, by decide +kernel, rfl, by decide +kernel, by decide +kernel⟩
section
variable {P : Program} {w : World} {K : PySem.W.Frag} {mg : Str → Option Value} {base : Heap}
set_option maxHeartbeats 4000000 in
theorem ok_exact {f : Addr} {fd : FuncData} (F : Fun K "_law_exact" "_law_exact" S_law_exact f fd) (B : Bl mg) : FnG P w K mg base CX0 1 f fd P_law_exact (spExact K) := by
  refine F.still sc_law_exact (fun vs H Q E h => ?_) (fun cdv A outer s H vs Q E hg hr h => ?_)
  · obtain ⟨a, b, d, rfl, _⟩ := h
    rfl
  · obtain ⟨a, b, d, rfl, d1, d2, sh, nd, dp, sz, k⟩ := h
    have hu64 : (A.deeper (envOfC "_law_exact" (defScope S_law_exact) s.heap.objs.size f cdv)).units + 64 < cLine := by have := hr.un; omega
    refine ⟨_, (pss_one (ps_ret (pe_cmpR op_eq (pe_callB (call_reprD hg hu64) (by rfl) B.m_repr (by decide +kernel) (pa_cons (pv 0) pa_nil)) (pe_callB (call_reprD hg hu64) (by rfl) B.m_repr (by decide +kernel) (pa_cons (pv 1) pa_nil)) (nomark _)))), ?_⟩
    refine ⟨_, rfl, a, d, rfl, d1, sh, nd, dp, sz, _, rfl, b, d, rfl, d2, sh, nd, dp, sz, rfl, ?_⟩
    rw [decide_eq_true rfl]
    exact k
end
end TW
set_option Elab.async false
set_option linter.all false
set_option maxRecDepth 100000
namespace TW
open PySem PySem.Spec PyProof.Rows L2 TL
def spPRows (K : PySem.W.Frag) (C : Addr) : Sp := fun vs H Q _ => ∃ (h : Addr) (is fs os : List Str) (n : Nat) (ds : List PyData) (ws : List Str) (p : PP), vs = [.ref h] ∧ ProgAt K C H h is fs os n ds ws p ∧ ds.length ≤ 100 ∧
  ∀ (b : Addr) (M : List Addr) (H' : Hp), Same H H' → Dq H' (.ref b) (.list ds) M → (∀ x ∈ M, H x = none) → Q (.ref b) H'
def spPVars (K : PySem.W.Frag) (C : Addr) : Sp := fun vs H Q _ => ∃ (h : Addr) (is fs os : List Str) (n : Nat) (ds : List PyData) (ws : List Str) (p : PP), vs = [.ref h] ∧ ProgAt K C H h is fs os n ds ws p ∧
  ∀ q, H q = none → Q (.ref q) (upd H q (.lst ((vars is os n ds).map V.str)))
section
variable {P : Program} {w : World} {K : PySem.W.Frag} {mg : Str → Option Value} {base : Heap}
set_option maxHeartbeats 4000000 in
theorem ok_prows {f C fC : Addr} {fd fdC : FuncData} (F : Fun K "rows" "Program.rows" S_Program_rows f fd) (T : HCP K mg C) (d_copied_rows : Df K mg "copied_rows" S_copied_rows fC fdC P_copied_rows)
    (G4 : ∀ (ws fs : List Str) (n : Nat), FnOk P w K mg base CX0 (2 * n + 3) fC fdC P_copied_rows (spCopies ws fs n)) : FnOk P w K mg base CX0 10 f fd P_Program_rows (spPRows K C) := by
  refine F.ok sc_Program_rows (fun vs H Q E h => ?_) (fun cdv A outer s H vs Q E hr h => ?_)
  · obtain ⟨h, is, fs, os, n, ds, ws, p, rfl, _⟩ := h
    rfl
  · obtain ⟨h, is, fs, os, n, ds, ws, p, rfl, A0, l100, kk⟩ := h
    have n3 := A0.g.n3
    have G_copied_rows := G4 ws fs n
    have hr_copied_rows : Room (2 * n + 3) _ := hr.mono (by omega)
    refine ⟨_, (pss_one (ps_ret (pe_call G_copied_rows hr_copied_rows rfl d_copied_rows.g d_copied_rows.F.kp d_copied_rows.b .nil pass0 (pa_cons (pe_fld (pv 0) rfl) pa_nil)))), ?_⟩
    exact ⟨_, rfl, h, C, _, _, _, rfl, A0.ob, T.cl, T.nR, pfl_rows p, p.qR, ds, p.LR, rfl, A0.r, A0.g.rd, A0.g.ok, l100, fun b M H' s' q f => kk b M H' s' q f⟩
set_option maxHeartbeats 4000000 in
theorem ok_pvars {f C : Addr} {fd : FuncData} (F : Fun K "variables" "Program.variables" S_Program_variables f fd) (B : Bl mg) (T : HCP K mg C) : FnOk P w K mg base CX0 1 f fd P_Program_variables (spPVars K C) := by
  refine F.ok sc_Program_variables (fun vs H Q E h => ?_) (fun cdv A outer s H vs Q E hr h => ?_)
  · obtain ⟨h, is, fs, os, n, ds, ws, p, rfl, _⟩ := h
    rfl
  · obtain ⟨h, is, fs, os, n, ds, ws, p, rfl, A0, kk⟩ := h
    refine ⟨_, (pss_one (ps_ret (pe_callTy call_list_of (by rfl) B.m_list (by decide +kernel) (pa_cons (pe_fld (pv 0) rfl) pa_nil)))), ?_⟩
    exact ⟨_, rfl, h, C, _, _, _, rfl, A0.ob, T.cl, T.nV, pfl_variables p, p.qV, _, rfl, .inl (SqL.of A0.v), fun q hq => kk q hq⟩
end
theorem dp_strs {K : PySem.W.Frag} {H : Hp} : ∀ ws : List Str, DpAll K H (ws.map V.str) (ws.map .str)
  | [] => .nil
  | x :: ws => .cons (.str x) (dp_strs ws)
theorem dp_wt {K : PySem.W.Frag} {H : Hp} {a : Addr} {ws : List Str} (w : WT K H a ws) : Dp K H (.ref a) (.tuple (ws.map .str)) := .tup w.sqt (dp_strs ws)
theorem pfl_none (p : PP) {m : Str} (h1 : ¬ m = "inputs") (h2 : ¬ m = "fields") (h3 : ¬ m = "outputs") (h4 : ¬ m = "_rows") (h5 : ¬ m = "_table") (h6 : ¬ m = "_variables") : (pfl p).lookup m = none := by
  unfold pfl
  rw [lookup_putF, if_neg h6, lookup_putF, if_neg h5, lookup_putF, if_neg h4, lookup_putF, if_neg h3, lookup_putF, if_neg h2, lookup_putF, if_neg h1]
  rfl
/-- what a program gives back is what it was made of -/
def spGives (K : PySem.W.Frag) (C : Addr) : Sp := fun vs H Q _ => ∃ (h i f o a : Addr) (is fs os : List Str) (n : Nat) (ds : List PyData) (ws : List Str) (p : PP) (L : List Addr), vs = [.ref h, .ref i, .ref f, .ref o, .ref a] ∧ ProgAt K C H h is fs os n ds ws p ∧ ds.length ≤ 100 ∧ H i = some (.lst (is.map V.str)) ∧ H f = some (.lst (fs.map V.str)) ∧ H o = some (.lst (os.map V.str)) ∧
  Dq H (.ref a) (.list ds) L ∧ ∀ H', Same H H' → Q (.bl true) H'
theorem dedupF_sub {l : List Str} {x : Str} (h : x ∈ dedupF l) : x ∈ l := by
  have e : dedupF l = dedupN l l.length := rfl
  rw [e] at h
  have := (dedupN_mem (x := x) (Nat.le_refl l.length)).mp h
  exact List.mem_of_mem_take this
section
variable {P : Program} {w : World} {K : PySem.W.Frag} {mg : Str → Option Value} {base : Heap}
end
end TW
set_option Elab.async false
set_option linter.all false
set_option maxRecDepth 100000
namespace TW
open PySem PySem.Spec PyProof.Rows L2 TL
theorem dedupN_nodup {l : List Str} : ∀ {i : Nat}, i ≤ l.length → (dedupN l i).Nodup
  | 0, _ => by simp [dedupN]
  | i + 1, h => by
    have hi : i < l.length := h
    have e : l[i]? = some l[i] := List.getElem?_eq_getElem hi
    have ih := dedupN_nodup (l := l) (i := i) (Nat.le_of_lt hi)
    by_cases m : l[i] ∈ l.take i
    · rw [dedupN_in e m]
      exact ih
    · rw [dedupN_out e m, List.nodup_append]
      refine ⟨ih, by simp, fun x hx y hy z => m ?_⟩
      rw [List.mem_singleton.mp hy] at z
      rw [← z]
      exact (dedupN_mem (Nat.le_of_lt hi)).mp hx
theorem ProgAt.there {K : PySem.W.Frag} {C h : Addr} {H : Hp} {is fs os ws : List Str} {n : Nat} {ds : List PyData} {p : PP} (A : ProgAt K C H h is fs os n ds ws p) : ∀ x ∈ p.own, ∃ xs, H x = some (.lst xs) := by
  intro x m
  rcases List.mem_cons.mp m with rfl | m
  · exact ⟨_, A.v⟩
  · exact (List.mem_append.mp m).elim (A.r.there x) (A.u.there x)
/-- all that the law holds, but for the rows that it spoils -/
structure LIn0 (K : PySem.W.Frag) (C : Addr) (i f o b h1 h2 : Addr) (is fs os ws : List Str) (n : Nat) (ds : List PyData) (Mb : List Addr) (p1 p2 : PP) (G : Hp) : Prop where
  lI : G i = some (.lst (is.map V.str))
  lF : G f = some (.lst (fs.map V.str))
  lO : G o = some (.lst (os.map V.str))
  lB : Dq G (.ref b) (.list ds) Mb
  l1 : ProgAt K C G h1 is fs os n ds ws p1
  l2 : ProgAt K C G h2 is fs [] n ds ws p2
def Apart (i f o : Addr) (Mb : List Addr) (p1 p2 : PP) (L : List Addr) : Prop := ∀ x ∈ L, x ≠ i ∧ x ≠ f ∧ x ≠ o ∧ x ∉ Mb ∧ x ∉ p1.own ∧ x ∉ p2.own
section
variable {K : PySem.W.Frag} {C i f o b h1 h2 : Addr} {is fs os ws : List Str} {n : Nat} {ds : List PyData} {Mb : List Addr} {p1 p2 : PP} {G G' : Hp} {L : List Addr}
theorem LIn0.same (I : LIn0 K C i f o b h1 h2 is fs os ws n ds Mb p1 p2 G) (s : Same G G') : LIn0 K C i f o b h1 h2 is fs os ws n ds Mb p1 p2 G' := ⟨s _ _ I.lI, s _ _ I.lF, s _ _ I.lO, I.lB.same s, I.l1.same s, I.l2.same s⟩
theorem LIn0.only (I : LIn0 K C i f o b h1 h2 is fs os ws n ds Mb p1 p2 G) (s : OnlyL L G G') (hL : ∀ x ∈ L, ∃ xs, G x = some (.lst xs)) (a : Apart i f o Mb p1 p2 L) : LIn0 K C i f o b h1 h2 is fs os ws n ds Mb p1 p2 G' := by
  refine ⟨s _ _ I.lI fun m => (a _ m).1 rfl, s _ _ I.lF fun m => (a _ m).2.1 rfl, s _ _ I.lO fun m => (a _ m).2.2.1 rfl, I.lB.keep ⟨fun x m => ?_, fun x xs e => s _ _ e fun z => ?_⟩, I.l1.only s hL fun x m => (a x m).2.2.2.2.1, I.l2.only s hL fun x m => (a x m).2.2.2.2.2⟩
  · obtain ⟨xs, e⟩ := I.lB.there x m
    rw [e]
    exact s _ _ e fun z => (a x z).2.2.2.1 m
  · obtain ⟨ys, e2⟩ := hL x z
    rw [e] at e2
    cases e2
/-- what is new is apart from all -/
theorem LIn0.apart (I : LIn0 K C i f o b h1 h2 is fs os ws n ds Mb p1 p2 G) (h : ∀ x ∈ L, G x = none) : Apart i f o Mb p1 p2 L := fun x m => by
  have e := h x m
  refine ⟨fun z => ?_, fun z => ?_, fun z => ?_, fun z => ?_, fun z => ?_, fun z => ?_⟩
  · rw [z, I.lI] at e; cases e
  · rw [z, I.lF] at e; cases e
  · rw [z, I.lO] at e; cases e
  · obtain ⟨xs, e2⟩ := I.lB.there x z
    rw [e2] at e; cases e
  · obtain ⟨xs, e2⟩ := I.l1.there x z
    rw [e2] at e; cases e
  · obtain ⟨xs, e2⟩ := I.l2.there x z
    rw [e2] at e; cases e
end
theorem made_same {H H' : Hp} {x dx : Addr} {o : HO} (s : ∀ b u, (upd (upd H dx (.own x)) x o) b = some u → b ≠ x → H' b = some u) (nx : H x = none) (nd : H dx = none) : Same H H' := fun b u e => by
  have b1 : b ≠ x := ne_of_none e nx
  have b2 : b ≠ dx := ne_of_none e nd
  exact s b u ((upd_ne b1).trans ((upd_ne b2).trans e)) b1
theorem made_free {H : Hp} {x dx q : Addr} {o : HO} (h : (upd (upd H dx (.own x)) x o) q = none) : H q = none := by
  by_cases b1 : q = x
  · rw [b1, upd_same] at h; cases h
  · rw [upd_ne b1] at h
    by_cases b2 : q = dx
    · rw [b2, upd_same] at h; cases h
    · rwa [upd_ne b2] at h
theorem shaped_rows {ws fs : List Str} {n : Nat} {ds : List PyData} (hw : ∀ x ∈ ws, IsW x) (hf : ∀ x ∈ fs, IsW x) (n3 : n ≤ 3) (rd : ∀ d ∈ ds, RowD n d) (ok : ∀ d ∈ rowsD n ds, OkR ws fs d) : SeqAt.shaped (.list ds) = true ∧ PyData.eqv (.list ds) (.list ds) = true := by
  have X := Shw.lst (rows_shw hw hf n ds rd ok)
  exact ⟨Bool.and_eq_true_iff.mpr ⟨X.sC, decide_eq_true (Nat.le_trans X.sD (by omega))⟩, SeqAt.eqv_refl _ X.sC⟩
end TW
set_option Elab.async false
set_option linter.all false
set_option maxRecDepth 100000
namespace TW
open PySem PySem.Spec PyProof.Rows L2 TL
/-! data of any kind, as rows of a program: what is wrong with it -/
inductive Sm : PyData → Prop
  | non : Sm .none
  | bl (b : Bool) : Sm (.bool b)
  | int (i : Int) : Sm (.int i)
  | str {x : Str} : x.length ≤ 1000 → Sm (.str x)
  | lst {ds : List PyData} : ds.length ≤ 100 → (∀ d ∈ ds, Sm d) → Sm (.list ds)
  | tup {ds : List PyData} : ds.length ≤ 100 → (∀ d ∈ ds, Sm d) → Sm (.tuple ds)
def tyD : PyData → String
  | .none => "NoneType"
  | .bool _ => "bool"
  | .int _ => "int"
  | .str _ => "str"
  | .list _ => "list"
  | .tuple _ => "tuple"
  | _ => "dict"
def isLst : PyData → Bool
  | .list _ => true
  | _ => false
def oneD : PyData → List Str → Bool
  | .str x, ws => decide (x ∈ ws)
  | _, _ => false
def depthD : PyData → Bool
  | .int i => decide (0 ≤ i) && decide (i ≤ 4)
  | _ => false
def wordD : PyData → Bool
  | .str x => decide (IsW x)
  | _ => false
section
variable {K : PySem.W.Frag} {H : Hp} {v : V} {d : PyData} {L : List Addr}
theorem Dq.kd (q : Dq H v d L) (s : Sm d) : Kd K H v (tyD d) := by
  cases q with
  | non => exact ⟨show "NoneType" ∈ kd7 by decide, .base .non, fun y e => by cases e⟩
  | bl b => exact ⟨show "bool" ∈ kd7 by decide, .base (.bl b), fun y e => by cases e⟩
  | int i => exact kdI
  | str x => cases s with | str h => exact kdW h
  | lst e a => exact ⟨show "list" ∈ kd7 by decide, .base (.lst e), fun y e => by cases e⟩
  | tup e a => exact ⟨show "tuple" ∈ kd7 by decide, .base (.tup e), fun y e => by cases e⟩
theorem DqAll.kd : ∀ {vs : List V} {ds : List PyData} {L : List Addr}, DqAll H vs ds L → (∀ d ∈ ds, Sm d) → ∀ v ∈ vs, ∃ T, Kd K H v T
  | _, _, _, .nil, _, v, m => nomatch m
  | _, _, _, .cons q a, s, v, m => by
    rcases List.mem_cons.mp m with rfl | m
    · exact ⟨_, q.kd (s _ (List.mem_cons_self ..))⟩
    · exact DqAll.kd a (fun d hd => s d (List.mem_cons_of_mem _ hd)) v m
theorem one_v (q : Dq H v d L) (ws : List Str) : oneOf v ws = oneD d ws := by cases q <;> rfl
theorem btw_v (q : Dq H v d L) : btw v 0 4 = depthD d := by cases q <;> rfl
theorem isWb_v (q : Dq H v d L) : isWb v = wordD d := by cases q <;> rfl
end
def rolesB (ps : List PyData) (rs : List Str) : Bool := (ps.zip rs).all fun p => !decide (p.2 = ("rows" : Str)) || isLst p.1
/-- built as one of the nine kinds of rows -/
def formD : PyData → Bool
  | .tuple (.str k :: ps) => match formsT.lookup k with
    | some rs => decide (ps.length = rs.length) && rolesB ps rs
    | none => false
  | _ => false
def rightD (fs : List Str) (d : PyData) (r : Str) : Bool :=
  if r = "field" then oneD d fs else if r = "kind" then oneD d ["freeze", "thaw"] else if r = "depth" then depthD d else decide (r = "rows") || wordD d
def namesD (fs : List Str) (d : PyData) : Bool := ((restOf d).zip (rolesOf d)).all fun p => rightD fs p.1 p.2
def faultOf (fs seen : List Str) (e : List Int × PyData) : Option Str :=
  if 7 < e.1.length then some "deep" else if formD e.2 = false then some "form" else if namesD fs e.2 = false then some "name" else if (readersOf e.2).any (fun x => decide (x ∈ seen)) = true then some "reader" else none
/-- the first fault on a walk -/
def faultW (fs : List Str) : List Str → List (List Int × PyData) → Option (Str × List Int)
  | _, [] => none
  | seen, e :: l => match faultOf fs seen e with
    | some p => some (p, e.1)
    | none => faultW fs (seen ++ readersOf e.2) l
theorem faultW_cons {fs seen : List Str} {e : List Int × PyData} {l : List (List Int × PyData)} : faultW fs seen (e :: l) = match faultOf fs seen e with
    | some p => some (p, e.1)
    | none => faultW fs (seen ++ readersOf e.2) l := rfl
theorem faultW_some {fs seen : List Str} {e : List Int × PyData} {l : List (List Int × PyData)} {p : Str} (h : faultOf fs seen e = some p) : faultW fs seen (e :: l) = some (p, e.1) := by
  rw [faultW_cons, h]
theorem faultW_none {fs seen : List Str} {e : List Int × PyData} {l : List (List Int × PyData)} (h : faultOf fs seen e = none) : faultW fs seen (e :: l) = faultW fs (seen ++ readersOf e.2) l := by
  rw [faultW_cons, h]
theorem faultW_append {fs : List Str} : ∀ {l m : List (List Int × PyData)} {seen : List Str}, faultW fs seen (l ++ m) = match faultW fs seen l with
    | some x => some x
    | none => faultW fs (seen ++ l.flatMap fun e => readersOf e.2) m
  | [], m, seen => by
    rw [List.flatMap_nil, List.append_nil]
    rfl
  | e :: l, m, seen => by
    rw [List.cons_append]
    cases h : faultOf fs seen e with
    | some p => rw [faultW_some h, faultW_some h]
    | none => rw [faultW_none h, faultW_none h, faultW_append, List.flatMap_cons, List.append_assoc]
theorem faultOf_none {fs seen : List Str} {e : List Int × PyData} (h : faultOf fs seen e = none) : e.1.length ≤ 7 ∧ formD e.2 = true ∧ namesD fs e.2 = true ∧ ∀ x ∈ readersOf e.2, x ∉ seen := by
  unfold faultOf at h
  by_cases h1 : 7 < e.1.length
  · rw [if_pos h1] at h; cases h
  rw [if_neg h1] at h
  by_cases h2 : formD e.2 = false
  · rw [if_pos h2] at h; cases h
  rw [if_neg h2] at h
  by_cases h3 : namesD fs e.2 = false
  · rw [if_pos h3] at h; cases h
  rw [if_neg h3] at h
  by_cases h4 : (readersOf e.2).any (fun x => decide (x ∈ seen)) = true
  · rw [if_pos h4] at h; cases h
  exact ⟨by omega, by simpa using h2, by simpa using h3, fun x hx hs => h4 (List.any_eq_true.mpr ⟨x, hx, decide_eq_true hs⟩)⟩
/-! the rest of a walk from one row, by the length of its place -/
def flX (pl : List Int) : Nat := 4 - pl.length / 2
def wX (p : List Int × PyData) : List (List Int × PyData) := p :: (Wn (flX p.1) (p.1 ++ [0]) (inner p.2).1 ++ Wn (flX p.1) (p.1 ++ [1]) (inner p.2).2)
theorem walk_placedX {n : Nat} {bs : List Int} {ds : List PyData} (h : 4 - (bs.length + 1) / 2 = n) : walkD n bs ds = (placed bs ds).flatMap wX := by
  rw [walk_placed]
  have mem : ∀ p ∈ placed bs ds, wf n p = wX p := fun p m => by
    have e : flX p.1 = n := by
      unfold flX
      rw [(placed_mem m).2]
      exact h
    unfold wf wX
    rw [e]
  generalize placed bs ds = l at mem
  induction l with
  | nil => rfl
  | cons p l ih => rw [List.flatMap_cons, List.flatMap_cons, mem p (List.mem_cons_self ..), ih fun q m => mem q (List.mem_cons_of_mem _ m)]
theorem inner_wX {pl : List Int} {d : PyData} (h : pl.length ≤ 7) : (innerP pl d).flatMap wX = Wn (flX pl) (pl ++ [0]) (inner d).1 ++ Wn (flX pl) (pl ++ [1]) (inner d).2 := by
  obtain ⟨n, hn⟩ : ∃ n, flX pl = n + 1 := ⟨flX pl - 1, by unfold flX; omega⟩
  have hl : ∀ i : Int, 4 - ((pl ++ [i]).length + 1) / 2 = n := fun i => by
    unfold flX at hn
    rw [List.length_append]
    show 4 - (pl.length + 1 + 1) / 2 = n
    omega
  unfold innerP
  rw [List.flatMap_append, ← walk_placedX (hl 0), ← walk_placedX (hl 1), hn]
  rfl
theorem wX_len (p : List Int × PyData) : 1 ≤ (wX p).length := by
  unfold wX
  simp
/-- small, at a small place -/
def TdX (p : List Int × PyData) : Prop := p.1.length ≤ 9 ∧ (∀ i ∈ p.1, 0 ≤ i ∧ i < 100) ∧ Sm p.2
theorem sm_inner {d : PyData} (h : Sm d) : (∀ e ∈ (inner d).1, Sm e) ∧ (∀ e ∈ (inner d).2, Sm e) ∧ (inner d).1.length ≤ 100 ∧ (inner d).2.length ≤ 100 := by
  have nil : (∀ e ∈ (([] : List PyData), ([] : List PyData)).1, Sm e) ∧ (∀ e ∈ (([] : List PyData), ([] : List PyData)).2, Sm e) ∧ (([] : List PyData), ([] : List PyData)).1.length ≤ 100 ∧ (([] : List PyData), ([] : List PyData)).2.length ≤ 100 :=
    ⟨fun _ m => (nomatch m), fun _ m => (nomatch m), Nat.zero_le _, Nat.zero_le _⟩
  cases h with
  | non => exact nil
  | bl b => exact nil
  | int i => exact nil
  | str _ => exact nil
  | lst _ _ => exact nil
  | @tup ds l s =>
    show (∀ e ∈ (match ds.reverse with | .list bs :: .list as :: _ => (as, bs) | _ => ([], [])).1, Sm e) ∧ (∀ e ∈ (match ds.reverse with | .list bs :: .list as :: _ => (as, bs) | _ => ([], [])).2, Sm e) ∧ (match ds.reverse with | .list bs :: .list as :: _ => (as, bs) | _ => ([], [])).1.length ≤ 100 ∧ (match ds.reverse with | .list bs :: .list as :: _ => (as, bs) | _ => ([], [])).2.length ≤ 100
    have hm : ∀ d ∈ ds.reverse, Sm d := fun d m => s d (List.mem_reverse.mp m)
    generalize ds.reverse = rs at hm
    split
    · rename_i bs as r
      have h1 := hm _ (List.mem_cons_self ..)
      have h2 := hm _ (List.mem_cons_of_mem _ (List.mem_cons_self ..))
      cases h1 with
      | lst l1 s1 =>
      cases h2 with
      | lst l2 s2 => exact ⟨s2, s1, l2, l1⟩
    · exact nil
theorem placed_small {bs : List Int} {ds : List PyData} {p : List Int × PyData} (m : p ∈ placed bs ds) (hb : ∀ i ∈ bs, 0 ≤ i ∧ i < 100) (hl : ds.length ≤ 100) : ∀ i ∈ p.1, 0 ≤ i ∧ i < 100 := by
  unfold placed at m
  obtain ⟨q, hq, rfl⟩ := List.mem_map.mp m
  intro i hi
  rcases List.mem_append.mp hi with hi | hi
  · exact hb i hi
  · rw [List.mem_singleton.mp hi]
    have := List.snd_lt_of_mem_zipIdx hq
    show 0 ≤ (q.2 : Int) ∧ (q.2 : Int) < 100
    omega
theorem TdX.inner {p q : List Int × PyData} (t : TdX p) (h7 : p.1.length ≤ 7) (m : q ∈ innerP p.1 p.2) : TdX q := by
  obtain ⟨s1, s2, l1, l2⟩ := sm_inner t.2.2
  have hb : ∀ b : Int, 0 ≤ b → b < 100 → ∀ i ∈ p.1 ++ [b], 0 ≤ i ∧ i < 100 := fun b h0 h1 i hi => by
    rcases List.mem_append.mp hi with hi | hi
    · exact t.2.1 i hi
    · rw [List.mem_singleton.mp hi]
      exact ⟨h0, h1⟩
  unfold innerP at m
  rcases List.mem_append.mp m with m | m
  · obtain ⟨h1, h2⟩ := placed_mem m
    rw [List.length_append] at h2
    exact ⟨by simp only [List.length_singleton] at h2; omega, placed_small m (hb 0 (by omega) (by omega)) l1, s1 _ h1⟩
  · obtain ⟨h1, h2⟩ := placed_mem m
    rw [List.length_append] at h2
    exact ⟨by simp only [List.length_singleton] at h2; omega, placed_small m (hb 1 (by omega) (by omega)) l2, s2 _ h1⟩
theorem sm_innerP {p : List Int × PyData} (h : Sm p.2) : (innerP p.1 p.2).length ≤ 200 := by
  obtain ⟨_, _, l1, l2⟩ := sm_inner h
  unfold innerP
  rw [List.length_append, placed_len, placed_len]
  omega
end TW
set_option Elab.async false
set_option linter.all false
set_option maxRecDepth 100000
namespace TW
open PySem PySem.Spec PyProof.Rows L2 TL
/-- a text that is no key of a written dict -/
theorem dicW_no {K : PySem.W.Frag} {P : Params} {a : Addr} {ks : List Str} (h : He.dicW K a = some (He.keysIn P ks)) {z : Str} (hz : z ∉ ks) : PySem.W.nsIn K a z = some none := by
  unfold He.dicW at h
  cases q : K.lookup a with
  | none => rw [q] at h; cases h
  | some o =>
    obtain ⟨oc, od, dt, osl⟩ := o
    rw [q] at h
    cases oc with
    | ref _ => cases h
    | type c =>
      cases od with
      | some _ => cases h
      | none =>
        cases dt with
        | dict es n =>
          have h1 : (match decide (c = "dict") && (osl.isEmpty && !(a == sysModules)) with
            | true => some (es.toList.map He.keyOf)
            | false => none) = some (He.keysIn P ks) := h
          cases y : decide (c = "dict") && (osl.isEmpty && !(a == sysModules)) with
          | false => rw [y] at h1; cases h1
          | true =>
            rw [y] at h1
            have h2 : es.toList.map He.keyOf = He.keysIn P ks := Option.some.inj h1
            have keys : ∀ e ∈ es.toList, ∃ x t, e.key = .str x t ∧ x ∈ ks := fun e m => by
              have m2 : He.keyOf e ∈ He.keysIn P ks := by rw [← h2]; exact List.mem_map.mpr ⟨e, m, rfl⟩
              unfold He.keysIn at m2
              obtain ⟨k, hk, ek⟩ := List.mem_map.mp m2
              unfold He.keyOf at ek
              split at ek
              · rename_i x t q
                obtain ⟨e1, _⟩ := Prod.mk.inj (Option.some.inj ek)
                exact ⟨x, t, q, by rw [← e1]; exact hk⟩
              · cases ek
            have f1 : es.toList.find? (·.key.isStr z) = none := by
              refine List.find?_eq_none.mpr fun e m => ?_
              obtain ⟨x, t, ex, hx⟩ := keys e m
              rw [ex]
              show ¬ (x == z) = true
              intro e2
              rw [← eq_of_beq e2] at hz
              exact hz hx
            have f2 : es.toList.any (·.refKey) = false := by
              refine Bool.eq_false_iff.mpr fun h => ?_
              obtain ⟨e, m, he⟩ := List.any_eq_true.mp h
              obtain ⟨x, t, ex, hx⟩ := keys e m
              unfold DictEntry.refKey at he
              rw [ex] at he
              exact Bool.noConfusion he
            unfold PySem.W.nsIn
            rw [q]
            show (match es.toList.find? (·.key.isStr z) with
              | some e => some (some e.val)
              | none => if es.toList.any (·.refKey) then none else some none) = some none
            rw [f1]
            show (if es.toList.any (·.refKey) = true then none else some none) = some none
            rw [f2]
            rfl
        | _ => cases h
    | _ => cases h
theorem forms_keys {k : Str} (h : k ∉ ([("move" : Str), "none", "new", "look", "put", "copy", "watch", "same", "empty"] : List Str) → False) : ∃ rs, formsT.lookup k = some rs := by
  by_cases m : k ∈ ([("move" : Str), "none", "new", "look", "put", "copy", "watch", "same", "empty"] : List Str)
  · simp only [List.mem_cons, List.not_mem_nil, or_false] at m
    rcases m with rfl | rfl | rfl | rfl | rfl | rfl | rfl | rfl | rfl <;> exact ⟨_, rfl⟩
  · exact (h m).elim
theorem forms_no {k : Str} (h : formsT.lookup k = none) : k ∉ ([("move" : Str), "none", "new", "look", "put", "copy", "watch", "same", "empty"] : List Str) := fun m => by
  obtain ⟨rs, e⟩ := forms_keys fun n => n m
  rw [h] at e
  cases e
def spRightX (K : PySem.W.Frag) (fs : List Str) : Sp := fun vs H Q _ => ∃ (u : V) (role : Str) (a : Addr) (d : PyData) (L : List Addr), vs = [u, .str role, .ref a] ∧ Dq H u d L ∧ Sm d ∧ (SqL K H a (fs.map V.str) ∨ SqT K H a (fs.map V.str)) ∧ ∀ H', Same H H' → Q (.bl (rightD fs d role)) H'
theorem ndec {p : Prop} [Decidable p] (h : ¬ p) : decide p = false := decide_eq_false h
theorem dstr {a b : Str} (hb : decide (V.str a = V.str b) = true) : a = b := V.str.inj (of_decide_eq_true hb)
theorem dstrN {a b : Str} (hb : decide (V.str a = V.str b) = false) : ¬ a = b := fun e => of_decide_eq_false hb (by rw [e])
section
variable {P : Program} {w : World} {K : PySem.W.Frag} {mg : Str → Option Value} {base : Heap}
set_option maxHeartbeats 4000000 in
theorem ok_is_right_x {f fO fD fW DK : Addr} {fd fdO fdD fdW : FuncData} {fs : List Str} (F : Fun K "is_right" "is_right" S_is_right f fd) (d_is_one_of : Df K mg "is_one_of" S_is_one_of fO fdO P_is_one_of) (G_is_one_of : FnOk P w K mg base CX0 1 fO fdO P_is_one_of (spOneOf K))
    (d_is_depth : Df K mg "is_depth" S_is_depth fD fdD P_is_depth) (G_is_depth : FnOk P w K mg base CX0 3 fD fdD P_is_depth (spDepth K)) (d_is_word : Df K mg "is_word" S_is_word fW fdW P_is_word) (G_is_word : FnOk P w K mg base CX0 1 fW fdW P_is_word (spIsW K))
    (m_KINDS : mg "KINDS" = some (.ref DK)) (hK : ∀ H, SqT K H DK (([("freeze" : Str), ("thaw" : Str)]).map V.str)) : FnOk P w K mg base CX0 4 f fd P_is_right (spRightX K fs) := by
  refine F.ok sc_is_right (fun vs H Q E h => ?_) (fun cdv A outer s H vs Q E hr h => ?_)
  · obtain ⟨u, role, a, d, L, rfl, _⟩ := h
    rfl
  · obtain ⟨u, role, a, d, L, rfl, hq, sm, hS, kk⟩ := h
    have hr_is_one_of : Room 1 _ := hr.mono (by decide)
    have hr_is_depth : Room 3 _ := hr.mono (by decide)
    have hr_is_word : Room 1 _ := hr.mono (by decide)
    have hk : Kd K H u (tyD d) := hq.kd sm
    refine ⟨_, (pss_cons (ps_if (pt_cmpR op_eq (pv 1) pe_str (nomark _)) (pss_one (ps_ret (pe_call G_is_one_of hr_is_one_of rfl d_is_one_of.g d_is_one_of.F.kp d_is_one_of.b .nil pass0 (pa_cons (pv 0) (pa_cons (pv 2) pa_nil))))) pss_nil)
 (pss_cons (ps_if (pt_cmpR op_eq (pv 1) pe_str (nomark _)) (pss_one (ps_ret (pe_call G_is_one_of hr_is_one_of rfl d_is_one_of.g d_is_one_of.F.kp d_is_one_of.b .nil pass0 (pa_cons (pv 0) (pa_cons (pe_glob (v := .ref DK) rfl m_KINDS rfl) pa_nil))))) pss_nil)
 (pss_cons (ps_if (pt_cmpR op_eq (pv 1) pe_str (nomark _)) (pss_one (ps_ret (pe_call G_is_depth hr_is_depth rfl d_is_depth.g d_is_depth.F.kp d_is_depth.b .nil pass0 (pa_cons (pv 0) pa_nil)))) pss_nil)
 (pss_one (ps_ret (pe_or (pe_cmpR op_eq (pv 1) pe_str (nomark _)) (pe_one (pe_call G_is_word hr_is_word rfl d_is_word.g d_is_word.F.kp d_is_word.b .nil pass0 (pa_cons (pv 0) pa_nil))))))))), ?_⟩
    refine ⟨_, rfl, rfl, _, rfl, ite_dec (fun hb => ?_) (fun hb => ?_)⟩
    · have e := dstr hb
      refine ⟨_, rfl, _, rfl, u, tyD d, a, fs, rfl, hk, .inr hS, ?_⟩
      have e2 : rightD fs d role = oneOf u fs := by
        unfold rightD
        rw [if_pos e, one_v hq]
      rw [← e2]
      exact kk H (Same.refl H)
    have n1 := dstrN hb
    refine ⟨_, rfl, rfl, _, rfl, ite_dec (fun hb => ?_) (fun hb => ?_)⟩
    · have e := dstr hb
      refine ⟨_, rfl, u, tyD d, DK, _, rfl, hk, .inr (.inr (hK _)), ?_⟩
      have e2 : rightD fs d role = oneOf u [("freeze" : Str), ("thaw" : Str)] := by
        unfold rightD
        rw [if_neg n1, if_pos e, one_v hq]
      rw [← e2]
      exact kk H (Same.refl H)
    have n2 := dstrN hb
    refine ⟨_, rfl, rfl, _, rfl, ite_dec (fun hb => ?_) (fun hb => ?_)⟩
    · have e := dstr hb
      refine ⟨_, rfl, u, tyD d, rfl, hk, ?_⟩
      have e2 : rightD fs d role = btw u 0 4 := by
        unfold rightD
        rw [if_neg n1, if_neg n2, if_pos e, btw_v hq]
      rw [← e2]
      exact kk H (Same.refl H)
    have n3 := dstrN hb
    have e2 : rightD fs d role = (decide (role = "rows") || wordD d) := by
      unfold rightD
      rw [if_neg n1, if_neg n2, if_neg n3]
    refine ⟨_, rfl, rfl, _, rfl, ite_dec (fun hb => ?_) (fun hb => ?_)⟩
    · have := kk H (Same.refl H)
      rw [e2, decide_eq_true (dstr hb)] at this
      exact this
    · refine ⟨_, rfl, u, tyD d, rfl, hk, fun H' s' => ?_⟩
      have := kk H' s'
      rw [e2, decide_eq_false (dstrN hb), Bool.false_or, ← isWb_v hq] at this
      exact this
end
def spFormX : Sp := fun vs H Q _ => ∃ (v : V) (d : PyData) (L : List Addr), vs = [v] ∧ Dq H v d L ∧ Sm d ∧ ∀ H', Same H H' → Q (.bl (formD d)) H'
def spNamesX (K : PySem.W.Frag) (fs : List Str) : Sp := fun vs H Q _ => ∃ (v : V) (a : Addr) (d : PyData) (L : List Addr), vs = [v, .ref a] ∧ Dq H v d L ∧ Sm d ∧ formD d = true ∧ (SqL K H a (fs.map V.str) ∨ SqT K H a (fs.map V.str)) ∧ ∀ H', Same H H' → Q (.bl (namesD fs d)) H'
def rowsB (ps : List PyData) (rs : List Str) : List Bool := (ps.zip rs).filterMap fun p => if p.2 = ("rows" : Str) then some (isLst p.1) else none
theorem rowsB_all : ∀ (ps : List PyData) (rs : List Str), (rowsB ps rs).all id = rolesB ps rs
  | [], _ => by unfold rowsB rolesB; rw [List.zip_nil_left]; rfl
  | _ :: _, [] => by unfold rowsB rolesB; rw [List.zip_nil_right]; rfl
  | p :: ps, r :: rs => by
    have ih := rowsB_all ps rs
    unfold rowsB rolesB at ih ⊢
    rw [List.zip_cons_cons, List.filterMap_cons, List.all_cons]
    by_cases h : r = "rows"
    · rw [if_pos h, ← ih, decide_eq_true h]
      rfl
    · rw [if_neg h, ← ih, decide_eq_false h]
      rfl
theorem rowsB_take {ps : List PyData} {rs : List Str} {i : Nat} {u : PyData} {r : Str} (h1 : ps[i]? = some u) (h2 : rs[i]? = some r) : rowsB (ps.take (i + 1)) (rs.take (i + 1)) = rowsB (ps.take i) (rs.take i) ++ (if r = "rows" then [isLst u] else []) := by
  unfold rowsB
  have h3 : (ps.take (i + 1)).zip (rs.take (i + 1)) = (ps.take i).zip (rs.take i) ++ [(u, r)] := by
    rw [take_next h1, take_next h2]
    refine List.zip_append ?_ |>.trans ?_
    · have a1 := (List.getElem?_eq_some_iff.mp h1).1
      have a2 := (List.getElem?_eq_some_iff.mp h2).1
      rw [List.length_take, List.length_take]
      omega
    · rfl
  rw [h3, List.filterMap_append]
  by_cases h : r = "rows"
  · rw [if_pos h]
    simp [h]
  · rw [if_neg h]
    simp [h]
theorem rowsB_le (ps : List PyData) (rs : List Str) : (rowsB ps rs).length ≤ ps.length := Nat.le_trans (List.length_filterMap_le _ _) (by rw [List.length_zip]; exact Nat.min_le_left _ _)
def rightB (fs : List Str) (ps : List PyData) (rs : List Str) : List Bool := (ps.zip rs).map fun p => rightD fs p.1 p.2
theorem rightB_take {fs : List Str} {ps : List PyData} {rs : List Str} {i : Nat} {u : PyData} {r : Str} (h1 : ps[i]? = some u) (h2 : rs[i]? = some r) : rightB fs (ps.take (i + 1)) (rs.take (i + 1)) = rightB fs (ps.take i) (rs.take i) ++ [rightD fs u r] := by
  unfold rightB
  have h3 : (ps.take (i + 1)).zip (rs.take (i + 1)) = (ps.take i).zip (rs.take i) ++ [(u, r)] := by
    rw [take_next h1, take_next h2]
    refine List.zip_append ?_ |>.trans ?_
    · have a1 := (List.getElem?_eq_some_iff.mp h1).1
      have a2 := (List.getElem?_eq_some_iff.mp h2).1
      rw [List.length_take, List.length_take]
      omega
    · rfl
  rw [h3, List.map_append]
  rfl
theorem ty_lst (d : PyData) : (tyD d == "list") = isLst d := by cases d <;> rfl
theorem formD_some {d : PyData} (h : formD d = true) : ∃ k ps rs, d = .tuple (.str k :: ps) ∧ formsT.lookup k = some rs ∧ ps.length = rs.length ∧ rolesB ps rs = true := by
  unfold formD at h
  split at h
  · rename_i k ps
    cases e : formsT.lookup k with
    | none => rw [e] at h; cases h
    | some rs =>
      rw [e] at h
      have h2 : (decide (ps.length = rs.length) && rolesB ps rs) = true := h
      rw [Bool.and_eq_true] at h2
      exact ⟨k, ps, rs, rfl, e, of_decide_eq_true h2.1, h2.2⟩
  · cases h
theorem formD_eq {k : Str} {ps : List PyData} {rs : List Str} (e : formsT.lookup k = some rs) : formD (.tuple (.str k :: ps)) = (decide (ps.length = rs.length) && rolesB ps rs) := by
  show (match formsT.lookup k with
    | some rs => decide (ps.length = rs.length) && rolesB ps rs
    | none => false) = _
  rw [e]
theorem formD_no {k : Str} {ps : List PyData} (e : formsT.lookup k = none) : formD (.tuple (.str k :: ps)) = false := by
  show (match formsT.lookup k with
    | some rs => decide (ps.length = rs.length) && rolesB ps rs
    | none => false) = _
  rw [e]
section
variable {P : Program} {w : World} {K : PySem.W.Frag} {mg : Str → Option Value} {base : Heap}
set_option maxHeartbeats 4000000 in
theorem ok_has_form_x {f DF : Addr} {fd : FuncData} {es : Array DictEntry} {nE : Nat} (F : Fun K "has_form" "has_form" S_has_form f fd) (B : Bl mg) (FM : FormsK K w mg DF es nE) (FN : ∀ k, formsT.lookup k = none → PySem.W.nsIn K DF k = some none) : FnOk P w K mg base CX0 1 f fd P_has_form spFormX := by
  refine F.ok sc_has_form (fun vs H Q E h => ?_) (fun cdv A outer s H vs Q E hr h => ?_)
  · obtain ⟨v, d, L, rfl, _⟩ := h
    rfl
  · obtain ⟨v, d, L, rfl, hq, sm, kk⟩ := h
    have hk : Kd K H v (tyD d) := hq.kd sm
    have bad : formD d = false → Q (.bl false) H := fun e => by
      have := kk H (Same.refl H)
      rwa [e] at this
    refine ⟨_, (pss_cons (ps_if (PW.pt (pw_or (pt_not (pt_val (pe_callB call_isi (by rfl) B.m_isinstance (by decide +kernel) (pa_cons (pv 0) (pa_cons (pe_bltn (v := .ty "tuple") (by rfl) B.m_tuple (by decide +kernel) rfl) pa_nil))))) (pw_or1 (pt_cmpR op_eq (pe_callB call_len_seq (by rfl) B.m_len PySem.boot_len (pa_cons (pv 0) pa_nil)) pe_int (nomark _))))) (pss_one (ps_ret pe_bl)) pss_nil)
 (pss_cons (ps_if (PW.pt (pw_or (pt_not (pt_val (pe_callB call_isi (by rfl) B.m_isinstance (by decide +kernel) (pa_cons (pe_ix ix_tup (pv 0) pe_int (fun _ _ => rfl)) (pa_cons (pe_bltn (v := .ty "str") (by rfl) B.m_str (by decide +kernel) rfl) pa_nil))))) (pw_or1 (pt_cmpR (op_notIn_kd FM.k) (pe_ix ix_tup (pv 0) pe_int (fun _ _ => rfl)) (pe_glob (v := .ref DF) rfl FM.g rfl) (by rfl))))) (pss_one (ps_ret pe_bl)) pss_nil)
 (pss_cons (ps_set (i := 1) sc_has_form.nd rfl (by first | exact Or.inl rfl | exact Or.inr rfl) (pe_ix ix_kdict (pe_glob (v := .ref DF) rfl FM.g rfl) (pe_ix ix_tup (pv 0) pe_int (fun _ _ => rfl)) (fun _ _ => rfl)))
 (pss_cons (ps_if (pt_cmpR op_ne (pe_callB call_len_seq (by rfl) B.m_len PySem.boot_len (pa_cons (pv 0) pa_nil)) (pe_op op_add (pe_callB call_len_seq (by rfl) B.m_len PySem.boot_len (pa_cons (pv 1) pa_nil)) pe_int) (nomark _)) (pss_one (ps_ret pe_bl)) pss_nil)
 (pss_one (ps_ret (pe_callB (cr_all rfl) (by rfl) B.m_all (by decide +kernel) (pa_cons (pe_lc (own := [("part", 2), ("role", 3)])  rfl sc_has_form.nd (RZ.pi_zipA (by rfl) B.m_zip (pa_cons (pe_slice sl_tup (pv 0) (po_some pe_int) po_none) (pa_cons (pv 1) pa_nil))) (blkOk_by (own := [("part", 2), ("role", 3)]) (N := N_has_form) (sc := defScope S_has_form) (by decide +kernel)) (fun _ _ _ _ _ => (pg_tupK (K := K) (n := 2) rfl rfl (pgs_cons (pg_name (i := 2) sc_has_form.nd rfl (by first | exact Or.inl rfl | exact Or.inr rfl)) (pgs_cons (pg_name (i := 3) sc_has_form.nd rfl (by first | exact Or.inl rfl | exact Or.inr rfl)) pgs_nil)))) (fun _ _ _ _ _ => pts_one (pt_cmpR op_eq (pv 3) pe_str (nomark _))) (fun _ _ _ _ _ => (pe_callB (call_isiK (K := K) rfl) (by rfl) B.m_isinstance (by decide +kernel) (pa_cons (pv 2) (pa_cons (pe_bltn (v := .ty "list") (by rfl) B.m_list (by decide +kernel) rfl) pa_nil))))) pa_nil)))))))), ?_⟩
    by_cases ht : tyD d = "tuple"
    case neg =>
      have e : (tyD d == "tuple") = false := by simpa using ht
      have e2 : formD d = false := by
        cases d <;> first | rfl | exact absurd rfl ht
      exact ⟨_, rfl, _, _, _, _, _, rfl, .ty "tuple", hk.t, (kit7_tuple hk.m).trans (congrArg some e), _, rfl, iteT (bad e2)⟩
    obtain ⟨r, xs, ds, rfl, rfl, hr0, du⟩ : ∃ r xs ds, v = .ref r ∧ d = .tuple ds ∧ H r = some (.tup xs) ∧ DqAll H xs ds L := by
      cases hq with
      | tup h a => exact ⟨_, _, _, rfl, rfl, h, a⟩
      | non => exact absurd ht (show ¬ "NoneType" = "tuple" by decide)
      | bl b => exact absurd ht (show ¬ "bool" = "tuple" by decide)
      | int i => exact absurd ht (show ¬ "int" = "tuple" by decide)
      | str x => exact absurd ht (show ¬ "str" = "tuple" by decide)
      | lst _ _ => exact absurd ht (show ¬ "list" = "tuple" by decide)
    have hds : ds.length ≤ 100 ∧ ∀ d ∈ ds, Sm d := by cases sm with | tup l s => exact ⟨l, s⟩
    have xl : xs.length = ds.length := du.len
    refine ⟨_, rfl, _, _, _, _, _, rfl, .ty "tuple", hk.t, kit7_tuple hk.m, _, rfl, ?_⟩
    refine iteF ?_
    refine ⟨_, rfl, r, _, rfl, .inr (SqT.of hr0), rfl, _, rfl, ite_dec (fun hb => ?_) (fun hb => ?_)⟩
    · have e : xs.length = 0 := by
        have := V.int.inj (of_decide_eq_true hb)
        omega
      refine bad ?_
      have : ds = [] := List.eq_nil_of_length_eq_zero (by omega)
      rw [this]
      rfl
    have e0 : ds ≠ [] := fun z => by
      rw [z] at xl
      have : xs = [] := List.eq_nil_of_length_eq_zero xl
      rw [this] at hb
      exact Bool.noConfusion hb
    cases du with
    | nil => exact absurd rfl e0
    | @cons u us d0 ps L0 M0 q0 dps =>
    have s0 := hds.2 d0 (List.mem_cons_self ..)
    have k0 : Kd K H u (tyD d0) := q0.kd s0
    by_cases hs : tyD d0 = "str"
    case neg =>
      have e : (tyD d0 == "str") = false := by simpa using hs
      have e2 : formD (.tuple (d0 :: ps)) = false := by
        cases d0 <;> first | rfl | exact absurd rfl hs
      refine ⟨_, rfl, r, _, 0, u, rfl, rfl, SqT.of hr0, atI_of (j := 0) rfl rfl, _, _, _, _, _, rfl, .ty "str", k0.t, (kit7_str k0.m).trans (congrArg some e), _, rfl, ?_⟩
      exact iteT (bad e2)
    obtain ⟨k, rfl, rfl⟩ : ∃ k, u = .str k ∧ d0 = .str k := by
      cases q0 with
      | str x => exact ⟨_, rfl, rfl⟩
      | non => exact absurd hs (show ¬ "NoneType" = "str" by decide)
      | bl b => exact absurd hs (show ¬ "bool" = "str" by decide)
      | int i => exact absurd hs (show ¬ "int" = "str" by decide)
      | lst _ _ => exact absurd hs (show ¬ "list" = "str" by decide)
      | tup _ _ => exact absurd hs (show ¬ "tuple" = "str" by decide)
    refine ⟨_, rfl, r, _, 0, .str k, rfl, rfl, SqT.of hr0, atI_of (j := 0) rfl rfl, _, _, _, _, _, rfl, .ty "str", k0.t, kit7_str k0.m, _, rfl, ?_⟩
    refine iteF ?_
    cases hl : formsT.lookup k with
    | none =>
      refine ⟨_, rfl, r, _, 0, .str k, rfl, rfl, SqT.of hr0, atI_of (j := 0) rfl rfl, k, _, rfl, rfl, FN k hl, _, rfl, iteT (bad (formD_no hl))⟩
    | some rs =>
    obtain ⟨T, hT, hST⟩ := FM.at' hl
    obtain ⟨f1, f4⟩ := forms_len hl
    have hrt := hr0
    refine ⟨_, rfl, r, _, 0, .str k, rfl, rfl, SqT.of hrt, atI_of (j := 0) rfl rfl, k, _, rfl, rfl, hT, _, rfl, iteF ?_⟩
    refine ⟨_, rfl, r, _, 0, .str k, rfl, rfl, SqT.of hrt, atI_of (j := 0) rfl rfl, DF, k, .ref T, rfl, rfl, FM.dct hT, ?_⟩
    have ul : us.length = ps.length := dps.len
    refine ⟨_, rfl, r, _, rfl, .inr (SqT.of hrt), _, rfl, T, _, rfl, .inr (hST _), _, _, rfl, rfl, rfl, _, rfl, ?_⟩
    by_cases hlen : ps.length = rs.length
    case neg =>
      have e : decide (V.int ((V.str k :: us).length : Int) = V.int (((rs.map V.str).length : Int) + 1)) = false := decide_eq_false fun z => by
        have := V.int.inj z
        rw [List.length_cons, List.length_map] at this
        omega
      refine ite_dec (fun _ => bad ?_) (fun hb => absurd hb ?_)
      · rw [formD_eq hl, decide_eq_false hlen]
        rfl
      · rw [e]
        exact Bool.noConfusion
    have un : us.length = rs.length := by omega
    have e : decide (V.int ((V.str k :: us).length : Int) = V.int (((rs.map V.str).length : Int) + 1)) = true := decide_eq_true (by
      rw [List.length_cons, List.length_map, un]
      rfl)
    refine ite_dec (fun hb => absurd hb ?_) (fun _ => ?_)
    · rw [e]
      exact Bool.noConfusion
    refine ⟨_, rfl, _, rfl, r, _, rfl, SqT.of hrt, ?_, fun p1 hp1 => ?_⟩
    · rw [sIx_one (by rw [List.length_cons]; omega)]
      exact fun z => absurd z.1 (by decide)
    rw [cutV_one]
    have s1 := same_new (o := .tup us) hp1
    refine ⟨_, rfl, p1, T, us, rs.map V.str, rfl, .inr ⟨SqT.of upd_same, hST _, fun D hD => ?_⟩⟩
    refine lc_zipT (xs := us) (ys := rs.map V.str) (by rw [List.length_map]; exact un) (fun i G' => Same (upd H p1 (.tup us)) G' ∧ G' D = some (.lst ((rowsB (ps.take i) (rs.take i)).map V.bl))) ⟨same_new hD, upd_same⟩ ?_ ?_ ?_
    · rintro i G' ⟨sG, _⟩
      exact ⟨SqT.of (sG _ _ upd_same), hST G'⟩
    · rintro i x y T2 G' hx hy ⟨sG, hGD⟩ hT2
      obtain ⟨role, hrole, rfl⟩ := get_str hy
      have s2 := same_new (o := .tup [x, .str role]) hT2
      obtain ⟨d1, M1, hd1, hq1, _⟩ := dps.get hx
      have sm1 := hds.2 d1 (List.mem_cons_of_mem _ (List.mem_of_getElem? hd1))
      have s12 := (s1.trans sG).trans s2
      have k1 : Kd K _ x (tyD d1) := (hq1.same s12).kd sm1
      refine ⟨T2, _, rfl, SqT.of upd_same, rfl, _, _, rfl, _, _, rfl, rfl, rfl, ?_⟩
      refine ⟨_, rfl, rfl, _, rfl, ite_dec (fun hb => ?_) (fun hb => ⟨sG.trans s2, ?_⟩)⟩
      · have hz := dstr hb
        refine ⟨_, rfl, _, _, _, _, _, rfl, .ty "list", k1.t, kit7_list k1.m, _, s2 _ _ hGD, ?_, fun b o e => (upd_ne (ne_of_none e hD)).trans (s2 _ _ (sG _ _ e)), ?_⟩
        · rw [List.length_map]
          have := rowsB_le (ps.take i) (rs.take i)
          rw [List.length_take] at this
          exact small1000 (by have h2 := hds.1; rw [List.length_cons] at h2; omega)
        · rw [upd_same, rowsB_take hd1 hrole, if_pos hz, List.map_append, ty_lst]
          rfl
      · rw [rowsB_take hd1 hrole, if_neg (dstrN hb), List.append_nil]
        exact s2 _ _ hGD
    · rintro G' ⟨sG, hGD⟩
      rw [un, List.take_length, List.take_of_length_le (by omega)] at hGD
      refine ⟨D, rowsB ps rs, rfl, SqL.of hGD, ?_⟩
      have e : (rowsB ps rs).all id = formD (.tuple (.str k :: ps)) := by
        rw [rowsB_all, formD_eq hl, decide_eq_true hlen, Bool.true_and]
      rw [e]
      exact kk G' (s1.trans sG)
set_option maxHeartbeats 4000000 in
theorem ok_has_names_x {f fR DF : Addr} {fd fdR : FuncData} {es : Array DictEntry} {nE : Nat} {fs : List Str} (F : Fun K "has_names" "has_names" S_has_names f fd) (B : Bl mg) (FM : FormsK K w mg DF es nE) (d_is_right : Df K mg "is_right" S_is_right fR fdR P_is_right) (G_is_right : FnOk P w K mg base CX0 4 fR fdR P_is_right (spRightX K fs)) :
    FnOk P w K mg base CX0 5 f fd P_has_names (spNamesX K fs) := by
  refine F.ok sc_has_names (fun vs H Q E h => ?_) (fun cdv A outer s H vs Q E hr h => ?_)
  · obtain ⟨v, a, d, L, rfl, _⟩ := h
    rfl
  · obtain ⟨v, a, d, L, rfl, hq, sm, fo, hS, kk⟩ := h
    have hr_is_right : Room 4 _ := hr.mono (Nat.le_refl _)
    obtain ⟨k, ps, rs, rfl, hl, hlen, _⟩ := formD_some fo
    obtain ⟨T, hT, hST⟩ := FM.at' hl
    obtain ⟨f1, f4⟩ := forms_len hl
    have hds : (PyData.str k :: ps).length ≤ 100 ∧ ∀ d ∈ PyData.str k :: ps, Sm d := by cases sm with | tup l s => exact ⟨l, s⟩
    cases hq with
    | @tup r xs _ _ hrt du =>
    cases du with
    | @cons u us _ _ L0 M0 q0 dps =>
    cases q0 with
    | str _ =>
    have un : us.length = rs.length := by rw [dps.len, hlen]
    refine ⟨_, (pss_one (ps_ret (pe_callB (cr_all rfl) (by rfl) B.m_all (by decide +kernel) (pa_cons (pe_lc (own := [("part", 2), ("role", 3)]) (tt := tYes) rfl sc_has_names.nd (RZ.pi_zipA (by rfl) B.m_zip (pa_cons (pe_slice sl_tup (pv 0) (po_some pe_int) po_none) (pa_cons (pe_ix ix_kdict (pe_glob (v := .ref DF) rfl FM.g rfl) (pe_ix ix_tup (pv 0) pe_int (fun _ _ => rfl)) (fun _ _ => rfl)) pa_nil))) (blkOk_by (own := [("part", 2), ("role", 3)]) (N := N_has_names) (sc := defScope S_has_names) (by decide +kernel)) (fun _ _ _ _ _ => (pg_tupK (K := K) (n := 2) rfl rfl (pgs_cons (pg_name (i := 2) sc_has_names.nd rfl (by first | exact Or.inl rfl | exact Or.inr rfl)) (pgs_cons (pg_name (i := 3) sc_has_names.nd rfl (by first | exact Or.inl rfl | exact Or.inr rfl)) pgs_nil)))) (fun _ _ _ _ _ => pts_nil) (fun _ _ _ _ _ => (pe_call G_is_right hr_is_right rfl d_is_right.g d_is_right.F.kp d_is_right.b .nil pass0 (pa_cons (pv 2) (pa_cons (pv 3) (pa_cons (pv 1) pa_nil)))))) pa_nil)))), ?_⟩
    refine ⟨_, rfl, _, rfl, r, _, rfl, SqT.of hrt, ?_, fun p1 hp1 => ?_⟩
    · rw [sIx_one (by rw [List.length_cons]; omega)]
      exact fun z => absurd z.1 (by decide)
    rw [cutV_one]
    have s1 := same_new (o := .tup us) hp1
    refine ⟨_, rfl, r, _, 0, .str k, rfl, rfl, SqT.of (s1 _ _ hrt), atI_of (j := 0) rfl rfl, DF, k, .ref T, rfl, rfl, FM.dct hT, p1, T, us, rs.map V.str, rfl, .inr ⟨SqT.of upd_same, hST _, fun D hD => ?_⟩⟩
    refine lc_zipT (xs := us) (ys := rs.map V.str) (by rw [List.length_map]; exact un) (fun i G' => Same (upd H p1 (.tup us)) G' ∧ G' D = some (.lst ((rightB fs (ps.take i) (rs.take i)).map V.bl))) ⟨same_new hD, upd_same⟩ ?_ ?_ ?_
    · rintro i G' ⟨sG, _⟩
      exact ⟨SqT.of (sG _ _ upd_same), hST G'⟩
    · rintro i x y T2 G' hx hy ⟨sG, hGD⟩ hT2
      obtain ⟨role, hrole, rfl⟩ := get_str hy
      have s2 := same_new (o := .tup [x, .str role]) hT2
      have iu : i < us.length := (List.getElem?_eq_some_iff.mp hx).1
      obtain ⟨d1, M1, hd1, hq1, _⟩ := dps.get hx
      have sm1 := hds.2 d1 (List.mem_cons_of_mem _ (List.mem_of_getElem? hd1))
      refine ⟨T2, _, rfl, SqT.of upd_same, rfl, _, _, rfl, _, _, rfl, rfl, rfl, yes_of ?_⟩
      have s12 := (s1.trans sG).trans s2
      refine ⟨_, rfl, _, rfl, _, rfl, x, role, a, d1, M1, rfl, hq1.same s12, sm1, seq_same s12 hS, fun H' s' => ?_⟩
      refine ⟨_, s' _ _ (s2 _ _ hGD), ?_, fun b o e => (upd_ne (ne_of_none e hD)).trans (s' _ _ (s2 _ _ (sG _ _ e))), ?_⟩
      · rw [List.length_map]
        unfold rightB
        rw [List.length_map, List.length_zip, List.length_take]
        exact small1000 (by omega)
      · rw [upd_same, rightB_take hd1 hrole, List.map_append]
        rfl
    · rintro G' ⟨sG, hGD⟩
      rw [un, List.take_length, List.take_of_length_le (by omega)] at hGD
      refine ⟨D, rightB fs ps rs, rfl, SqL.of hGD, ?_⟩
      have e : (rightB fs ps rs).all id = namesD fs (.tuple (.str k :: ps)) := by
        unfold rightB namesD rolesOf
        rw [List.all_map]
        show _ = (ps.zip ((formsT.lookup k).getD [])).all _
        rw [hl]
        rfl
      rw [e]
      exact kk G' (s1.trans sG)
end
end TW
set_option Elab.async false
set_option linter.all false
set_option maxRecDepth 100000
namespace L2
open PySem PySem.Spec PyProof.Rows
/-- what a call lets out is let out again -/
theorem passT {X : Cx} {E : XK} (tk : Takes X (fun cls d _ H => E cls d H)) : Passes (L2.CX X.prog X.w) X E := fun _ _ _ _ e s' I c => tk e s' (XE.of_call I (fun _ _ _ h => h) c)
end L2
namespace TW
open PySem PySem.Spec PyProof.Rows L2 TL
/-- InvalidProgram(part, pl) is let out -/
def ePl (CP : Addr) (part : Str) (pl : List Int) (H : Hp) (E : XK) : Prop := ∀ H1 q d, Same H H1 → H1 q = some (.tup (pl.map V.int)) → H1 d = none → E (.ref CP) (some d) (upd H1 d (.xd [(("place" : Str), .ref q), ("part", .str part)]))
theorem ePl.same {CP : Addr} {part : Str} {pl : List Int} {H H' : Hp} {E : XK} (s : Same H H') (e : ePl CP part pl H E) : ePl CP part pl H' E := fun H1 q d s1 hq hd => e H1 q d (s.trans s1) hq hd
/-! from the program's view to the data -/
def roles6 : List Str := ["variable", "field", "kind", "depth", "reader", "rows"]
theorem part_ok {ws fs : List Str} {r : Str} {p : PyData} (hr : r ∈ roles6) (h : rightD fs p r = true) (hl : r = "rows" → isLst p = true) (hw : r = "variable" → strD p ∈ ws) : PartOk ws fs r p := by
  have wd : wordD p = true → ∃ z, p = .str z ∧ IsW z := fun h => by
    cases p <;> first | exact absurd h Bool.false_ne_true | exact ⟨_, rfl, of_decide_eq_true h⟩
  simp only [roles6, List.mem_cons, List.not_mem_nil, or_false] at hr
  rcases hr with rfl | rfl | rfl | rfl | rfl | rfl
  · have h2 : wordD p = true := by
      have e : rightD fs p "variable" = (decide (("variable" : Str) = "rows") || wordD p) := by
        unfold rightD
        rw [if_neg (by decide +kernel), if_neg (by decide +kernel), if_neg (by decide +kernel)]
      rw [e, decide_eq_false (by decide +kernel), Bool.false_or] at h
      exact h
    obtain ⟨z, rfl, _⟩ := wd h2
    exact .var (hw rfl)
  · unfold rightD at h
    rw [if_pos rfl] at h
    cases p <;> first | exact absurd h Bool.false_ne_true | exact .field (of_decide_eq_true h)
  · unfold rightD at h
    rw [if_neg (by decide +kernel), if_pos rfl] at h
    cases p with
    | str z =>
      have h2 : z ∈ ([("freeze" : Str), "thaw"] : List Str) := of_decide_eq_true h
      simp only [List.mem_cons, List.not_mem_nil, or_false] at h2
      exact .kind h2
    | _ => exact absurd h Bool.false_ne_true
  · unfold rightD at h
    rw [if_neg (by decide +kernel), if_neg (by decide +kernel), if_pos rfl] at h
    cases p with
    | int i =>
      have h2 : (decide (0 ≤ i) && decide (i ≤ 4)) = true := h
      rw [Bool.and_eq_true] at h2
      exact .depth (of_decide_eq_true h2.1) (of_decide_eq_true h2.2)
    | _ => exact absurd h Bool.false_ne_true
  · have h2 : wordD p = true := by
      have e : rightD fs p "reader" = (decide (("reader" : Str) = "rows") || wordD p) := by
        unfold rightD
        rw [if_neg (by decide +kernel), if_neg (by decide +kernel), if_neg (by decide +kernel)]
      rw [e, decide_eq_false (by decide +kernel), Bool.false_or] at h
      exact h
    obtain ⟨z, rfl, hz⟩ := wd h2
    exact .reader hz
  · have := hl rfl
    cases p <;> first | exact absurd this Bool.false_ne_true | exact .rows
theorem parts_ok {ws fs : List Str} : ∀ {rs : List Str} {ps : List PyData}, ps.length = rs.length → (∀ r ∈ rs, r ∈ roles6) → rolesB ps rs = true → ((ps.zip rs).all fun p => rightD fs p.1 p.2) = true → (∀ x ∈ (ps.zip rs).filterMap (fun p => if p.2 = ("variable" : Str) then some (strD p.1) else none), x ∈ ws) → PartsOk ws fs rs ps
  | [], [], _, _, _, _, _ => .nil
  | [], _ :: _, h, _, _, _, _ => by simp at h
  | _ :: _, [], h, _, _, _, _ => by simp at h
  | r :: rs, p :: ps, h, h6, hb, ha, hv => by
    unfold rolesB at hb
    rw [List.zip_cons_cons, List.all_cons, Bool.and_eq_true] at hb ha
    rw [List.zip_cons_cons, List.filterMap_cons] at hv
    refine .cons (part_ok (h6 r (List.mem_cons_self ..)) ha.1 (fun e => ?_) fun e => ?_) (parts_ok (by simpa using h) (fun r m => h6 r (List.mem_cons_of_mem _ m)) hb.2 ha.2 fun x m => hv x ?_)
    · have := hb.1
      rw [decide_eq_true e] at this
      simpa using this
    · refine hv _ ?_
      rw [if_pos e]
      exact List.mem_cons_self ..
    · by_cases e : r = "variable"
      · rw [if_pos e]
        exact List.mem_cons_of_mem _ m
      · rw [if_neg e]
        exact m
theorem forms_roles {k : Str} {rs : List Str} (h : formsT.lookup k = some rs) : ∀ r ∈ rs, r ∈ roles6 := by
  rcases forms_cases h with ⟨_, rfl⟩ | ⟨_, rfl⟩ | ⟨_, rfl⟩ | ⟨_, rfl⟩ | ⟨_, rfl⟩ | ⟨_, rfl⟩ | ⟨_, rfl⟩ | ⟨_, rfl⟩ | ⟨_, rfl⟩ <;> decide +kernel
theorem okR_of {ws fs : List Str} {d : PyData} (fo : formD d = true) (na : namesD fs d = true) (hw : ∀ x ∈ varsOf d, x ∈ ws) : OkR ws fs d := by
  obtain ⟨k, ps, rs, rfl, hl, hlen, hb⟩ := formD_some fo
  have er : rolesOf (.tuple (.str k :: ps)) = rs := by
    unfold rolesOf
    show (formsT.lookup k).getD [] = rs
    rw [hl]
    rfl
  refine ⟨k, ps, rs, rfl, hl, parts_ok hlen (forms_roles hl) hb ?_ fun x m => hw x ?_⟩
  · unfold namesD at na
    rw [er] at na
    exact na
  · unfold varsOf
    rw [er]
    exact m
theorem part_flat {ws fs : List Str} {r : Str} {p : PyData} (h : PartOk ws fs r p) (n : r ≠ "rows") : FlatD p := by
  cases h with
  | var _ => exact .str _
  | field _ => exact .str _
  | kind _ => exact .str _
  | depth _ _ => exact .int _
  | reader _ => exact .str _
  | rows => exact absurd rfl n
theorem parts_flat {ws fs : List Str} : ∀ {rs : List Str} {ps : List PyData}, PartsOk ws fs rs ps → ("rows" : Str) ∉ rs → ∀ d ∈ ps, FlatD d
  | _, _, .nil, _, d, m => nomatch m
  | _, _, .cons (r := r) h a, n, d, m => by
    rcases List.mem_cons.mp m with rfl | m
    · exact part_flat h fun e => n (by rw [e]; exact List.mem_cons_self ..)
    · exact parts_flat a (fun m => n (List.mem_cons_of_mem _ m)) d m
theorem PartsOk.split {ws fs : List Str} : ∀ {qs ss : List Str} {ps : List PyData}, PartsOk ws fs (qs ++ ss) ps → ∃ p1 p2, ps = p1 ++ p2 ∧ PartsOk ws fs qs p1 ∧ PartsOk ws fs ss p2
  | [], ss, ps, h => ⟨[], ps, rfl, .nil, h⟩
  | q :: qs, ss, _, .cons h a => by
    obtain ⟨p1, p2, rfl, h1, h2⟩ := PartsOk.split a
    exact ⟨_ :: p1, p2, rfl, .cons h h1, h2⟩
theorem part_rows {ws fs : List Str} {r : Str} {p : PyData} (h : PartOk ws fs r p) (e : r = "rows") : ∃ as, p = .list as := by
  cases h with
  | rows => exact ⟨_, rfl⟩
  | var h => exact absurd e (by decide +kernel)
  | kind h => exact absurd e (by decide +kernel)
  | depth _ _ => exact absurd e (by decide +kernel)
  | field h => exact absurd e (by decide +kernel)
  | reader h => exact absurd e (by decide +kernel)
theorem part_readerP {ws fs : List Str} {r : Str} {p : PyData} (h : PartOk ws fs r p) (e : r = "reader") : ∃ z, p = .str z ∧ IsW z := by
  cases h with
  | reader h => exact ⟨_, rfl, h⟩
  | var h => exact absurd e (by decide +kernel)
  | kind h => exact absurd e (by decide +kernel)
  | depth _ _ => exact absurd e (by decide +kernel)
  | field h => exact absurd e (by decide +kernel)
  | rows => exact absurd e (by decide +kernel)
/-- a row that is built right, with right names -/
theorem row_data {fs : List Str} {d : PyData} (fo : formD d = true) (na : namesD fs d = true) : ∃ k ps rs, d = .tuple (.str k :: ps) ∧ formsT.lookup k = some rs ∧ PartsOk (varsOf d) fs rs ps ∧
    ((k ≠ "same" ∧ k ≠ "empty" ∧ ("rows" : Str) ∉ rs ∧ (∀ p ∈ ps, FlatD p) ∧ inner d = ([], [])) ∨
     ∃ qs ps0 as bs, (k = "same" ∨ k = "empty") ∧ rs = qs ++ (["rows", "rows"] : List Str) ∧ ("rows" : Str) ∉ qs ∧ ps = ps0 ++ [.list as, .list bs] ∧ ps0.length = qs.length ∧ (∀ p ∈ ps0, FlatD p) ∧ inner d = (as, bs)) := by
  obtain ⟨k, ps, rs, e, hl, hp⟩ := okR_of (ws := varsOf d) fo na fun x m => m
  refine ⟨k, ps, rs, e, hl, hp, ?_⟩
  by_cases hk : k = "same" ∨ k = "empty"
  · obtain ⟨qs, eq, hn⟩ := forms_br hl hk
    have hp2 := hp
    rw [eq] at hp2
    obtain ⟨p1, p2, e2, h1, h2⟩ := hp2.split
    cases h2 with
    | cons a1 h2 =>
    cases h2 with
    | cons a2 h3 =>
    cases h3
    obtain ⟨as, rfl⟩ := part_rows a1 rfl
    obtain ⟨bs, rfl⟩ := part_rows a2 rfl
    exact .inr ⟨qs, p1, as, bs, hk, eq, hn, e2, h1.len.symm, parts_flat h1 hn, by rw [e, e2, inner_br]⟩
  · have n1 : k ≠ "same" := fun e => hk (.inl e)
    have n2 : k ≠ "empty" := fun e => hk (.inr e)
    have fl := parts_flat hp (forms_plain hl n1 n2)
    exact .inl ⟨n1, n2, forms_plain hl n1 n2, fl, by rw [e, inner_plain fl]⟩
theorem watch_view {fs : List Str} {d : PyData} (fo : formD d = true) (na : namesD fs d = true) {k : Str} {ps : List PyData} (e : d = .tuple (.str k :: ps)) (hk : k = "watch") : ∃ z ps', ps = .str z :: ps' ∧ IsW z ∧ readersOf d = [z] := by
  obtain ⟨k', ps', rs, e2, hl, hp, _⟩ := row_data fo na
  rw [e] at e2
  cases e2
  subst hk
  rcases forms_cases hl with ⟨e3, _⟩ | ⟨e3, _⟩ | ⟨e3, _⟩ | ⟨e3, _⟩ | ⟨e3, _⟩ | ⟨e3, _⟩ | ⟨e3, rfl⟩ | ⟨e3, _⟩ | ⟨e3, _⟩
  all_goals first | (exact absurd e3 (by decide +kernel)) | skip
  cases hp with
  | cons p1 hp2 =>
    obtain ⟨z, rfl, hz⟩ := part_readerP p1 rfl
    exact ⟨z, _, rfl, hz, by rw [e]; exact if_pos rfl⟩
def spCheckY (K : PySem.W.Frag) (CP : Addr) (fs : List Str) : Sp := fun vs H Q E => ∃ (v : V) (q a rd : Addr) (d : PyData) (L : List Addr) (bs : List Int) (rs : List Str), vs = [v, .ref q, .ref a, .ref rd] ∧ Dq H v d L ∧ Sm d ∧ H q = some (.tup (bs.map V.int)) ∧ bs.length ≤ 9 ∧ (∀ i ∈ bs, 0 ≤ i ∧ i < 100) ∧
  (SqL K H a (fs.map V.str) ∨ SqT K H a (fs.map V.str)) ∧ H rd = some (.lst (rs.map V.str)) ∧ (faultOf fs rs (bs, d) = none → ∀ H', Same H H' → Q .non H') ∧ (∀ part, faultOf fs rs (bs, d) = some part → ePl CP part bs H E)
section
variable {P : Program} {w : World} {K : PySem.W.Frag} {mg : Str → Option Value} {base : Heap}
set_option maxHeartbeats 4000000 in
theorem ok_check_row_y {f fF fN CP fX : Addr} {fd fdF fdN : FuncData} {t : Tok} {fs : List Str} (F : Fun K "check_row" "check_row" S_check_row f fd) (B : Bl mg) (TP : PySem.ErrW.ErrTw P K mg "InvalidProgram" "no program: " " at " CP fX) (m_LONGEST_PLACE : mg "LONGEST_PLACE" = some (.int 7 t))
    (d_has_form : Df K mg "has_form" S_has_form fF fdF P_has_form) (G_has_form : FnOk P w K mg base CX0 1 fF fdF P_has_form spFormX) (d_has_names : Df K mg "has_names" S_has_names fN fdN P_has_names) (G_has_names : FnOk P w K mg base CX0 5 fN fdN P_has_names (spNamesX K fs)) :
    FnOk P w K mg base (L2.CX P w) 6 f fd P_check_row (spCheckY K CP fs) := by
  refine F.okX sc_check_row (fun vs H Q E h => ?_) (fun cdv A outer s H vs Q E hr h => ?_)
  · obtain ⟨v, q, a, rd, d, L, bs, rs, rfl, _⟩ := h
    rfl
  · obtain ⟨v, q, a, rd, d, L, bs, rs, rfl, hq, sm, hbs, b9, b100, hS, hrd, kk, ee⟩ := h
    have hr0 : Room 1 _ := hr.mono (by decide)
    have hr_has_form : Room 1 _ := hr.mono (by decide)
    have hr_has_names : Room 5 _ := hr.mono (by decide)
    refine ⟨_, (pss_cons (ps_if (pt_cmpR op_gt (pe_callB call_len_seq (by rfl) B.m_len PySem.boot_len (pa_cons (pv 1) pa_nil)) (pe_glob (v := .int _) rfl m_LONGEST_PLACE ⟨_, rfl⟩) (nomark _)) (pss_one (ps_raiseE2 rfl TP hr0 (takes_of rfl rfl rfl rfl) B.m_super (pa_cons pe_str (pa_cons (pv 1) pa_nil)) rfl rfl)) pss_nil)
 (pss_cons (ps_if (pt_not (pt_val (pe_call G_has_form hr_has_form rfl d_has_form.g d_has_form.F.kp d_has_form.b .nil pass0 (pa_cons (pv 0) pa_nil)))) (pss_one (ps_raiseE2 rfl TP hr0 (takes_of rfl rfl rfl rfl) B.m_super (pa_cons pe_str (pa_cons (pv 1) pa_nil)) rfl rfl)) pss_nil)
 (pss_cons (ps_if (pt_not (pt_val (pe_call G_has_names hr_has_names rfl d_has_names.g d_has_names.F.kp d_has_names.b .nil pass0 (pa_cons (pv 0) (pa_cons (pv 2) pa_nil))))) (pss_one (ps_raiseE2 rfl TP hr0 (takes_of rfl rfl rfl rfl) B.m_super (pa_cons pe_str (pa_cons (pv 1) pa_nil)) rfl rfl)) pss_nil)
 (pss_one (ps_if (PW.pt (pw_and (pt_cmpR op_eq (pe_ix ix_tup (pv 0) pe_int (fun _ _ => rfl)) pe_str (nomark _)) (pw_and1 (pt_cmpR op_in_seq (pe_ix ix_tup (pv 0) pe_int (fun _ _ => rfl)) (pv 3) (by rfl))))) (pss_one (ps_raiseE2 rfl TP hr0 (takes_of rfl rfl rfl rfl) B.m_super (pa_cons pe_str (pa_cons (pv 1) pa_nil)) rfl rfl)) pss_nil))))), ?_⟩
    refine ⟨_, rfl, q, _, rfl, .inr (SqT.of hbs), _, _, rfl, rfl, _, rfl, ite_dec (fun hb => ?_) (fun hb => ?_)⟩
    · have h7 := of_decide_eq_true hb
      rw [List.length_map] at h7
      have e : faultOf fs rs (bs, d) = some ("deep" : Str) := if_pos (show 7 < bs.length by omega)
      exact ⟨_, rfl, _, q, bs, rfl, by decide, SqT.of hbs, by omega, b100, fun d' hd' => ee _ e _ q d' (Same.refl H) hbs hd'⟩
    have h7 := of_decide_eq_false hb
    rw [List.length_map] at h7
    have e7 : faultOf fs rs (bs, d) = if formD d = false then some ("form" : Str) else if namesD fs d = false then some ("name" : Str) else if (readersOf d).any (fun x => decide (x ∈ rs)) = true then some ("reader" : Str) else none := if_neg (show ¬ 7 < bs.length by omega)
    refine ⟨_, rfl, v, d, L, rfl, hq, sm, fun H1 s1 => ⟨_, rfl, ?_⟩⟩
    cases hf : formD d with
    | false =>
      rw [if_pos hf] at e7
      exact iteT ⟨_, rfl, _, q, bs, rfl, by decide, SqT.of (s1 _ _ hbs), by omega, b100, fun d' hd' => ee _ e7 _ q d' s1 (s1 _ _ hbs) hd'⟩
    | true =>
    rw [if_neg (by rw [hf]; exact Bool.noConfusion)] at e7
    refine iteF ?_
    refine ⟨_, rfl, _, rfl, v, a, d, L, rfl, hq.same s1, sm, hf, seq_same s1 hS, fun H2 s2 => ⟨_, rfl, ?_⟩⟩
    have s12 := s1.trans s2
    cases hn : namesD fs d with
    | false =>
      rw [if_pos hn] at e7
      exact iteT ⟨_, rfl, _, q, bs, rfl, by decide, SqT.of (s12 _ _ hbs), by omega, b100, fun d' hd' => ee _ e7 _ q d' s12 (s12 _ _ hbs) hd'⟩
    | true =>
    rw [if_neg (by rw [hn]; exact Bool.noConfusion)] at e7
    refine iteF ?_
    obtain ⟨k, ps, rs', ed, hl, hp, _⟩ := row_data hf hn
    have hq0 := hq
    rw [ed] at hq0
    cases hq0 with
    | @tup r xs _ _ hrt du =>
    cases du with
    | @cons u us _ _ L0 M0 q0 dps =>
    cases q0 with
    | str _ =>
    refine ⟨_, rfl, r, _, 0, .str k, rfl, rfl, SqT.of (s12 _ _ hrt), atI_of (j := 0) rfl rfl, rfl, _, rfl, ite_dec (fun hb => ?_) (fun hb => iteF ?_)⟩
    · have hk : k = "watch" := dstr hb
      obtain ⟨z, ps', ep, hz, er⟩ := watch_view hf hn ed hk
      obtain ⟨us', rfl⟩ : ∃ us', us = .str z :: us' := by
        rw [ep] at dps
        cases dps with
        | cons q1 _ =>
          cases q1
          exact ⟨_, rfl⟩
      rw [er] at e7
      refine ⟨_, rfl, r, _, 1, .str z, rfl, rfl, SqT.of (s12 _ _ hrt), atI_of (j := 1) rfl rfl, _, rfl, rd, _, rfl, .inl (SqL.of (s12 _ _ hrd)), rfl, flat_strs _, _, rfl, ite_dec (fun hb2 => ?_) (fun hb2 => ?_)⟩
      · have hin : z ∈ rs := by
          have e : inV (.str z) (rs.map V.str) = true := hb2
          rw [inV_strs] at e
          exact of_decide_eq_true e
        rw [if_pos (List.any_eq_true.mpr ⟨z, List.mem_cons_self .., decide_eq_true hin⟩)] at e7
        exact ⟨_, rfl, _, q, bs, rfl, by decide, SqT.of (s12 _ _ hbs), by omega, b100, fun d' hd' => ee _ e7 _ q d' s12 (s12 _ _ hbs) hd'⟩
      · have hin : z ∉ rs := fun m => by
          have e : inV (.str z) (rs.map V.str) = false := hb2
          rw [inV_strs] at e
          exact of_decide_eq_false e m
        refine kk ?_ _ s12
        rw [e7, if_neg fun h => ?_]
        obtain ⟨x, hx, hx2⟩ := List.any_eq_true.mp h
        rw [List.mem_singleton.mp hx] at hx2
        exact hin (of_decide_eq_true hx2)
    · have hk : ¬ k = "watch" := dstrN hb
      refine kk ?_ _ s12
      rw [e7, ed, readers_none hk]
      rfl
end
end TW
set_option Elab.async false
set_option linter.all false
set_option maxRecDepth 100000
namespace TW
open PySem PySem.Spec PyProof.Rows L2 TL
/-- a row that passed, in the heap -/
theorem row_viewX {fs : List Str} {H : Hp} {v : V} {d : PyData} {L : List Addr} (fo : formD d = true) (na : namesD fs d = true) (hq : Dq H v d L) : ∃ (r : Addr) (k : Str) (us : List V) (rs : List Str) (ps : List PyData), v = .ref r ∧ d = .tuple (.str k :: ps) ∧ RowV H r k us rs ∧ DqAll H us ps L ∧
    ((pick "rows" us rs = [] ∧ L = [] ∧ inner d = ([], []) ∧ k ≠ "same" ∧ k ≠ "empty") ∨
     ∃ (u1 : List V) (pa pb : Addr) (as bs : List PyData) (La Lb : List Addr), us = u1 ++ [.ref pa, .ref pb] ∧ pick "rows" us rs = [.ref pa, .ref pb] ∧ Dq H (.ref pa) (.list as) La ∧ Dq H (.ref pb) (.list bs) Lb ∧ L = La ++ Lb ∧ inner d = (as, bs) ∧ (k = "same" ∨ k = "empty")) := by
  obtain ⟨k, ps, rs, rfl, hl, hp, alt⟩ := row_data fo na
  cases hq with
  | @tup r xs _ _ hr dv =>
  cases dv with
  | @cons v0 us _ _ L0 M0 hv0 du =>
  cases hv0 with
  | str _ =>
  have hv : RowV H r k us rs := ⟨hr, hl, by rw [du.len, hp.len]⟩
  refine ⟨r, k, us, rs, ps, rfl, rfl, hv, by simpa using du, ?_⟩
  rcases alt with ⟨n1, n2, nr, fl, e⟩ | ⟨qs, ps0, as, bs, hk, rfl, hn, rfl, hlen, fl, e⟩
  · exact .inl ⟨pick_none nr, du.flat fl, e, n1, n2⟩
  · obtain ⟨u1, u2, L1, L2, rfl, e2, d1, d2⟩ := du.split
    have z := d1.flat fl
    subst z
    cases d2 with
    | @cons va ur _ _ La Lr qa e3 =>
    cases e3 with
    | @cons vb ur2 _ _ Lb Lr2 qb e4 =>
    cases e4
    obtain ⟨pa, rfl⟩ : ∃ pa, va = .ref pa := by cases qa; exact ⟨_, rfl⟩
    obtain ⟨pb, rfl⟩ : ∃ pb, vb = .ref pb := by cases qb; exact ⟨_, rfl⟩
    refine .inr ⟨u1, pa, pb, as, bs, La, Lb, rfl, ?_, qa, qb, ?_, e, hk⟩
    · rw [pick_append (by rw [d1.len, hlen]), pick_none hn, List.nil_append, pick_cons, if_pos rfl, pick_cons, if_pos rfl]
      rfl
    · rw [e2]
      simp
def spInnerY (K : PySem.W.Frag) (fs : List Str) : Sp := fun vs H Q _ => ∃ (v : V) (q : Addr) (d : PyData) (L : List Addr) (bs : List Int), vs = [v, .ref q] ∧ formD d = true ∧ namesD fs d = true ∧ Sm d ∧ Dq H v d L ∧ SqT K H q (bs.map V.int) ∧ bs.length ≤ 80 ∧
  ∀ (b : Addr) (ys : List V) (M : List Addr) (H' : Hp), Same H H' → H b = none → H' b = some (.lst ys) → DqAll H' ys ((innerP bs d).map pd) M → (∀ x ∈ M, x ∈ L) → Q (.ref b) H'
section
variable {P : Program} {w : World} {K : PySem.W.Frag} {mg : Str → Option Value} {base : Heap}
set_option maxHeartbeats 4000000 in
theorem ok_inner_rows_y {f fB fP : Addr} {fd fdB fdP : FuncData} {fs : List Str} (F : Fun K "inner_rows" "inner_rows" S_inner_rows f fd) (B : Bl mg) (d_branches : Df K mg "branches" S_branches fB fdB P_branches) (G_branches : FnOk P w K mg base CX0 1 fB fdB P_branches (spPartsOf "rows"))
    (d_placed_rows : Df K mg "placed_rows" S_placed_rows fP fdP P_placed_rows) (G_placed_rows : FnOk P w K mg base CX0 1 fP fdP P_placed_rows (spPlaced K)) : FnOk P w K mg base CX0 2 f fd P_inner_rows (spInnerY K fs) := by
  refine F.ok sc_inner_rows (fun vs H Q E h => ?_) (fun cdv A outer s H vs Q E hr h => ?_)
  · obtain ⟨v, q, d, L, bs, rfl, _⟩ := h
    rfl
  · obtain ⟨v, q, d, L, bs, rfl, fo, na, sm, hq, hbs, b80, kk⟩ := h
    have hr_branches : Room 1 _ := hr.mono (by decide)
    have hr_placed_rows : Room 1 _ := hr.mono (by decide)
    have hthere := hq.there
    obtain ⟨sa1, sb1, la1, lb1⟩ := sm_inner sm
    obtain ⟨r, k, us, rs, ps, rfl, ed, RV, dA, alt⟩ := row_viewX fo na hq
    -- the lists inside
    obtain ⟨lds, L', hl, sub0, each, ein⟩ : ∃ (lds : List PyData) (L' : List Addr), DqAll H (pick "rows" us rs) lds L' ∧ (∀ x ∈ L', x ∈ L) ∧ (∀ ld ∈ lds, ∃ cs : List PyData, ld = .list cs ∧ cs.length ≤ 100) ∧
        ((lds = [] ∧ inner d = ([], [])) ∨ ∃ as bs, lds = [.list as, .list bs] ∧ inner d = (as, bs)) := by
      rcases alt with ⟨e1, e2, e3, n1, n2⟩ | ⟨u1, pa, pb, as, bs, La, Lb, rfl, e1, qa, qb, e2, e3, hk⟩
      · exact ⟨[], [], by rw [e1]; exact .nil, fun _ m => (nomatch m), fun _ m => (nomatch m), .inl ⟨rfl, e3⟩⟩
      · rw [e3] at la1 lb1
        refine ⟨[.list as, .list bs], _, by rw [e1]; exact .cons qa (.cons qb .nil), fun x m => by rw [e2]; rwa [List.append_nil] at m, fun ld h => ?_, .inr ⟨as, bs, rfl, e3⟩⟩
        rcases List.mem_cons.mp h with rfl | h
        · exact ⟨as, rfl, la1⟩
        · rw [List.mem_singleton.mp h]
          exact ⟨bs, rfl, lb1⟩
    obtain ⟨pf, hpf⟩ : ∃ pf : List PyData → List (List Int × PyData), pf = fun l => (l.zipIdx.flatMap fun p => match p.1 with | .list cs => placed (bs ++ [(p.2 : Int)]) cs | _ => []) := ⟨_, rfl⟩
    have pf_take : ∀ {i : Nat} {cs : List PyData}, lds[i]? = some (.list cs) → pf (lds.take (i + 1)) = pf (lds.take i) ++ placed (bs ++ [(i : Int)]) cs := by
      intro i cs h
      have hi : i < lds.length := (List.getElem?_eq_some_iff.mp h).1
      have e : (lds.take i).length = i := by rw [List.length_take]; omega
      rw [hpf]
      show ((lds.take (i + 1)).zipIdx.flatMap _) = (lds.take i).zipIdx.flatMap _ ++ _
      rw [take_next h, List.zipIdx_append, List.flatMap_append]
      simp [e]
    have pf_all : pf lds = innerP bs d := by
      rcases ein with ⟨e1, e2⟩ | ⟨as, bs', e1, e2⟩
      · rw [e1, hpf]
        unfold innerP
        rw [e2]
        rfl
      · rw [e1, hpf]
        unfold innerP
        rw [e2]
        simp
    have l2 : lds.length ≤ 2 := by
      rcases ein with ⟨e1, _⟩ | ⟨as, bs', e1, _⟩ <;> rw [e1] <;> simp
    have pf_len : ∀ i, (pf (lds.take i)).length ≤ 200 := by
      intro i
      have hle : ∀ l : List PyData, (∀ ld ∈ l, ∃ cs : List PyData, ld = .list cs ∧ cs.length ≤ 100) → ∀ k, ((l.zipIdx k).flatMap fun p => match p.1 with | .list cs => placed (bs ++ [(p.2 : Int)]) cs | _ => []).length ≤ 100 * l.length := by
        intro l
        induction l with
        | nil => intro _ k; exact Nat.le_refl _
        | cons x l ih =>
          intro h k
          obtain ⟨cs, rfl, c100⟩ := h x (List.mem_cons_self ..)
          have := ih (fun ld m => h ld (List.mem_cons_of_mem _ m)) (k + 1)
          rw [List.zipIdx_cons, List.flatMap_cons, List.length_append, List.length_cons]
          show (placed _ cs).length + _ ≤ _
          rw [placed_len]
          omega
      have h1 := hle (lds.take i) (fun ld m => each ld (List.mem_of_mem_take m)) 0
      rw [hpf]
      have h2 : (lds.take i).length ≤ 2 := Nat.le_trans (by rw [List.length_take]; exact Nat.min_le_right _ _) l2
      exact Nat.le_trans h1 (by omega)
    refine ⟨_, (pss_cons (ps_set (i := 2) sc_inner_rows.nd rfl (by first | exact Or.inl rfl | exact Or.inr rfl) (pe_lst pa_nil))
 (pss_cons (ps_for PassesOwn.never rfl (pi_enum (by rfl) B.m_enumerate (pa_cons (pe_call G_branches hr_branches rfl d_branches.g d_branches.F.kp d_branches.b .nil pass0 (pa_cons (pv 0) pa_nil)) pa_nil)) (pg_tup rfl (pgs_cons (pg_name (i := 3) sc_inner_rows.nd rfl (by first | exact Or.inl rfl | exact Or.inr rfl)) (pgs_cons (pg_name (i := 4) sc_inner_rows.nd rfl (by first | exact Or.inl rfl | exact Or.inr rfl)) pgs_nil))) (pss_one (ps_expr (pe_bm PySem.F.plainAttrs_list PySem.F.slot_list_extend PySem.F.type_list_extend mt_extend (pv 2) (pa_cons (pe_call G_placed_rows hr_placed_rows rfl d_placed_rows.g d_placed_rows.F.kp d_placed_rows.b .nil pass0 (pa_cons (pv 4) (pa_cons (pe_op op_catA (pv 1) (pe_tup (pa_cons (pv 3) pa_nil))) pa_nil))) pa_nil)))))
 (pss_one (ps_ret (pv 2))))), ?_⟩
    refine ⟨Nat.zero_le _, fun R hR => ?_⟩
    have s0 := same_new (o := .lst []) hR
    refine ⟨_, rfl, r, k, us, rs, rfl, RV.same s0, fun b H1 s1 hb h1 => ⟨b, _, rfl, SqL.of h1, ?_⟩⟩
    have s01 := s0.trans s1
    refine for_enumL (xs := pick "rows" us rs) (fun i σ G2 => ∃ (z3 z4 : Option V) (ys : List V) (M : List Addr), σ = [some (.ref r), some (.ref q), some (.ref R), z3, z4] ∧ Same H G2 ∧ G2 b = some (.lst (pick "rows" us rs)) ∧ G2 R = some (.lst ys) ∧ DqAll G2 ys ((pf (lds.take i)).map pd) M ∧ (∀ x ∈ M, x ∈ L)) ⟨_, _, [], [], rfl, s01, h1, s1 _ _ upd_same, ?_, fun x m => nomatch m⟩ ?_ ?_ ?_
    · rw [hpf]
      exact .nil
    · rintro i σ G2 ⟨z3, z4, ys, M, rfl, s2, h2, hy, dy, sub⟩
      exact SqL.of h2
    · rintro i x T σ G2 hx ⟨z3, z4, ys, M, rfl, s2, h2, hy, dy, sub⟩ hT
      have s3 := same_new (o := .tup [.int (i : Nat), x]) hT
      obtain ⟨ld, N, hld, hqx, sN⟩ := hl.get hx
      obtain ⟨cs, rfl, c100⟩ := each ld (List.mem_of_getElem? hld)
      obtain ⟨pa, rfl⟩ : ∃ pa, x = .ref pa := by cases hqx; exact ⟨_, rfl⟩
      have bR : b ≠ R := fun z => by rw [z, upd_same] at hb; cases hb
      refine ⟨T, _, rfl, SqT.of upd_same, rfl, _, _, rfl, _, _, rfl, rfl, ?_⟩
      refine ⟨_, rfl, .inl ⟨rfl, _, SqL.of (s3 _ _ hy)⟩, _, rfl, _, rfl, _, rfl, (by show 1 ≤ sizeLine; decide), fun t1 ht1 => ?_⟩
      have s4 := s3.trans (same_new (o := .tup [.int (i : Nat)]) ht1)
      have done : ∀ {G4 G5 : Hp} {b5 : Addr} {ys5 : List V} {M5 : List Addr}, Same G2 G4 → Same G4 G5 → G4 b5 = none → G5 b5 = some (.lst ys5) → DqAll G5 ys5 ((placed (bs ++ [(i : Int)]) cs).map pd) M5 → (∀ x ∈ M5, x ∈ L) →
          ys.length + ys5.length ≤ sizeLine ∧ ∃ (z3 z4 : Option V) (ys' : List V) (M' : List Addr), [some (.ref r), some (.ref q), some (.ref R), some (.int (i : Nat)), some (.ref pa)] = [some (.ref r), some (.ref q), some (.ref R), z3, z4] ∧ Same H (upd G5 R (.lst (ys ++ ys5))) ∧ (upd G5 R (.lst (ys ++ ys5))) b = some (.lst (pick "rows" us rs)) ∧ (upd G5 R (.lst (ys ++ ys5))) R = some (.lst ys') ∧ DqAll (upd G5 R (.lst (ys ++ ys5))) ys' ((pf (lds.take (i + 1))).map pd) M' ∧ (∀ x ∈ M', x ∈ L) := by
        intro G4 G5 b5 ys5 M5 sa sb hb5 h5 d5 sub5
        have sab := sa.trans sb
        have hR5 := sab _ _ hy
        refine ⟨?_, _, _, ys ++ ys5, M ++ M5, rfl, fun x o e => (upd_ne (ne_of_none e hR)).trans (sab _ _ (s2 _ _ e)), (upd_ne bR).trans (sab _ _ h2), upd_same, ?_, fun x m => (List.mem_append.mp m).elim (sub x) (sub5 x)⟩
        · have h1 := dy.len
          have h2 := d5.len
          rw [List.length_map] at h1 h2
          rw [placed_len] at h2
          have := pf_len i
          exact Nat.le_of_lt (small1000 (by omega))
        · have kp : ∀ {X : List Addr}, (∀ x ∈ X, x ∈ L) → KeepL X G5 (upd G5 R (.lst (ys ++ ys5))) := fun h => by
            refine ⟨fun b m => upd_ne fun z => ?_, fun b us e => (upd_ne (fun z : b = R => by rw [z, hR5] at e; cases e)).trans e⟩
            obtain ⟨us, e⟩ := hthere b (h b m)
            rw [z, hR] at e
            cases e
          rw [pf_take hld, List.map_append]
          exact ((dy.same sab).keep (kp sub)).append (d5.keep (kp sub5))
      refine ⟨q, t1, bs.map V.int, [.int (i : Int)], rfl, rfl, sqt_same (s2.trans s4) hbs, SqT.of upd_same, ?_, fun e => ?_, fun _ e => (nomatch e), fun _ _ p2 hp2 => ?_⟩
      · rw [List.length_map]
        exact Nat.le_of_lt (small1000 (by show bs.length + 1 ≤ 1000; omega))
      · refine ⟨pa, t1, cs, N, bs ++ [(i : Int)], rfl, hqx.same (s2.trans s4), SqT.of (by rw [upd_same, List.map_append, e]; rfl), c100, by rw [List.length_append]; show bs.length + 1 ≤ 90; omega, fun b5 ys5 M5 G5 s5 hb5 h5 d5 sub5 => ?_⟩
        obtain ⟨z1, z2⟩ := done s4 s5 hb5 h5 d5 fun x m => sub0 x (sN x (sub5 x m))
        exact ⟨R, b5, ys, ys5, rfl, rfl, (s4.trans s5) _ _ hy, h5, z1, z2⟩
      · have s6 := s4.trans (same_new (o := .tup (bs.map V.int ++ [V.int (i : Int)])) hp2)
        refine ⟨pa, p2, cs, N, bs ++ [(i : Int)], rfl, hqx.same (s2.trans s6), SqT.of (by rw [upd_same, List.map_append]; rfl), c100, by rw [List.length_append]; show bs.length + 1 ≤ 90; omega, fun b5 ys5 M5 G5 s5 hb5 h5 d5 sub5 => ?_⟩
        obtain ⟨z1, z2⟩ := done s6 s5 hb5 h5 d5 fun x m => sub0 x (sN x (sub5 x m))
        exact ⟨R, b5, ys, ys5, rfl, rfl, (s6.trans s5) _ _ hy, h5, z1, z2⟩
    · rintro σ G2 ⟨z3, z4, ys, M, rfl, s2, h2, hy, dy, sub⟩
      rw [hl.len, List.take_length, pf_all] at dy
      exact ⟨_, rfl, kk R ys M G2 s2 hR hy dy sub⟩
end
end TW
set_option Elab.async false
set_option linter.all false
set_option maxRecDepth 100000
namespace TW
open PySem PySem.Spec PyProof.Rows L2 TL
def spCheckedY (K : PySem.W.Frag) (CP : Addr) (fs : List Str) : Sp := fun vs H Q E => ∃ (a f : Addr) (ds : List PyData) (L : List Addr), vs = [.ref a, .ref f] ∧ Dq H (.ref a) (.list ds) L ∧ ds.length ≤ 100 ∧ (∀ d ∈ ds, Sm d) ∧ (walkD 4 [] ds).length ≤ 500 ∧ (SqL K H f (fs.map V.str) ∨ SqT K H f (fs.map V.str)) ∧
  (faultW fs [] (walkD 4 [] ds) = none → ∀ (b : Addr) (ys : List V) (M : List Addr) (H' : Hp), Same H H' → H b = none → H' b = some (.lst ys) → DqAll H' ys ((walkD 4 [] ds).map pd) M → (∀ x ∈ M, x ∈ L) → Q (.ref b) H') ∧
  (∀ part pl, faultW fs [] (walkD 4 [] ds) = some (part, pl) → ePl CP part pl H E)
/-- rows found, and rows still to be gone through -/
structure CInvY (ds : List PyData) (L : List Addr) (H : Hp) (F R A : Addr) (fd td : List (List Int × PyData)) (ys zs : List V) (G : Hp) : Prop where
  cS : Same H G
  cF : G F = some (.lst ys)
  cR : G R = some (.lst ((fd.flatMap fun p => readersOf p.2).map V.str))
  cA : G A = some (.lst zs.reverse)
  cY : ∃ M, DqAll G ys (fd.map pd) M ∧ ∀ x ∈ M, x ∈ L
  cZ : ∃ M, DqAll G zs (td.map pd) M ∧ ∀ x ∈ M, x ∈ L
  cT : ∀ p ∈ td, TdX p
  cW : fd ++ td.flatMap wX = walkD 4 [] ds
section
variable {P : Program} {w : World} {K : PySem.W.Frag} {mg : Str → Option Value} {base : Heap}
set_option maxHeartbeats 4000000 in
theorem ok_checked_rows_y {f0 fC fP fI CP : Addr} {fd0 fdC fdP fdI : FuncData} {fs : List Str} (F0 : Fun K "checked_rows" "checked_rows" S_checked_rows f0 fd0) (B : Bl mg) (d_check_row : Df K mg "check_row" S_check_row fC fdC P_check_row) (G_check_row : FnOk P w K mg base (L2.CX P w) 6 fC fdC P_check_row (spCheckY K CP fs))
    (d_placed_rows : Df K mg "placed_rows" S_placed_rows fP fdP P_placed_rows) (G_placed_rows : FnOk P w K mg base CX0 1 fP fdP P_placed_rows (spPlaced K)) (d_inner_rows : Df K mg "inner_rows" S_inner_rows fI fdI P_inner_rows) (G_inner_rows : FnOk P w K mg base CX0 2 fI fdI P_inner_rows (spInnerY K fs)) :
    FnOk P w K mg base (L2.CX P w) 7 f0 fd0 P_checked_rows (spCheckedY K CP fs) := by
  refine F0.okX sc_checked_rows (fun vs H Q E h => ?_) (fun cdv Ar outer s H vs Q E hr h => ?_)
  · obtain ⟨a, f, ds, L, rfl, _⟩ := h
    rfl
  · obtain ⟨a, f, ds, L, rfl, hd, l100, sms, r500, hS, kk, ee⟩ := h
    have hr_check_row : Room 6 _ := hr.mono (by decide)
    have hr_placed_rows : Room 1 _ := hr.mono (by decide)
    have hr_inner_rows : Room 2 _ := hr.mono (by decide)
    have hL := hd.there
    refine ⟨_, (pss_cons (ps_set (i := 2) sc_checked_rows.nd rfl (by first | exact Or.inl rfl | exact Or.inr rfl) (pe_lst pa_nil))
 (pss_cons (ps_set (i := 3) sc_checked_rows.nd rfl (by first | exact Or.inl rfl | exact Or.inr rfl) (pe_lst pa_nil))
 (pss_cons (ps_set (i := 4) sc_checked_rows.nd rfl (by first | exact Or.inl rfl | exact Or.inr rfl) (pe_callTy call_list_of (by rfl) B.m_list (by decide +kernel) (pa_cons (pe_revL (pe_call G_placed_rows hr_placed_rows rfl d_placed_rows.g d_placed_rows.F.kp d_placed_rows.b .nil pass0 (pa_cons (pv 0) (pa_cons (pe_tup pa_nil) pa_nil)))) pa_nil)))
 (pss_cons (ps_while (passes_of rfl) (pt_truth (pv 4) (by intro _; rfl)) (pss_cons (ps_asg (pe_bm0 PySem.F.plainAttrs_list PySem.F.slot_list_pop PySem.F.type_list_pop mt_pop (pv 4)) (pg_tup rfl (pgs_cons (pg_name (i := 5) sc_checked_rows.nd rfl (by first | exact Or.inl rfl | exact Or.inr rfl)) (pgs_cons (pg_name (i := 6) sc_checked_rows.nd rfl (by first | exact Or.inl rfl | exact Or.inr rfl)) pgs_nil))))
 (pss_cons (ps_expr (pe_call G_check_row hr_check_row rfl d_check_row.g d_check_row.F.kp d_check_row.b .nil (passT (takes_of rfl rfl rfl rfl)) (pa_cons (pv 6) (pa_cons (pv 5) (pa_cons (pv 1) (pa_cons (pv 3) pa_nil))))))
 (pss_cons (ps_cut (ps_if (pt_cmpR op_eq (pe_ix ix_tup (pv 6) pe_int (fun _ _ => rfl)) pe_str (nomark _)) (pss_one (ps_expr (pe_bm PySem.F.plainAttrs_list PySem.F.slot_list_append PySem.F.type_list_append mt_append (pv 3) (pa_cons (pe_ix ix_tup (pv 6) pe_int (fun _ _ => rfl)) pa_nil)))) pss_nil))
 (pss_cons (ps_expr (pe_bm PySem.F.plainAttrs_list PySem.F.slot_list_append PySem.F.type_list_append mt_append (pv 2) (pa_cons (pe_tup (pa_cons (pv 5) (pa_cons (pv 6) pa_nil))) pa_nil)))
 (pss_one (ps_expr (pe_bm PySem.F.plainAttrs_list PySem.F.slot_list_extend PySem.F.type_list_extend mt_extend (pv 4) (pa_cons (pe_revL (pe_call G_inner_rows hr_inner_rows rfl d_inner_rows.g d_inner_rows.F.kp d_inner_rows.b .nil pass0 (pa_cons (pv 6) (pa_cons (pv 5) pa_nil)))) pa_nil)))))))))
 (pss_one (ps_ret (pv 2))))))), ?_⟩
    refine ⟨Nat.zero_le _, fun F hF => ?_⟩
    have s0 := same_new (o := .lst []) hF
    refine ⟨Nat.zero_le _, fun R hR => ?_⟩
    have FR : F ≠ R := ne_of_none upd_same hR
    have s1 := s0.trans (same_new (o := .lst []) hR)
    refine ⟨_, rfl, Nat.zero_le _, fun t ht => ?_⟩
    have s2 := s1.trans (same_new (o := .tup []) ht)
    refine ⟨a, t, ds, L, [], rfl, hd.same s2, SqT.of upd_same, l100, by show 0 ≤ 90; omega, fun b ys M H3 s3 hb h3 d3 sub3 => ⟨b, ys, rfl, SqL.of h3, fun p1 hp1 => ⟨p1, _, rfl, .inl (SqL.of upd_same), fun A hA => ?_⟩⟩⟩
    have s4 := s2.trans (s3.trans ((same_new (o := .lst ys.reverse) hp1).trans (same_new (o := .lst ys.reverse) hA)))
    have s34 := s3.trans ((same_new (o := .lst ys.reverse) hp1).trans (same_new (o := .lst ys.reverse) hA))
    have hF1 := s34 _ _ ((upd_ne (ne_of_none ((upd_ne FR).trans upd_same) ht)).trans ((upd_ne FR).trans (upd_same (H := H) (a := F) (o := .lst []))))
    have hR1 := s34 _ _ ((upd_ne (ne_of_none upd_same ht)).trans (upd_same (H := upd H F (.lst [])) (a := R) (o := .lst [])))
    have FA : F ≠ A := fun z => by
      have := (s3.trans (same_new (o := .lst ys.reverse) hp1)) _ _ ((upd_ne (ne_of_none ((upd_ne FR).trans upd_same) ht)).trans ((upd_ne FR).trans (upd_same (H := H) (a := F) (o := .lst []))))
      rw [z, hA] at this
      cases this
    have RA : R ≠ A := fun z => by
      have := (s3.trans (same_new (o := .lst ys.reverse) hp1)) _ _ ((upd_ne (ne_of_none upd_same ht)).trans (upd_same (H := upd H F (.lst [])) (a := R) (o := .lst [])))
      rw [z, hA] at this
      cases this
    have hA0 : H A = none := (s2.trans (s3.trans (same_new (o := .lst ys.reverse) hp1))).free hA
    have hR0 : H R = none := s0.free hR
    refine ⟨fun m σ G => ∃ (z5 z6 : Option V) (fd td : List (List Int × PyData)) (ys zs : List V), σ = [some (.ref a), some (.ref f), some (.ref F), some (.ref R), some (.ref A), z5, z6] ∧ CInvY ds L H F R A fd td ys zs G ∧ faultW fs (fd.flatMap fun q => readersOf q.2) (td.flatMap wX) = faultW fs [] (walkD 4 [] ds) ∧ m = (td.flatMap wX).length, ⟨_, _, _, [], placed [] ds, [], ys, rfl, ⟨s4, hF1, hR1, upd_same, ⟨[], .nil, fun x m => nomatch m⟩, ⟨M, d3.same ((same_new (o := .lst ys.reverse) hp1).trans (same_new (o := .lst ys.reverse) hA)), sub3⟩, fun p hp => ?_, (walk_placedX (n := 4) (bs := []) rfl).symm⟩, congrArg (faultW fs []) (walk_placedX (n := 4) (bs := []) rfl).symm, rfl⟩, ?_⟩
    · obtain ⟨h1, h2⟩ := placed_mem hp
      exact ⟨by rw [h2]; show 0 + 1 ≤ 9; omega, placed_small hp (fun i m => nomatch m) l100, sms _ h1⟩
    rintro m σ G ⟨z5, z6, fd, td, ys, zs, rfl, I, DU, rfl⟩
    obtain ⟨MY, dY, subY⟩ := I.cY
    obtain ⟨MZ, dZ, subZ⟩ := I.cZ
    refine ⟨_, rfl, !zs.reverse.isEmpty, .inl ⟨_, SqL.of I.cA, rfl⟩, ?_⟩
    cases td with
    | nil =>
      have ez : zs = [] := by cases dZ; rfl
      subst ez
      refine iteF ?_
      have eW := I.cW
      rw [List.flatMap_nil, List.append_nil] at eW
      rw [eW] at dY
      rw [List.flatMap_nil] at DU
      exact ⟨_, rfl, kk DU.symm F ys MY G I.cS hF I.cF dY subY⟩
    | cons p td =>
      obtain ⟨z, zs', rfl⟩ : ∃ z zs', zs = z :: zs' := by cases dZ; exact ⟨_, _, rfl⟩
      cases dZ with
      | @cons _ _ _ _ N1 N2 qz dZ' =>
      have hb : (!(z :: zs').reverse.isEmpty) = true := by simp
      rw [hb]
      refine iteT ?_
      obtain ⟨t1, pl, v, rfl, ht1, hpl, hv⟩ := pd_inv qz
      have tdp := I.cT p (List.mem_cons_self ..)
      have smp := tdp.2.2
      have subN1 : ∀ x ∈ N1, x ∈ L := fun x m => subZ x (List.mem_append_left _ m)
      have subN2 : ∀ x ∈ N2, x ∈ L := fun x m => subZ x (List.mem_append_right _ m)
      refine ⟨fun σ' G' => ∃ (z5 z6 : Option V) (fd' td' : List (List Int × PyData)) (ys' zs2 : List V), σ' = [some (.ref a), some (.ref f), some (.ref F), some (.ref R), some (.ref A), z5, z6] ∧ CInvY ds L H F R A fd' td' ys' zs2 G' ∧ faultW fs (fd'.flatMap fun q => readersOf q.2) (td'.flatMap wX) = faultW fs [] (walkD 4 [] ds) ∧ (td'.flatMap wX).length < ((p :: td).flatMap wX).length, fun σ' G' ⟨y5, y6, fd', td', ys', zs2, e1, I', D', l'⟩ => ⟨_, l', y5, y6, fd', td', ys', zs2, e1, I', D', rfl⟩, ?_⟩
      have erev : (V.ref t1 :: zs').reverse = zs'.reverse ++ [V.ref t1] := List.reverse_cons
      refine ⟨_, rfl, .inl ⟨rfl, _, SqL.of I.cA⟩, A, _, .ref t1, rfl, rfl, I.cA, ?_, ?_⟩
      · rw [erev, List.length_append, List.getElem?_append_right (by simp)]
        simp
      have edl : (V.ref t1 :: zs').reverse.dropLast = zs'.reverse := by rw [erev, List.dropLast_concat]
      rw [edl]
      obtain ⟨G1, e1⟩ : ∃ G1 : Hp, G1 = upd G A (.lst zs'.reverse) := ⟨_, rfl⟩
      have k1 : ∀ {M : List Addr}, (∀ x ∈ M, x ∈ L) → KeepL M G G1 := fun h => by rw [e1]; exact keepN hA0 hL h I.cA
      have k0 : KeepL [] G G1 := k1 fun x m => nomatch m
      have c1 : G1 A = some (.lst zs'.reverse) := by rw [e1]; exact upd_same
      have f1 : G1 F = some (.lst ys) := by rw [e1]; exact (upd_ne FA).trans I.cF
      have r1 : G1 R = some (.lst ((fd.flatMap fun q => readersOf q.2).map V.str)) := by rw [e1]; exact (upd_ne RA).trans I.cR
      have sG1 : Same H G1 := fun b o e => by rw [e1]; exact (upd_ne (ne_of_none e hA0)).trans (I.cS _ _ e)
      rw [← e1]
      refine ⟨t1, _, rfl, SqT.of (k0.t _ _ ht1), rfl, _, _, rfl, _, _, rfl, rfl, ?_⟩
      have hv1 := hv.keep (k1 subN1)
      have hpl1 := k0.t _ _ hpl
      have eW := I.cW
      have eF : (p :: td).flatMap wX = p :: ((Wn (flX p.1) (p.1 ++ [0]) (inner p.2).1 ++ Wn (flX p.1) (p.1 ++ [1]) (inner p.2).2) ++ td.flatMap wX) := by
        rw [List.flatMap_cons]
        rfl
      refine ⟨_, rfl, _, rfl, _, rfl, _, rfl, v, pl, f, R, p.2, N1, p.1, _, rfl, hv1, smp, hpl1, tdp.1, tdp.2.1, seq_same sG1 hS, r1, ?_, fun part hpart => ?_⟩
      rotate_left
      · refine (ee part p.1 ?_).same sG1
        rw [← DU, eF]
        exact faultW_some hpart
      intro hnf G2 s5
      have hnf : faultOf fs (fd.flatMap fun q => readersOf q.2) p = none := hnf
      obtain ⟨h7, fo, na, enod⟩ := faultOf_none hnf
      obtain ⟨r, k, us, rs, ps, rfl, ed, RV, dA, alt⟩ := row_viewX fo na (hv1.same s5)
      have bound : fd.length + (td.flatMap wX).length + 1 ≤ 500 := by
        have e1 := congrArg List.length eW
        rw [List.length_append, List.flatMap_cons, List.length_append] at e1
        have e2 : 1 ≤ (wX p).length := by
          unfold wX
          simp
        omega
      have tdl : td.length ≤ (td.flatMap wX).length := by
        clear eW bound enod I dZ' subZ DU eF
        induction td with
        | nil => exact Nat.le_refl _
        | cons q td ih =>
          rw [List.flatMap_cons, List.length_append, List.length_cons]
          have : 1 ≤ (wX q).length := by
            unfold wX
            simp
          omega
      have rdl : ((fd.flatMap fun q => readersOf q.2)).length ≤ 500 := by
        have h1 : ∀ l : List (List Int × PyData), (l.flatMap fun q => readersOf q.2).length ≤ l.length := by
          intro l
          induction l with
          | nil => exact Nat.le_refl _
          | cons q l ih =>
            rw [List.flatMap_cons, List.length_append, List.length_cons]
            have : (readersOf q.2).length ≤ 1 := by
              unfold readersOf
              split <;> simp
            omega
        have := h1 fd
        omega
      have lF : ∀ {M : List Addr} {o : HO} {T T' : Hp}, True := fun {_ _ _ _} => trivial
      refine ⟨fun σ' G' => σ' = [some (.ref a), some (.ref f), some (.ref F), some (.ref R), some (.ref A), some (.ref pl), some (.ref r)] ∧ G' F = some (.lst ys) ∧ G' A = some (.lst zs'.reverse) ∧ G' R = some (.lst (((fd ++ [p]).flatMap fun q => readersOf q.2).map V.str)) ∧ Same H G' ∧ (∀ M : List Addr, (∀ x ∈ M, x ∈ L) → KeepL M G2 G'), ?_, ?_⟩
      · refine ⟨_, rfl, r, _, 0, .str k, rfl, rfl, SqT.of RV.t, atI_of (j := 0) rfl rfl, rfl, _, rfl, ite_dec (fun hb => ?_) (fun hb => ?_)⟩
        · have hk : k = "watch" := V.str.inj (of_decide_eq_true hb)
          obtain ⟨z, ps', ep, hz, ez⟩ := watch_view fo na ed hk
          obtain ⟨us', rfl⟩ : ∃ us', us = .str z :: us' := by
            rw [ep] at dA
            cases dA with
            | cons q1 _ =>
              cases q1
              exact ⟨_, rfl⟩
          refine ⟨_, rfl, .inl ⟨rfl, _, SqL.of (s5 _ _ r1)⟩, _, rfl, r, _, 1, .str z, rfl, rfl, SqT.of RV.t, atI_of (j := 1) rfl rfl, R, _, _, rfl, rfl, s5 _ _ r1, by rw [List.length_map]; exact small1000 (by omega), rfl, ?_⟩
          refine ⟨(upd_ne FR).trans (s5 _ _ f1), (upd_ne RA.symm).trans (s5 _ _ c1), ?_, fun b o e => (upd_ne (ne_of_none e hR0)).trans (s5 _ _ (sG1 _ _ e)), fun M h => keepN hR0 hL h (s5 _ _ r1)⟩
          rw [upd_same, List.flatMap_append, List.map_append, List.flatMap_cons, List.flatMap_nil, List.append_nil, ez]
          rfl
        · have hk : ¬ k = "watch" := fun e => of_decide_eq_false hb (by rw [e])
          refine ⟨rfl, s5 _ _ f1, s5 _ _ c1, ?_, sG1.trans s5, fun M h => ⟨fun b m => rfl, fun b xs e => e⟩⟩
          rw [List.flatMap_append, List.flatMap_cons, List.flatMap_nil, List.append_nil, ed, readers_none hk, List.append_nil]
          exact s5 _ _ r1
      rintro σ' G3 ⟨rfl, f3, c3, r3, sG3, k3⟩
      have ylen : ys.length ≤ 500 := by
        have := dY.len
        rw [List.length_map] at this
        omega
      refine ⟨_, rfl, .inl ⟨rfl, _, SqL.of f3⟩, _, rfl, _, rfl, (by show 2 ≤ sizeLine; decide), fun t2 ht2 => ⟨F, ys, _, rfl, rfl, (upd_ne (ne_of_none f3 ht2)).trans f3, small1000 (by omega), ?_⟩⟩
      have s6 := same_new (o := .tup [V.ref pl, V.ref r]) ht2
      obtain ⟨G4, e4⟩ : ∃ G4 : Hp, G4 = upd (upd G3 t2 (.tup [V.ref pl, V.ref r])) F (.lst (ys ++ [V.ref t2])) := ⟨_, rfl⟩
      have k4 : ∀ M : List Addr, (∀ x ∈ M, x ∈ L) → KeepL M (upd G3 t2 (.tup [V.ref pl, V.ref r])) G4 := fun M h => by rw [e4]; exact keepN hF hL h (s6 _ _ f3)
      have f4 : G4 F = some (.lst (ys ++ [V.ref t2])) := by rw [e4]; exact upd_same
      have c4 : G4 A = some (.lst zs'.reverse) := by rw [e4]; exact (upd_ne FA.symm).trans (s6 _ _ c3)
      have r4 : G4 R = some (.lst (((fd ++ [p]).flatMap fun q => readersOf q.2).map V.str)) := by rw [e4]; exact (upd_ne FR.symm).trans (s6 _ _ r3)
      have sG4 : Same H G4 := fun b o e => by rw [e4]; exact (upd_ne (ne_of_none e hF)).trans (s6 _ _ (sG3 _ _ e))
      have kAll : ∀ {M : List Addr} {vs : List V} {es : List PyData}, (∀ x ∈ M, x ∈ L) → DqAll G vs es M → DqAll G4 vs es M := fun {M vs es} h d => ((((d.keep (k1 h)).same s5).keep (k3 _ h)).same s6).keep (k4 _ h)
      have kOne : ∀ {M : List Addr} {u : V} {e : PyData}, (∀ x ∈ M, x ∈ L) → Dq G u e M → Dq G4 u e M := fun {M u e} h d => ((((d.keep (k1 h)).same s5).keep (k3 _ h)).same s6).keep (k4 _ h)
      have k04 := k4 [] fun x m => nomatch m
      have hpl4 : G4 pl = some (.tup (p.1.map V.int)) := k04.t _ _ (s6 _ _ ((k3 [] fun x m => nomatch m).t _ _ (s5 _ _ hpl1)))
      rw [← e4]
      refine ⟨_, rfl, .inl ⟨rfl, _, SqL.of c4⟩, _, rfl, _, rfl, .ref r, pl, p.2, N1, p.1, rfl, fo, na, smp, kOne subN1 hv, SqT.of hpl4, by omega, fun b ysI MI G5 s7 hb5 h5 d5 sub5 => ⟨b, ysI, rfl, SqL.of h5, fun q7 hq7 => ?_⟩⟩
      have s8 := s7.trans (same_new (o := .lst ysI.reverse) hq7)
      have c5 := s8 _ _ c4
      have zlen : zs'.length ≤ 500 := by
        have := dZ'.len
        rw [List.length_map] at this
        omega
      have ilen : ysI.length ≤ 200 := by
        have := d5.len
        rw [List.length_map] at this
        have := sm_innerP smp
        omega
      refine ⟨A, q7, _, _, rfl, rfl, c5, upd_same, ?_, ?_⟩
      · rw [List.length_reverse, List.length_reverse]
        exact Nat.le_of_lt (small1000 (by omega))
      have k8 : ∀ {M : List Addr}, (∀ x ∈ M, x ∈ L) → KeepL M (upd G5 q7 (.lst ysI.reverse)) (upd (upd G5 q7 (.lst ysI.reverse)) A (.lst (zs'.reverse ++ ysI.reverse))) := fun h => keepN hA0 hL h c5
      have subI : ∀ x ∈ MI, x ∈ L := fun x m => subN1 x (sub5 x m)
      have eT : ((innerP p.1 p.2 ++ td).flatMap wX).length < ((p :: td).flatMap wX).length := by
        rw [List.flatMap_append, inner_wX h7, List.flatMap_cons, List.length_append, List.length_append, List.length_append]
        have : (wX p).length = (Wn (flX p.1) (p.1 ++ [0]) (inner p.2).1).length + (Wn (flX p.1) (p.1 ++ [1]) (inner p.2).2).length + 1 := by
          unfold wX
          rw [List.length_cons, List.length_append]
        omega
      refine ⟨_, _, fd ++ [p], innerP p.1 p.2 ++ td, ys ++ [V.ref t2], ysI ++ zs', rfl, ⟨?_, ?_, ?_, ?_, ⟨MY ++ (N1 ++ []), ?_, ?_⟩, ⟨MI ++ N2, ?_, ?_⟩, ?_, ?_⟩, ?_, eT⟩
      · exact fun b o e => (upd_ne (ne_of_none e hA0)).trans (s8 _ _ (sG4 _ _ e))
      · exact (upd_ne FA).trans (s8 _ _ f4)
      · exact (upd_ne RA).trans (s8 _ _ r4)
      · rw [upd_same, List.reverse_append]
      · rw [List.map_append]
        refine (((kAll subY dY).same s8).keep (k8 subY)).snoc (.tup ((k8 (M := []) fun x m => nomatch m).t _ _ (s8 _ _ (k04.t _ _ upd_same))) (.cons (L := []) (.tup ((k8 (M := []) fun x m => nomatch m).t _ _ (s8 _ _ hpl4)) (dq_ints _)) (.cons (((kOne subN1 hv).same s8).keep (k8 subN1)) .nil)))
      · intro x m
        rw [List.append_nil] at m
        exact (List.mem_append.mp m).elim (subY x) (subN1 x)
      · rw [List.map_append]
        exact ((d5.same (same_new hq7)).keep (k8 subI)).append (((kAll subN2 dZ').same s8).keep (k8 subN2))
      · exact fun x m => (List.mem_append.mp m).elim (subI x) (subN2 x)
      · intro q hq
        rcases List.mem_append.mp hq with hq | hq
        · exact tdp.inner h7 hq
        · exact I.cT q (List.mem_cons_of_mem _ hq)
      · rw [← eW, List.flatMap_append, inner_wX h7, List.flatMap_cons]
        unfold wX
        simp
      · rw [← DU, eF]
        rw [faultW_none hnf, List.flatMap_append, List.flatMap_append, inner_wX h7, List.flatMap_cons, List.flatMap_nil, List.append_nil]
end
end TW
set_option Elab.async false
set_option linter.all false
set_option maxRecDepth 100000
namespace TW
open PySem PySem.Spec PyProof.Rows L2 TL
def FewL (l : List (List Int × PyData)) (m : Nat) : Prop := l.length ≤ 20 ∧ m ≤ 6 ∧ (l.map fun e => copiesOf e.2).sum ≤ 4 ∧ (l.flatMap fun e => readersOf e.2).length ≤ 3
def spManyX (K : PySem.W.Frag) (CP : Addr) (ws fs : List Str) : Sp := fun vs H Q E => ∃ (p v : Addr) (ys us : List V) (l : List (List Int × PyData)) (M : List Addr), vs = [.ref p, .ref v] ∧ H p = some (.lst ys) ∧ DqAll H ys (l.map pd) M ∧ (∀ e ∈ l, OkR ws fs e.2) ∧ l.length ≤ 100 ∧ H v = some (.lst us) ∧ us.length ≤ 1000 ∧
  ((l.length ≤ 20 ∧ us.length ≤ 6 ∧ (l.map fun e => copiesOf e.2).sum ≤ 4 ∧ (l.flatMap fun e => readersOf e.2).length ≤ 3 ∧ ∀ H', Same H H' → Q .non H') ∨ (¬ FewL l us.length ∧ ePl CP "many" [] H E))
section
variable {P : Program} {w : World} {K : PySem.W.Frag} {mg : Str → Option Value} {base : Heap}
set_option maxHeartbeats 4000000 in
theorem ok_check_many_x {f CP fX : Addr} {fd : FuncData} {t1 t2 t3 t4 : Tok} {ws fs : List Str} (F : Fun K "check_many" "check_many" S_check_many f fd) (B : Bl mg) (TP : PySem.ErrW.ErrTw P K mg "InvalidProgram" "no program: " " at " CP fX) (m_MOST_ROWS : mg "MOST_ROWS" = some (.int 20 t1)) (m_MOST_VARIABLES : mg "MOST_VARIABLES" = some (.int 6 t2)) (m_MOST_COPIES : mg "MOST_COPIES" = some (.int 4 t3)) (m_MOST_WATCHES : mg "MOST_WATCHES" = some (.int 3 t4)) :
    FnOk P w K mg base (L2.CX P w) 2 f fd P_check_many (spManyX K CP ws fs) := by
  refine F.okX sc_check_many (fun vs H Q E h => ?_) (fun cdv A outer s H vs Q E hr h => ?_)
  · obtain ⟨p, v, ys, us, l, M, rfl, _⟩ := h
    rfl
  · obtain ⟨p, v, ys, us, l, M, rfl, hP, dP, okl, l100, hV, u100, alt⟩ := h
    have hr0 : Room 1 _ := hr
    refine ⟨_, (pss_cons (ps_setLc (i := 2) (own := [("_", 3), ("row", 4)]) (tt := tYes) rfl sc_check_many.nd rfl rfl (sw_true rfl rfl rfl (by decide +kernel)) (pi_list (pv 0)) (blkOk_by (own := [("_", 3), ("row", 4)]) (N := N_check_many) (sc := defScope S_check_many) (by decide +kernel)) (fun _ _ _ _ _ => (pg_tupK (K := K) (n := 2) rfl rfl (pgs_cons (pg_name (i := 3) sc_check_many.nd rfl (by first | exact Or.inl rfl | exact Or.inr rfl)) (pgs_cons (pg_name (i := 4) sc_check_many.nd rfl (by first | exact Or.inl rfl | exact Or.inr rfl)) pgs_nil)))) (fun _ _ _ _ _ => pts_nil) (fun _ _ _ _ _ => (pe_ix (ix_tupK (K := K) rfl) (pv 4) pe_int (fun _ _ => rfl))))
 (pss_cons (ps_if (PW.pt (pw_or (pt_cmpR op_gt (pe_callB call_len_seq (by rfl) B.m_len PySem.boot_len (pa_cons (pv 2) pa_nil)) (pe_glob (v := .int _) rfl m_MOST_ROWS ⟨_, rfl⟩) (nomark _)) (pw_or1 (pt_cmpR op_gt (pe_callB call_len_seq (by rfl) B.m_len PySem.boot_len (pa_cons (pv 1) pa_nil)) (pe_glob (v := .int _) rfl m_MOST_VARIABLES ⟨_, rfl⟩) (nomark _))))) (pss_one (ps_raiseE2 rfl TP hr0 (takes_of rfl rfl rfl rfl) B.m_super (pa_cons pe_str (pa_cons (pe_tup pa_nil) pa_nil)) rfl rfl)) pss_nil)
 (pss_one (ps_if (PW.pt (pw_or (pt_cmpR op_gt (pe_bm PySem.F.plainAttrs_list PySem.F.slot_list_count PySem.F.type_list_count mt_countL (pv 2) (pa_cons pe_str pa_nil)) (pe_glob (v := .int _) rfl m_MOST_COPIES ⟨_, rfl⟩) (nomark _)) (pw_or1 (pt_cmpR op_gt (pe_bm PySem.F.plainAttrs_list PySem.F.slot_list_count PySem.F.type_list_count mt_countL (pv 2) (pa_cons pe_str pa_nil)) (pe_glob (v := .int _) rfl m_MOST_WATCHES ⟨_, rfl⟩) (nomark _))))) (pss_one (ps_raiseE2 rfl TP hr0 (takes_of rfl rfl rfl rfl) B.m_super (pa_cons pe_str (pa_cons (pe_tup pa_nil) pa_nil)) rfl rfl)) pss_nil)))), ?_⟩
    refine ⟨_, rfl, p, rfl, ⟨_, SqL.of hP⟩, fun D hD => lc_list (xs := ys) (fun j G => Same H G ∧ G D = some (.lst (((l.take j).map fun e => kindOf e.2).map V.str))) ⟨same_new hD, upd_same⟩ (fun j G _ h => SqL.of (h.1 _ _ hP)) ?_ ?_⟩
    · rintro j x G hx ⟨sG, hG⟩
      obtain ⟨dd, N, hdj, hq, _⟩ := dP.get hx
      rw [List.getElem?_map] at hdj
      cases el : l[j]? with
      | none => rw [el] at hdj; cases hdj
      | some e =>
      rw [el] at hdj
      have edd : pd e = dd := Option.some.inj hdj
      rw [← edd] at hq
      obtain ⟨t, pl, v', rfl, ht, hpl, hv⟩ := pd_inv hq
      obtain ⟨k, ps, rs, ed, hl, hp⟩ := okl e (List.mem_of_getElem? el)
      obtain ⟨r, us', rfl, hr'⟩ : ∃ r us', v' = .ref r ∧ H r = some (.tup (.str k :: us')) := by
        rw [ed] at hv
        cases hv with
        | tup h1 d1 =>
          cases d1 with
          | cons q1 _ =>
            cases q1
            exact ⟨_, _, rfl, h1⟩
      refine ⟨t, _, rfl, SqT.of (sG _ _ ht), rfl, _, _, rfl, _, _, rfl, rfl, rfl, yes_of ?_⟩
      refine ⟨_, rfl, r, _, 0, .str k, rfl, rfl, SqT.of (sG _ _ hr'), atI_of (j := 0) rfl rfl, _, hG, ?_, fun b o e => (upd_ne (ne_of_none e hD)).trans (sG _ _ e), ?_⟩
      · rw [List.length_map, List.length_map, List.length_take]
        exact small1000 (by omega)
      · have ek : kindOf e.2 = k := by
          rw [ed]
          rfl
        rw [upd_same, take_next el, List.map_append, List.map_append]
        show _ = some (HO.lst (_ ++ [V.str (kindOf e.2)]))
        rw [ek]
    · rintro G ⟨sG, hG⟩
      have el : ys.length = l.length := by rw [dP.len, List.length_map]
      rw [el, List.take_length] at hG
      have raised : ePl CP "many" [] H E → ∀ (W : WX), (∀ cls d σ H', E cls d H' → W cls d σ H') → ∀ D σ, tRaiseE2 K CP W (tCons (tC (.str "many")) (tCons (tTup tNil) tNil)) D σ G := fun e W hW D σ =>
        ⟨Nat.zero_le _, fun q nq => ⟨_, q, [], rfl, by decide, SqT.of upd_same, by decide, (fun i m => nomatch m), fun d hd => hW _ _ _ _ (e _ q d (sG.trans (same_new nq)) upd_same hd)⟩⟩
      have lk : ((l.map fun e => kindOf e.2).map V.str).length = l.length := by rw [List.length_map, List.length_map]
      refine ⟨_, rfl, D, _, rfl, .inl (SqL.of hG), _, _, rfl, rfl, _, rfl, ite_dec (fun hb => ?_) (fun hb1 => ?_)⟩
      · have := of_decide_eq_true hb
        rcases alt with ⟨l20, _⟩ | ⟨_, e⟩
        · omega
        · exact iteT (raised e _ (fun _ _ _ _ z => z) _ _)
      have n1 := of_decide_eq_false hb1
      refine ⟨_, rfl, v, _, rfl, .inl (SqL.of (sG _ _ hV)), _, _, rfl, rfl, _, rfl, ite_dec (fun hb => ?_) (fun hb2 => ?_)⟩
      · have := of_decide_eq_true hb
        rcases alt with ⟨_, u6, _⟩ | ⟨_, e⟩
        · omega
        · exact raised e _ (fun _ _ _ _ z => z) _ _
      have n2 := of_decide_eq_false hb2
      refine ⟨_, rfl, .inl ⟨rfl, _, SqL.of hG⟩, D, _, _, rfl, rfl, SqL.of hG, rfl, flat_strs _, _, _, rfl, rfl, _, rfl, ite_dec (fun hb => ?_) (fun hb3 => ?_)⟩
      · have := of_decide_eq_true hb
        rw [cnt_strs, cnt_copies] at this
        rcases alt with ⟨_, _, c4, _⟩ | ⟨_, e⟩
        · omega
        · exact iteT (raised e _ (fun _ _ _ _ z => z) _ _)
      have n3 := of_decide_eq_false hb3
      rw [cnt_strs, cnt_copies] at n3
      refine ⟨_, rfl, .inl ⟨rfl, _, SqL.of hG⟩, D, _, _, rfl, rfl, SqL.of hG, rfl, flat_strs _, _, _, rfl, rfl, _, rfl, ite_dec (fun hb => ?_) (fun hb4 => ?_)⟩
      · have := of_decide_eq_true hb
        rw [cnt_strs, cnt_readers] at this
        rcases alt with ⟨_, _, _, r3, _⟩ | ⟨_, e⟩
        · omega
        · exact raised e _ (fun _ _ _ _ z => z) _ _
      have n4 := of_decide_eq_false hb4
      rw [cnt_strs, cnt_readers] at n4
      rcases alt with ⟨_, _, _, _, kk⟩ | ⟨bad, _⟩
      · exact kk G sG
      · exact absurd ⟨by omega, by omega, by omega, by omega⟩ bad
end
end TW
set_option Elab.async false
set_option linter.all false
set_option maxRecDepth 100000
namespace TW
open PySem PySem.Spec PyProof.Rows L2 TL
theorem fault_all {fs : List Str} : ∀ {l : List (List Int × PyData)} {seen : List Str}, faultW fs seen l = none → (∀ e ∈ l, formD e.2 = true ∧ namesD fs e.2 = true) ∧ (l.flatMap fun e => readersOf e.2).Nodup ∧ ∀ x ∈ l.flatMap fun e => readersOf e.2, x ∉ seen
  | [], _, _ => ⟨fun _ m => (nomatch m), List.nodup_nil, fun _ m => (nomatch m)⟩
  | e :: l, seen, h => by
    cases hf : faultOf fs seen e with
    | some p => rw [faultW_some hf] at h; cases h
    | none =>
      rw [faultW_none hf] at h
      obtain ⟨a1, a2, a3⟩ := fault_all h
      obtain ⟨_, fo, na, ns⟩ := faultOf_none hf
      rw [List.flatMap_cons]
      refine ⟨fun e' m => ?_, List.nodup_append.mpr ⟨?_, a2, fun x hx y hy e => a3 y hy (List.mem_append_right _ (e ▸ hx))⟩, fun x m => ?_⟩
      · rcases List.mem_cons.mp m with rfl | m
        · exact ⟨fo, na⟩
        · exact a1 e' m
      · unfold readersOf
        split <;> simp
      · rcases List.mem_append.mp m with m | m
        · exact ns x m
        · exact fun hs => a3 x m (List.mem_append_left _ hs)
theorem walk_okA {fs : List Str} {l : List (List Int × PyData)} (h : faultW fs [] l = none) : ∀ e ∈ l, formD e.2 = true ∧ namesD fs e.2 = true := (fault_all h).1
theorem walk_nodup {fs : List Str} {l : List (List Int × PyData)} (h : faultW fs [] l = none) : (l.flatMap fun e => readersOf e.2).Nodup := (fault_all h).2.1
theorem vars_words {fs : List Str} {d : PyData} (fo : formD d = true) (na : namesD fs d = true) : ∀ x ∈ varsOf d, IsW x := by
  intro x m
  unfold varsOf at m
  obtain ⟨p, hp, e⟩ := List.mem_filterMap.mp m
  unfold namesD at na
  have h := List.all_eq_true.mp na p hp
  by_cases e2 : p.2 = ("variable" : Str)
  · rw [if_pos e2] at e
    have h2 : wordD p.1 = true := by
      have h3 : rightD fs p.1 "variable" = true := by rw [← e2]; exact h
      have e4 : rightD fs p.1 "variable" = (decide (("variable" : Str) = "rows") || wordD p.1) := by
        unfold rightD
        rw [if_neg (by decide +kernel), if_neg (by decide +kernel), if_neg (by decide +kernel)]
      rw [e4, decide_eq_false (by decide +kernel), Bool.false_or] at h3
      exact h3
    rw [← Option.some.inj e]
    cases hd : p.1 with
    | str z => rw [hd] at h2; exact of_decide_eq_true h2
    | _ => rw [hd] at h2; exact absurd h2 Bool.false_ne_true
  · rw [if_neg e2] at e
    cases e
theorem dedupF_le (l : List Str) : (dedupF l).length ≤ l.length := by
  have nd : (dedupF l).Nodup := dedupN_nodup (Nat.le_refl _)
  exact len_le_of_sub _ _ nd fun x m => dedupF_sub m
theorem vars_many {ws fs : List Str} {l : List PyData} (h : ∀ d ∈ l, OkR ws fs d) : (l.flatMap varsOf).length ≤ 4 * l.length := by
  induction l with
  | nil => exact Nat.le_refl _
  | cons d l ih =>
    rw [List.flatMap_cons, List.length_append, List.length_cons]
    have := vars_le (h d (List.mem_cons_self ..))
    have := ih fun d m => h d (List.mem_cons_of_mem _ m)
    omega
/-- words of a program that are right -/
structure GoodW (is fs os : List Str) : Prop where
  iw : ∀ x ∈ is, IsW x
  iN : is.Nodup
  i1 : 1 ≤ is.length
  i3 : is.length ≤ 3
  fw : ∀ x ∈ fs, IsW x
  fN : fs.Nodup
  f1 : 1 ≤ fs.length
  f2 : fs.length ≤ 2
  ow : ∀ x ∈ os, IsW x
  oN : os.Nodup
  o3 : os.length ≤ 3
def FewP (is os : List Str) (n : Nat) (ds : List PyData) : Prop := (rowsD n ds).length ≤ 20 ∧ (dedupF (is ++ (rowsD n ds).flatMap varsOf ++ os)).length ≤ 6 ∧ cps n ds ≤ 4 ∧ (rds n ds).length ≤ 3
instance (is os : List Str) (n : Nat) (ds : List PyData) : Decidable (FewP is os n ds) := by unfold FewP; infer_instance
def spProgX (K : PySem.W.Frag) (C CP : Addr) : Sp := fun vs H Q E => ∃ (h dx aI aF aR aO : Addr) (is fs os : List Str) (n : Nat) (ds : List PyData) (L : List Addr), vs = [.ref h, .ref aI, .ref aF, .ref aR, .ref aO] ∧ H h = some (.ins C dx []) ∧ WS K H aI is ∧ WS K H aF fs ∧ Dq H (.ref aR) (.list ds) L ∧ ds.length ≤ 100 ∧ WS K H aO os ∧ GoodW is fs os ∧ n ≤ 3 ∧ (∀ d ∈ ds, RowD n d) ∧ (∀ d ∈ ds, Sm d) ∧ (rowsD n ds).length ≤ 100 ∧
  (faultW fs [] (walkD 4 [] ds) = none → FewP is os n ds → ∀ (p : PP) (H' : Hp), (∀ b o, H b = some o → b ≠ h → H' b = some o) → ProgAt K C H' h is fs os n ds ((rowsD n ds).flatMap varsOf) p → (∀ x ∈ p.own, H x = none) → Q .non H') ∧
  (faultW fs [] (walkD 4 [] ds) = none → ¬ FewP is os n ds → ePl CP "many" [] H E) ∧ (∀ part pl, faultW fs [] (walkD 4 [] ds) = some (part, pl) → ePl CP part pl H E)
section
variable {P : Program} {w : World} {K : PySem.W.Frag} {mg : Str → Option Value} {base : Heap}
set_option maxHeartbeats 8000000 in
theorem ok_progX {f0 C CP fX fA fF fK fV fM fC fR : Addr} {fd0 fdA fdF fdK fdV fdM fdC fdR : FuncData} {t1 t2 : Tok} {dvs : List V} {kws : List (Str × V)} (F0 : FunD K "__init__" "Program.__init__" (defArgs S_Program___init__) (defBody S_Program___init__) (defScope S_Program___init__) dvs kws f0 fd0) (B : Bl mg) (T : HCP K mg C) (TP : PySem.ErrW.ErrTw P K mg "InvalidProgram" "no program: " " at " CP fX)
    (m_MOST_INPUTS : mg "MOST_INPUTS" = some (.int 3 t1)) (m_MOST_OUTPUTS : mg "MOST_OUTPUTS" = some (.int 3 t2))
    (d_are_words : Df K mg "are_words" S_are_words fA fdA P_are_words) (G_are_words : FnOk P w K mg base CX0 2 fA fdA P_are_words (spAreW K))
    (d_are_fields : Df K mg "are_fields" S_are_fields fF fdF P_are_fields) (G_are_fields : FnOk P w K mg base CX0 3 fF fdF P_are_fields (spAreF K))
    (d_checked_rows : Df K mg "checked_rows" S_checked_rows fK fdK P_checked_rows) (G1 : ∀ fs : List Str, FnOk P w K mg base (L2.CX P w) 7 fK fdK P_checked_rows (spCheckedY K CP fs))
    (d_all_variables : Df K mg "all_variables" S_all_variables fV fdV P_all_variables) (G2 : ∀ ws fs : List Str, FnOk P w K mg base CX0 2 fV fdV P_all_variables (spAllV K ws fs))
    (d_check_many : Df K mg "check_many" S_check_many fM fdM P_check_many) (G3 : ∀ ws fs : List Str, FnOk P w K mg base (L2.CX P w) 2 fM fdM P_check_many (spManyX K CP ws fs))
    (d_copied_rows : Df K mg "copied_rows" S_copied_rows fC fdC P_copied_rows) (d_copied_row : Df K mg "copied_row" S_copied_row fR fdR P_copied_row)
    (G4 : ∀ (ws fs : List Str) (n : Nat), FnOk P w K mg base CX0 (2 * n + 2) fR fdR P_copied_row (spCopyR ws fs n) ∧ FnOk P w K mg base CX0 (2 * n + 3) fC fdC P_copied_rows (spCopies ws fs n)) :
    FnOk P w K mg base (L2.CX P w) 10 f0 fd0 P_Program___init__ (spProgX K C CP) := by
  refine F0.ok sc_Program___init__ (fun vs H Q E h => ?_) (fun cdv A outer s H vs Q E hr h => ?_)
  · obtain ⟨h, dx, aI, aF, aR, aO, is, fs, os, n, ds, L, rfl, _⟩ := h
    rfl
  · obtain ⟨h, dx, aI, aF, aR, aO, is, fs, os, n, ds, L, rfl, hh, hI, hF, hR, d100, hO, gw, n3, rd, sms, r100, kk0, em, ee⟩ := h
    obtain ⟨ws, hws⟩ : ∃ ws, ws = (rowsD n ds).flatMap varsOf := ⟨_, rfl⟩
    have w4 : walkD 4 [] ds = walkD n [] ds := walk_le (by omega) rd
    have wl : (walkD n [] ds).length = (rowsD n ds).length := walkD_len n [] ds
    have hr0 : Room 1 _ := hr.mono (by decide)
    have G_checked_rows := G1 fs
    have G_all_variables := G2 ws fs
    have G_check_many := G3 ws fs
    have G_copied_rows := (G4 ws fs n).2
    have G_copied_row := (G4 ws fs n).1
    have hr_are_words : Room 2 _ := hr.mono (by decide)
    have hr_are_fields : Room 3 _ := hr.mono (by decide)
    have hr_checked_rows : Room 7 _ := hr.mono (by decide)
    have hr_all_variables : Room 2 _ := hr.mono (by decide)
    have hr_check_many : Room 2 _ := hr.mono (by decide)
    have hr_copied_rows : Room (2 * n + 3) _ := hr.mono (by omega)
    have hr_copied_row : Room (2 * n + 2) _ := hr.mono (by omega)
    have hu0 : (A.deeper (envOfC "Program.__init__" (defScope S_Program___init__) s.heap.objs.size f0 cdv)).units < cLine := by have := hr.un; omega
    refine ⟨_, (pss_cons (ps_if (pt_not (pt_val (pe_call G_are_words hr_are_words rfl d_are_words.g d_are_words.F.kp d_are_words.b .nil pass0 (pa_cons (pv 1) (pa_cons pe_int (pa_cons (pe_glob (v := .int _) rfl m_MOST_INPUTS ⟨_, rfl⟩) pa_nil)))))) (pss_one ps_never) pss_nil)
 (pss_cons (ps_if (pt_not (pt_val (pe_call G_are_fields hr_are_fields rfl d_are_fields.g d_are_fields.F.kp d_are_fields.b .nil pass0 (pa_cons (pv 2) pa_nil)))) (pss_one ps_never) pss_nil)
 (pss_cons (ps_if (pt_not (pt_val (pe_call G_are_words hr_are_words rfl d_are_words.g d_are_words.F.kp d_are_words.b .nil pass0 (pa_cons (pv 4) (pa_cons pe_int (pa_cons (pe_glob (v := .int _) rfl m_MOST_OUTPUTS ⟨_, rfl⟩) pa_nil)))))) (pss_one ps_never) pss_nil)
 (pss_cons (ps_if (pt_not (pt_val (pe_callB call_isi (by rfl) B.m_isinstance (by decide +kernel) (pa_cons (pv 3) (pa_cons (pe_bltn (v := .ty "list") (by rfl) B.m_list (by decide +kernel) rfl) pa_nil))))) (pss_one ps_never) pss_nil)
 (pss_cons (ps_set (i := 5) sc_Program___init__.nd rfl (by first | exact Or.inl rfl | exact Or.inr rfl) (pe_call G_checked_rows hr_checked_rows rfl d_checked_rows.g d_checked_rows.F.kp d_checked_rows.b .nil (passT (takes_of rfl rfl rfl rfl)) (pa_cons (pv 3) (pa_cons (pv 2) pa_nil))))
 (pss_cons (ps_set (i := 6) sc_Program___init__.nd rfl (by first | exact Or.inl rfl | exact Or.inr rfl) (pe_call G_all_variables hr_all_variables rfl d_all_variables.g d_all_variables.F.kp d_all_variables.b .nil pass0 (pa_cons (pv 1) (pa_cons (pv 5) (pa_cons (pv 4) pa_nil)))))
 (pss_cons (ps_expr (pe_call G_check_many hr_check_many rfl d_check_many.g d_check_many.F.kp d_check_many.b .nil (passT (takes_of rfl rfl rfl rfl)) (pa_cons (pv 5) (pa_cons (pv 6) pa_nil))))
 (pss_cons (ps_cut (ps_fld (pv 0) (pe_callTy call_tuple_of (by rfl) B.m_tuple (by decide +kernel) (pa_cons (pv 1) pa_nil)) rfl))
 (pss_cons (ps_cut (ps_fld (pv 0) (pe_callTy call_tuple_of (by rfl) B.m_tuple (by decide +kernel) (pa_cons (pv 2) pa_nil)) rfl))
 (pss_cons (ps_cut (ps_fld (pv 0) (pe_callTy call_tuple_of (by rfl) B.m_tuple (by decide +kernel) (pa_cons (pv 4) pa_nil)) rfl))
 (pss_cons (ps_fld (pv 0) (pe_call G_copied_rows hr_copied_rows rfl d_copied_rows.g d_copied_rows.F.kp d_copied_rows.b .nil pass0 (pa_cons (pv 3) pa_nil)) rfl)
 (pss_cons (ps_fld (pv 0) (pe_dcT (own := [("place", 7), ("row", 8)]) hu0 rfl sc_Program___init__.nd (pi_list (pv 5)) (blkOk_by (own := [("place", 7), ("row", 8)]) (N := N_Program___init__) (sc := defScope S_Program___init__) (by decide +kernel)) (fun _ _ _ _ _ => (pg_tupK (K := K) (n := 2) rfl rfl (pgs_cons (pg_name (i := 7) sc_Program___init__.nd rfl (by first | exact Or.inl rfl | exact Or.inr rfl)) (pgs_cons (pg_name (i := 8) sc_Program___init__.nd rfl (by first | exact Or.inl rfl | exact Or.inr rfl)) pgs_nil)))) (fun _ _ _ _ _ => (pv 7)) (fun _ _ _ _ _ => (pe_call G_copied_row hr_copied_row rfl d_copied_row.g d_copied_row.F.kp d_copied_row.b .nil pass0 (pa_cons (pv 8) pa_nil)))) rfl)
 (pss_one (ps_fld (pv 0) (pv 6) rfl)))))))))))))), ?_⟩
    obtain ⟨TI, hTI, kI⟩ := hI.kd
    refine ⟨_, rfl, _, TI, 1, 3, rfl, kI, by decide, .inr ⟨hTI, aI, _, rfl, hI.seqK gw.iw (by have := gw.i3; omega), fun b H1 s1 hb => ⟨_, rfl, ?_⟩⟩⟩
    have hbt : b = true := hb.mpr (areW_of gw.iw gw.iN (by have := gw.i1; omega) (by have := gw.i3; omega))
    subst hbt
    refine iteF ?_
    obtain ⟨TF, hTF, kF⟩ := (hF.same s1).kd
    refine ⟨_, rfl, _, TF, rfl, kF, .inr ⟨hTF, aF, _, rfl, (hF.same s1).seqK gw.fw (by have := gw.f2; omega), fun b H2 s2 hb => ⟨_, rfl, ?_⟩⟩⟩
    have hbt : b = true := hb.mpr (areW_of gw.fw gw.fN (by have := gw.f1; omega) (by have := gw.f2; omega))
    subst hbt
    refine iteF ?_
    have s12 := s1.trans s2
    obtain ⟨TO, hTO, kO⟩ := (hO.same s12).kd
    refine ⟨_, rfl, _, TO, 0, 3, rfl, kO, by decide, .inr ⟨hTO, aO, _, rfl, (hO.same s12).seqK gw.ow (by have := gw.o3; omega), fun b H3 s3 hb => ⟨_, rfl, ?_⟩⟩⟩
    have hbt : b = true := hb.mpr (areW_of gw.ow gw.oN (by omega) (by have := gw.o3; omega))
    subst hbt
    refine iteF ?_
    have s13 := s12.trans s3
    obtain ⟨xs, hxs⟩ : ∃ xs, H aR = some (.lst xs) := by cases hR; exact ⟨_, by assumption⟩
    refine ⟨_, rfl, _, _, _, _, _, rfl, .ty "list", .base (.lst (s13 _ _ hxs)), kit7_list (by decide), _, rfl, iteF ?_⟩
    refine ⟨_, rfl, _, rfl, aR, aF, ds, L, rfl, hR.same s13, d100, sms, by rw [w4]; omega, (hF.same s13).seq, ?_, fun part pl e => (ee part pl e).same s13⟩
    intro hnf pr ys M H4 s4 hpr h4 dP subP
    rw [w4] at dP
    have okA := walk_okA (w4 ▸ hnf)
    have okR0 : ∀ d ∈ rowsD n ds, OkR ws fs d := fun d m => by
      rw [← walkD_rows n [] ds] at m
      obtain ⟨e, me, ed⟩ := List.mem_map.mp m
      obtain ⟨fo, na⟩ := okA e me
      rw [← ed]
      refine okR_of fo na fun x hx => ?_
      rw [hws, ← walkD_rows n [] ds, List.flatMap_map]
      exact List.mem_flatMap.mpr ⟨e, me, hx⟩
    have ww : ∀ x ∈ ws, IsW x := fun x m => by
      rw [hws, ← walkD_rows n [] ds, List.flatMap_map] at m
      obtain ⟨e, me, hx⟩ := List.mem_flatMap.mp m
      obtain ⟨fo, na⟩ := okA e me
      exact vars_words fo na x hx
    have s14 := s13.trans s4
    have okW : ∀ e ∈ walkD n [] ds, OkR ws fs e.2 := fun e m => okR0 _ (by rw [← walkD_rows n [] ds]; exact List.mem_map_of_mem m)
    have hO14 : H4 aO = some (.lst (os.map V.str)) ∨ SqT K H4 aO (os.map V.str) := (hO.same s14).elim .inl fun z => .inr z.sqt
    refine ⟨_, rfl, _, rfl, _, rfl, aI, pr, aO, is, os, ys, walkD n [] ds, M, rfl, (hI.same s14).seq, h4, dP, fun e m => ⟨okW e m, n, rowsD_rd rd _ (by rw [← walkD_rows n [] ds]; exact List.mem_map_of_mem m)⟩, by omega, hO14, by have := gw.i3; omega, by have := gw.o3; omega, fun pv H5 s5 hpv h5 => ?_⟩
    have ev : is ++ (walkD n [] ds).flatMap (fun e => varsOf e.2) ++ os = is ++ (rowsD n ds).flatMap varsOf ++ os := by
      rw [← walkD_rows n [] ds, List.flatMap_map]
    rw [ev] at h5
    have dP5 := dP.same s5
    have ec : ((walkD n [] ds).map fun e => copiesOf e.2).sum = cps n ds := by
      unfold cps
      rw [← walkD_rows n [] ds, List.map_map]
      rfl
    have vl : (dedupF (is ++ (rowsD n ds).flatMap varsOf ++ os)).length ≤ 1000 := by
      have h1 := dedupF_le (is ++ (rowsD n ds).flatMap varsOf ++ os)
      have h2 := vars_many (fs := fs) okR0
      rw [List.length_append, List.length_append] at h1
      have := gw.i3
      have := gw.o3
      omega
    by_cases few : FewP is os n ds
    case neg =>
      refine ⟨_, rfl, _, rfl, pr, pv, ys, _, walkD n [] ds, M, rfl, s5 _ _ h4, dP5, okW, by omega, h5, by rw [List.length_map]; exact vl, .inr ⟨fun z => few ?_, (em hnf few).same (s14.trans s5)⟩⟩
      obtain ⟨z1, z2, z3, z4⟩ := z
      rw [List.length_map] at z2
      rw [ec] at z3
      rw [rds_walk] at z4
      exact ⟨by omega, z2, z3, z4⟩
    have kk := kk0 hnf few
    obtain ⟨few1, few2, few3, few4⟩ := few
    have g : GoodP is fs os n ds ws := ⟨gw.iw, gw.iN, gw.i1, gw.i3, gw.fw, gw.fN, gw.f1, gw.f2, gw.ow, gw.oN, gw.o3, ww, n3, rd, okR0, few1, few3, few4, by rw [← rds_walk]; exact walk_nodup (w4 ▸ hnf), few2⟩
    have r20 := g.r20
    rw [hws] at g
    refine ⟨_, rfl, _, rfl, pr, pv, ys, _, walkD n [] ds, M, rfl, s5 _ _ h4, dP5, okW, by omega, h5, by rw [List.length_map]; exact vl, .inl ⟨by omega, by rw [List.length_map]; exact g.v6, by rw [ec]; exact g.c4, by rw [rds_walk]; exact g.w3, fun H6 s6 => ?_⟩⟩
    subst hws
    have s16 := s14.trans (s5.trans s6)
    have hh6 := s16 _ _ hh
    have e0 : ∃ f0, H6 h = some (.ins C dx f0) := ⟨_, hh6⟩
    have m0 : Mk1 C h dx H6 H6 [] := ⟨fun b o e _ => e, hh6⟩
    have hpr6 := s6 _ _ (s5 _ _ h4)
    have hpv6 := s6 _ _ h5
    have dP6 := dP5.same s6
    have hR6 := hR.same s16
    -- inputs
    refine ⟨fun σ G => ∃ tI, σ = [some (.ref h), some (.ref aI), some (.ref aF), some (.ref aR), some (.ref aO), some (.ref pr), some (.ref pv), none, none] ∧ Mk1 C h dx H6 G (putF "inputs" (.ref tI) []) ∧ WT K G tI is, ?_, ?_⟩
    · rcases hI.same s16 with e | e
      · refine ⟨_, rfl, aI, _, rfl, .inl ⟨SqL.of e, fun tI ht => ?_⟩⟩
        have m1 := m0.same (same_new (o := .tup (is.map V.str)) ht)
        exact ⟨_, rfl, h, C, dx, _, rfl, m1.e, T.cl, T.nI, by decide, tI, rfl, m1.set, m1.wtK (.inl upd_same)⟩
      · exact ⟨_, rfl, aI, _, rfl, .inr ⟨e.sqt, _, rfl, h, C, dx, _, rfl, m0.e, T.cl, T.nI, by decide, aI, rfl, m0.set, m0.wtK e⟩⟩
    rintro σ G1 ⟨tI, rfl, m1, wI⟩
    -- fields
    refine ⟨fun σ G => ∃ tF, σ = [some (.ref h), some (.ref aI), some (.ref aF), some (.ref aR), some (.ref aO), some (.ref pr), some (.ref pv), none, none] ∧ Mk1 C h dx H6 G (putF "fields" (.ref tF) (putF "inputs" (.ref tI) [])) ∧ WT K G tI is ∧ WT K G tF fs, ?_, ?_⟩
    · rcases m1.wsK e0 (hF.same s16) with e | e
      · refine ⟨_, rfl, aF, _, rfl, .inl ⟨SqL.of e, fun tF ht => ?_⟩⟩
        have s' := same_new (o := .tup (fs.map V.str)) ht
        have m2 := m1.same s'
        exact ⟨_, rfl, h, C, dx, _, rfl, m2.e, T.cl, T.nF, by show 1 < 1000; decide, tF, rfl, m2.set, m2.wtK (wI.same s'), m2.wtK (.inl upd_same)⟩
      · exact ⟨_, rfl, aF, _, rfl, .inr ⟨e.sqt, _, rfl, h, C, dx, _, rfl, m1.e, T.cl, T.nF, by show 1 < 1000; decide, aF, rfl, m1.set, m1.wtK wI, m1.wtK e⟩⟩
    rintro σ G2 ⟨tF, rfl, m2, wI2, wF⟩
    -- outputs
    refine ⟨fun σ G => ∃ tO, σ = [some (.ref h), some (.ref aI), some (.ref aF), some (.ref aR), some (.ref aO), some (.ref pr), some (.ref pv), none, none] ∧ Mk1 C h dx H6 G (putF "outputs" (.ref tO) (putF "fields" (.ref tF) (putF "inputs" (.ref tI) []))) ∧ WT K G tI is ∧ WT K G tF fs ∧ WT K G tO os, ?_, ?_⟩
    · rcases m2.wsK e0 (hO.same s16) with e | e
      · refine ⟨_, rfl, aO, _, rfl, .inl ⟨SqL.of e, fun tO ht => ?_⟩⟩
        have s' := same_new (o := .tup (os.map V.str)) ht
        have m3 := m2.same s'
        exact ⟨_, rfl, h, C, dx, _, rfl, m3.e, T.cl, T.nO, by show 2 < 1000; decide, tO, rfl, m3.set, m3.wtK (wI2.same s'), m3.wtK (wF.same s'), m3.wtK (.inl upd_same)⟩
      · exact ⟨_, rfl, aO, _, rfl, .inr ⟨e.sqt, _, rfl, h, C, dx, _, rfl, m2.e, T.cl, T.nO, by show 2 < 1000; decide, aO, rfl, m2.set, m2.wtK wI2, m2.wtK wF, m2.wtK e⟩⟩
    rintro σ G3 ⟨tO, rfl, m3, wI3, wF3, wO⟩
    -- rows
    have hR3 : Dq G3 (.ref aR) (.list ds) L := hR6.keep (m3.old e0 hR6.there)
    refine ⟨_, rfl, aR, ds, L, rfl, hR3, g.rd, g.ok, d100, fun qR LR G4 s7 dR fR => ⟨_, rfl, h, C, dx, _, rfl, s7 _ _ m3.e, T.cl, T.nR, by show 3 < 1000; decide, ?_⟩⟩
    have m4' := m3.same s7
    have dR5 := dR.keep (m4'.keep (fl' := putF "_rows" (.ref qR) (putF "outputs" (.ref tO) (putF "fields" (.ref tF) (putF "inputs" (.ref tI) [])))) dR.there)
    have m5 : Mk1 C h dx H6 (upd G4 h (.ins C dx (putF "_rows" (.ref qR) (putF "outputs" (.ref tO) (putF "fields" (.ref tF) (putF "inputs" (.ref tI) [])))))) _ := m4'.set
    have wI5 := m4'.wtK (fl' := putF "_rows" (.ref qR) (putF "outputs" (.ref tO) (putF "fields" (.ref tF) (putF "inputs" (.ref tI) [])))) (wI3.same s7)
    have wF5 := m4'.wtK (fl' := putF "_rows" (.ref qR) (putF "outputs" (.ref tO) (putF "fields" (.ref tF) (putF "inputs" (.ref tI) [])))) (wF3.same s7)
    have wO5 := m4'.wtK (fl' := putF "_rows" (.ref qR) (putF "outputs" (.ref tO) (putF "fields" (.ref tF) (putF "inputs" (.ref tI) [])))) (wO.same s7)
    obtain ⟨G5, e5⟩ : ∃ G5 : Hp, G5 = upd G4 h (.ins C dx (putF "_rows" (.ref qR) (putF "outputs" (.ref tO) (putF "fields" (.ref tF) (putF "inputs" (.ref tI) []))))) := ⟨_, rfl⟩
    rw [← e5] at m5 dR5 wI5 wF5 wO5 ⊢
    have prh : pr ≠ h := ne_lst hh6 hpr6
    have pvh : pv ≠ h := ne_lst hh6 hpv6
    have hpr5 := m5.s _ _ hpr6 prh
    have dP5' := dP6.keep (m5.old e0 dP6.there)
    -- table
    refine ⟨_, rfl, pr, rfl, ⟨_, SqL.of hpr5⟩, fun D hD => dcT_list (xs := ys) (fun j G => ∃ (us : List V) (LT : List Addr), Same G5 G ∧ us.length = j ∧ G D = some (.dT ((((walkD n [] ds).take j).map fun e => keyI e.1).zip us)) ∧ DqAll G us ((rowsD n ds).take j) LT ∧ ∀ x ∈ LT, G5 x = none) ⟨[], [], same_new hD, rfl, by rw [List.take_zero]; exact upd_same, .nil, fun x m => nomatch m⟩ (fun j G ⟨us, LT, sG, _⟩ => SqL.of (sG _ _ hpr5)) ?_ ?_⟩
    · rintro j x G hx ⟨us, LT, sG, ul, hT, dU, fU⟩
      obtain ⟨dd, N, hdj, hq, _⟩ := dP5'.get hx
      rw [List.getElem?_map] at hdj
      cases el : (walkD n [] ds)[j]? with
      | none => rw [el] at hdj; cases hdj
      | some e =>
      rw [el] at hdj
      have edd : pd e = dd := Option.some.inj hdj
      rw [← edd] at hq
      obtain ⟨t, pl, v, rfl, ht, hpl, hv⟩ := pd_inv hq
      have em : e ∈ walkD n [] ds := List.mem_of_getElem? el
      have erow : (rowsD n ds)[j]? = some e.2 := by
        rw [← walkD_rows n [] ds, List.getElem?_map, el]
        rfl
      have jl : j < (walkD n [] ds).length := (List.getElem?_eq_some_iff.mp el).1
      have rde := rowsD_rd g.rd e.2 (List.mem_of_getElem? erow)
      refine ⟨t, _, rfl, SqT.of (sG _ _ ht), rfl, _, _, rfl, _, _, rfl, rfl, rfl, _, rfl, _, rfl, v, e.2, N, rfl, hv.same sG, rde, ?_, fun u M' G' s8 qu fu => ?_⟩
      · exact fun x hx => g.ok x (rowsD_sub g.rd e.2 (List.mem_of_getElem? erow) x hx)
      have hTD := s8 _ _ hT
      have kp : ∀ {X : List Addr} {o : HO}, (∀ x ∈ X, ∃ xs, G' x = some (.lst xs)) → KeepL X G' (upd G' D o) := fun h => by
        refine ⟨fun b m => upd_ne fun z => ?_, fun b xs e => (upd_ne fun z => ?_).trans e⟩
        · obtain ⟨xs, e⟩ := h b m
          rw [z, hTD] at e
          cases e
        · rw [z, hTD] at e
          cases e
      refine ⟨_, keyI e.1, pl, rfl, by rw [(s8 _ _ (sG _ _ hpl))]; unfold keyI; rw [List.map_map]; rfl, hTD, ?_, us ++ [u], LT ++ M', fun b o e => (upd_ne (ne_of_none e hD)).trans (s8 _ _ (sG _ _ e)), by rw [List.length_append, ul]; rfl, ?_, ?_, fun x m => ?_⟩
      · rw [List.length_zip, ul]
        exact small1000 (Nat.le_trans (Nat.min_le_right _ _) (by omega))
      · have kl : ((((walkD n [] ds).take j).map fun e => keyI e.1)).length = us.length := by
          rw [List.length_map, List.length_take, ul]
          omega
        have kn : keyI e.1 ∉ (((walkD n [] ds).take j).map fun e => keyI e.1) := fun m => by
          obtain ⟨e', me, ee⟩ := List.mem_map.mp m
          have e1 := keyI_inj ee
          obtain ⟨i, hi, ei⟩ := List.mem_take_iff_getElem.mp me
          have nd := (walk_ext n [] ds).1
          have a1 : ((walkD n [] ds).map (·.1))[i]? = some e'.1 := by rw [List.getElem?_map, ← ei, List.getElem?_eq_getElem]; rfl
          have a2 : ((walkD n [] ds).map (·.1))[j]? = some e.1 := by rw [List.getElem?_map, el]; rfl
          have hil : i < ((walkD n [] ds).map (·.1)).length := (List.getElem?_eq_some_iff.mp a1).1
          have := (List.getElem?_inj hil nd).mp (a1.trans (by rw [e1]; exact a2.symm))
          omega
        rw [upd_same, putT_new kl kn, take_next el, List.map_append]
        rfl
      · rw [take_next erow]
        have d1 := dU.same s8
        exact (d1.keep (kp d1.there)).snoc (qu.keep (kp qu.there))
      · exact (List.mem_append.mp m).elim (fU x) fun m => sG.free (fu x m)
    · rintro G ⟨us, LT, sG, ul, hT, dU, fU⟩
      have yl : ys.length = (walkD n [] ds).length := by rw [dP.len, List.length_map]
      rw [yl] at ul hT dU
      rw [List.take_length] at hT
      rw [wl, List.take_length] at dU
      refine ⟨_, rfl, h, C, dx, _, rfl, sG _ _ m5.e, T.cl, T.nT, by show 4 < 1000; decide, ?_⟩
      obtain ⟨fl5, efl5⟩ : ∃ fl5, fl5 = putF "_table" (.ref D) (putF "_rows" (.ref qR) (putF "outputs" (.ref tO) (putF "fields" (.ref tF) (putF "inputs" (.ref tI) [])))) := ⟨_, rfl⟩
      have m6' := m5.same sG
      have m6 : Mk1 C h dx H6 (upd G h (.ins C dx fl5)) fl5 := m6'.set
      obtain ⟨p, ep⟩ : ∃ p : PP, p = ⟨dx, tI, tF, tO, qR, D, pv, LR, us, LT⟩ := ⟨_, rfl⟩
      rw [← efl5]
      refine ⟨_, rfl, _, rfl, h, C, dx, _, rfl, m6.e, T.cl, T.nV, by rw [efl5]; show 5 < 1000; decide, ?_⟩
      have efl : putF "_variables" (.ref pv) fl5 = pfl p := by rw [ep, efl5]; rfl
      rw [efl]
      have m7 : Mk1 C h dx H6 (upd (upd G h (.ins C dx fl5)) h (.ins C dx (pfl p))) (pfl p) := m6.set
      have nh : ∀ {b : Addr} {o : HO}, G b = some o → (∀ fl, o ≠ .ins C dx fl) → (upd (upd G h (.ins C dx fl5)) h (.ins C dx (pfl p))) b = some o := fun {b o} e n => by
        have z : b ≠ h := fun z => by rw [z, m6'.e] at e; exact n _ (Option.some.inj e).symm
        exact (upd_ne z).trans ((upd_ne z).trans e)
      have kd : ∀ {v : V} {d : PyData} {M : List Addr}, Dq G v d M → Dq (upd (upd G h (.ins C dx fl5)) h (.ins C dx (pfl p))) v d M := fun {v d M} q => q.keep ⟨fun b m => by
        obtain ⟨xs, e⟩ := q.there b m
        rw [e]
        exact nh e fun _ z => (nomatch z), fun b xs e => nh e fun _ z => (nomatch z)⟩
      have kdA : ∀ {vs : List V} {es : List PyData} {M : List Addr}, DqAll G vs es M → DqAll (upd (upd G h (.ins C dx fl5)) h (.ins C dx (pfl p))) vs es M := fun {vs es M} q => q.keep ⟨fun b m => by
        obtain ⟨xs, e⟩ := q.there b m
        rw [e]
        exact nh e fun _ z => (nomatch z), fun b xs e => nh e fun _ z => (nomatch z)⟩
      have kw : ∀ {a : Addr} {zs : List Str}, WT K G a zs → WT K (upd (upd G h (.ins C dx fl5)) h (.ins C dx (pfl p))) a zs := fun w => w.keep fun xs e => nh e fun _ z => (nomatch z)
      have back : ∀ {b : Addr}, G5 b = none → H b = none := fun {b} e => s16.free (m5.free e)
      have hLR : ∀ x ∈ LR, H x = none := fun x m => s16.free (m3.free (fR x m))
      refine kk p _ (fun b o e n => m7.s _ _ (s16 _ _ e) n) ?_ ?_
      · have a1 : p.dx = dx := by rw [ep]
        have a2 : p.tI = tI := by rw [ep]
        have a3 : p.tF = tF := by rw [ep]
        have a4 : p.tO = tO := by rw [ep]
        have a5 : p.qR = qR := by rw [ep]
        have a6 : p.qT = D := by rw [ep]
        have a7 : p.qV = pv := by rw [ep]
        have a8 : p.LR = LR := by rw [ep]
        have a9 : p.us = us := by rw [ep]
        have a10 : p.LT = LT := by rw [ep]
        refine ⟨?_, ?_, ?_, ?_, ?_, ?_, ?_, ?_, g⟩
        · rw [a1]
          exact upd_same
        · rw [a2]
          exact kw (wI5.same sG)
        · rw [a3]
          exact kw (wF5.same sG)
        · rw [a4]
          exact kw (wO5.same sG)
        · rw [a5, a8]
          exact kd (dR5.same sG)
        · rw [a6, a9]
          exact nh hT fun _ z => (nomatch z)
        · rw [a9, a10]
          exact kdA dU
        · rw [a7]
          exact m7.s _ _ hpv6 pvh
      · intro x m
        rw [ep] at m
        rcases List.mem_cons.mp m with rfl | m
        · exact s14.free hpv
        · exact (List.mem_append.mp m).elim (hLR x) fun m => back (fU x m)
end
end TW
set_option Elab.async false
set_option linter.all false
set_option maxRecDepth 100000
namespace TW
open PySem PySem.Spec PyProof.Rows L2 TL
theorem same_new2 {H : Hp} {p : Addr} {o o' : HO} (h : H p = none) : Same H (upd (upd H p o) p o') := fun b x e => by
  rw [upd_ne (ne_of_none e h), upd_ne (ne_of_none e h)]; exact e
/-! the table of shapes -/
def kvA : List (Key × V) := [(Sum.inr "move", .str "vv"), (Sum.inr "none", .str "v"), (Sum.inr "new", .str "v"), (Sum.inr "look", .str "vvf"), (Sum.inr "put", .str "vfv")]
def kvB : List (Key × V) := [(Sum.inr "copy", .str "vvkd"), (Sum.inr "watch", .str "vvd"), (Sum.inr "same", .str "vvbb"), (Sum.inr "empty", .str "vbb")]
def shapeV (k : Str) : V := (valV (mergeK [] kvA) (Sum.inr k)).getD ((valV (mergeK [] kvB) (Sum.inr k)).getD .non)
def isStrV (v : V) (z : Str) : Bool := match v with
  | .str x => x == z
  | _ => false
theorem isv {v : V} {z : Str} (h : isStrV v z = true) : v = .str z := by
  cases v <;> first | exact absurd h Bool.false_ne_true | exact congrArg V.str (eq_of_beq h)
def roleL (r : Str) : Nat := if r = "field" then 102 else if r = "kind" then 107 else if r = "depth" then 100 else if r = "rows" then 98 else 118
theorem shape_good {k : Str} {rs : List Str} (hl : formsT.lookup k = some rs) : ∃ z, shapeV k = .str z ∧ z.cps.toList = rs.map roleL := by
  rcases forms_cases hl with ⟨rfl, rfl⟩ | ⟨rfl, rfl⟩ | ⟨rfl, rfl⟩ | ⟨rfl, rfl⟩ | ⟨rfl, rfl⟩ | ⟨rfl, rfl⟩ | ⟨rfl, rfl⟩ | ⟨rfl, rfl⟩ | ⟨rfl, rfl⟩
  · exact ⟨"vv", isv (by decide +kernel), by decide +kernel⟩
  · exact ⟨"v", isv (by decide +kernel), by decide +kernel⟩
  · exact ⟨"v", isv (by decide +kernel), by decide +kernel⟩
  · exact ⟨"vvf", isv (by decide +kernel), by decide +kernel⟩
  · exact ⟨"vfv", isv (by decide +kernel), by decide +kernel⟩
  · exact ⟨"vvkd", isv (by decide +kernel), by decide +kernel⟩
  · exact ⟨"vvd", isv (by decide +kernel), by decide +kernel⟩
  · exact ⟨"vvbb", isv (by decide +kernel), by decide +kernel⟩
  · exact ⟨"vbb", isv (by decide +kernel), by decide +kernel⟩
theorem shape_none {k : Str} (hl : formsT.lookup k = none) : shapeV k = .non := by
  have h := forms_no hl
  have e : ∀ x : Str, x ∈ ([("move" : Str), "none", "new", "look", "put", "copy", "watch", "same", "empty"] : List Str) → ¬ (Sum.inr k : Key) = Sum.inr x := fun x m z => h (by rw [Sum.inr.inj z]; exact m)
  have e1 : valV (mergeK [] kvA) (Sum.inr k) = none := by
    unfold mergeK kvA
    simp only [List.foldl_cons, List.foldl_nil]
    rw [valV_put, if_neg (e _ (by simp)), valV_put, if_neg (e _ (by simp)), valV_put, if_neg (e _ (by simp)), valV_put, if_neg (e _ (by simp)), valV_put, if_neg (e _ (by simp))]
    rfl
  have e2 : valV (mergeK [] kvB) (Sum.inr k) = none := by
    unfold mergeK kvB
    simp only [List.foldl_cons, List.foldl_nil]
    rw [valV_put, if_neg (e _ (by simp)), valV_put, if_neg (e _ (by simp)), valV_put, if_neg (e _ (by simp)), valV_put, if_neg (e _ (by simp))]
    rfl
  unfold shapeV
  rw [e1, e2]
  rfl
def shapeD : PyData → V
  | .tuple (.str k :: _) => shapeV k
  | _ => .non
def spShape : Sp := fun vs H Q _ => ∃ (v : V) (d : PyData) (L : List Addr), vs = [v] ∧ Dq H v d L ∧ Sm d ∧ ∀ H', Same H H' → Q (shapeD d) H'
def spWordL (K : PySem.W.Frag) : Sp := fun vs H Q _ => ∃ v T, vs = [v] ∧ Kd K H v T ∧ Q (.bl (isWb v)) H
theorem abc_mem (c : Nat) : decide (c ∈ (Str.ofString "abcdefghijklmnopqrstuvwxyz").cps.toList) = decide (97 ≤ c ∧ c ≤ 122) := by
  have e : (Str.ofString "abcdefghijklmnopqrstuvwxyz").cps.toList = (List.range 26).map (97 + ·) := by decide +kernel
  rw [e]
  refine decide_eq_decide.mpr ⟨fun h => ?_, fun h => ?_⟩
  · obtain ⟨j, hj, rfl⟩ := List.mem_map.mp h
    have := List.mem_range.mp hj
    omega
  · exact List.mem_map.mpr ⟨c - 97, List.mem_range.mpr (by omega), by omega⟩
abbrev S_law_is_word : Stmt := topS 53
abbrev N_law_is_word : List Str := ["_law_value", "_law_letter"]
abbrev P_law_is_word : List Str := ["_law_value"]
theorem sc_law_is_word : FnScope N_law_is_word P_law_is_word (defScope S_law_is_word) := ⟨rfl, rfl, rfl, by decide +kernel, rfl, by decide +kernel, by decide +kernel⟩
abbrev S_law_shape : Stmt := topS 55
abbrev N_law_shape : List Str := ["_law_row", "_law_shapes", "_law_more"]
abbrev P_law_shape : List Str := ["_law_row"]
theorem sc_law_shape : FnScope N_law_shape P_law_shape (defScope S_law_shape) := ⟨rfl, rfl, rfl, by decide +kernel, rfl, by decide +kernel, by decide +kernel⟩
section
variable {P : Program} {w : World} {K : PySem.W.Frag} {mg : Str → Option Value} {base : Heap}
set_option maxHeartbeats 4000000 in
theorem ok_law_is_word {f : Addr} {fd : FuncData} (F : Fun K "_law_is_word" "_law_is_word" S_law_is_word f fd) (B : Bl mg) : FnOk P w K mg base CX0 1 f fd P_law_is_word (spWordL K) := by
  refine F.ok sc_law_is_word (fun vs H Q E h => ?_) (fun cdv A outer s H vs Q E hr h => ?_)
  · obtain ⟨v, T, rfl, _⟩ := h
    rfl
  · obtain ⟨v, T, rfl, hk, kk⟩ := h
    refine ⟨_, (pss_cons (ps_if (PW.pt (pw_or (pt_not (pt_val (pe_callB call_isi (by rfl) B.m_isinstance (by decide +kernel) (pa_cons (pv 0) (pa_cons (pe_bltn (v := .ty "str") (by rfl) B.m_str (by decide +kernel) rfl) pa_nil))))) (pw_or (pt_cmpR op_lt (pe_callB call_len_str (by rfl) B.m_len PySem.boot_len (pa_cons (pv 0) pa_nil)) pe_int (nomark _)) (pw_or1 (pt_cmpR op_gt (pe_callB call_len_str (by rfl) B.m_len PySem.boot_len (pa_cons (pv 0) pa_nil)) pe_int (nomark _)))))) (pss_one (ps_ret pe_bl)) pss_nil)
 (pss_cons (ps_for PassesOwn.never rfl (pi_str (pv 0)) (pg_name (i := 1) sc_law_is_word.nd rfl (by first | exact Or.inl rfl | exact Or.inr rfl)) (pss_one (ps_if (pt_cmpR op_notIn_sign (pv 1) pe_str (by rfl)) (pss_one (ps_ret pe_bl)) pss_nil)))
 (pss_one (ps_ret pe_bl)))), ?_⟩
    by_cases ht : T = "str"
    case neg =>
      have e : (T == "str") = false := by simpa using ht
      have e2 : isWb v = false := by
        cases v <;> try rfl
        exact absurd ((ty_str hk.t).mpr ⟨_, rfl⟩) ht
      rw [e2] at kk
      exact ⟨_, rfl, _, _, _, _, _, rfl, .ty "str", hk.t, (kit7_str hk.m).trans (congrArg some e), _, rfl, iteT kk⟩
    obtain ⟨z, rfl⟩ := (ty_str hk.t).mp ht
    subst ht
    have hzl : z.length ≤ sizeLine := Nat.le_trans (hk.z z rfl) (by decide)
    refine ⟨_, rfl, _, _, _, _, _, rfl, .ty "str", hk.t, kit7_str hk.m, _, rfl, iteF ?_⟩
    have bad : ¬ IsW z → Q (.bl false) H := fun h => by
      have e : isWb (.str z) = false := decide_eq_false h
      rw [e] at kk
      exact kk
    refine ⟨_, rfl, z, rfl, hzl, _, _, rfl, rfl, _, rfl, ite_dec (fun hb => ?_) (fun hb1 => ?_)⟩
    · have := of_decide_eq_true hb
      exact bad fun h => by have := h.1; omega
    have l1 := of_decide_eq_false hb1
    refine ⟨_, rfl, z, rfl, hzl, _, _, rfl, rfl, _, rfl, ite_dec (fun hb => ?_) (fun hb2 => ?_)⟩
    · have := of_decide_eq_true hb
      exact bad fun h => by have := h.2.1; omega
    have l2 := of_decide_eq_false hb2
    refine ⟨_, rfl, z, rfl, for_str (x := z) (fun i σ G => (∃ z1, σ = [some (.str z), z1]) ∧ G = H ∧ ∀ j c, j < i → z.cps[j]? = some c → 97 ≤ c ∧ c ≤ 122) ⟨⟨_, rfl⟩, rfl, fun j c h => absurd h (Nat.not_lt_zero _)⟩ ?_ ?_⟩
    · rintro i c σ G hc ⟨⟨z1, rfl⟩, rfl, ih⟩
      refine ⟨_, rfl, c, _, rfl, rfl, _, rfl, ?_⟩
      rw [abc_mem]
      refine ite_dec (fun hb => ?_) (fun hb => ?_)
      · refine bad fun h => ?_
        have h3 := h.2.2 c (by rw [← Array.getElem?_toList] at hc; exact List.mem_of_getElem? hc)
        rw [decide_eq_true h3] at hb
        exact Bool.noConfusion hb
      · refine ⟨⟨_, rfl⟩, rfl, fun j c' hj hc' => ?_⟩
        by_cases e : j < i
        · exact ih j c' e hc'
        · have : j = i := by omega
          subst this
          rw [hc] at hc'
          cases hc'
          exact of_decide_eq_true (by simpa using hb)
    · rintro σ G ⟨⟨z1, rfl⟩, rfl, ih⟩
      have e : isWb (.str z) = true := decide_eq_true ⟨by omega, by omega, fun c m => by
        obtain ⟨j, hj, ej⟩ := List.mem_iff_getElem.mp m
        exact ih j c (by simpa using hj) (by rw [← ej, ← Array.getElem?_toList, List.getElem?_eq_getElem])⟩
      rw [e] at kk
      exact kk
set_option maxHeartbeats 4000000 in
theorem ok_law_shape {f : Addr} {fd : FuncData} (F : Fun K "_law_shape" "_law_shape" S_law_shape f fd) (B : Bl mg) : FnOk P w K mg base CX0 1 f fd P_law_shape spShape := by
  refine F.ok sc_law_shape (fun vs H Q E h => ?_) (fun cdv A outer s H vs Q E hr h => ?_)
  · obtain ⟨v, d, L, rfl, _⟩ := h
    rfl
  · obtain ⟨v, d, L, rfl, hq, sm, kk⟩ := h
    have hu := hu_of hr
    have hk0 : Kd K H v (tyD d) := hq.kd sm
    refine ⟨_, (pss_cons (ps_set (i := 1) sc_law_shape.nd rfl (by first | exact Or.inl rfl | exact Or.inr rfl) (pe_disp (pps_cons pe_str pe_str (pps_cons pe_str pe_str (pps_cons pe_str pe_str (pps_cons pe_str pe_str (pps_cons pe_str pe_str pps_nil))))) (by rfl) (by rfl) (fun z => by cases z) (by decide)))
 (pss_cons (ps_set (i := 2) sc_law_shape.nd rfl (by first | exact Or.inl rfl | exact Or.inr rfl) (pe_disp (pps_cons pe_str pe_str (pps_cons pe_str pe_str (pps_cons pe_str pe_str (pps_cons pe_str pe_str pps_nil)))) (by rfl) (by rfl) (fun z => by cases z) (by decide)))
 (pss_cons (ps_if (PW.pt (pw_or (pt_not (pt_val (pe_callB call_isi (by rfl) B.m_isinstance (by decide +kernel) (pa_cons (pv 0) (pa_cons (pe_bltn (v := .ty "tuple") (by rfl) B.m_tuple (by decide +kernel) rfl) pa_nil))))) (pw_or (pt_cmpR op_eq (pe_callB call_len_seq (by rfl) B.m_len PySem.boot_len (pa_cons (pv 0) pa_nil)) pe_int (nomark _)) (pw_or1 (pt_not (pt_val (pe_callB call_isi (by rfl) B.m_isinstance (by decide +kernel) (pa_cons (pe_ix ix_tup (pv 0) pe_int (fun _ _ => rfl)) (pa_cons (pe_bltn (v := .ty "str") (by rfl) B.m_str (by decide +kernel) rfl) pa_nil))))))))) (pss_one (ps_ret pe_non)) pss_nil)
 (pss_one (ps_ret (pe_dget2 hu (pv 1) (pe_ix ix_tup (pv 0) pe_int (fun _ _ => rfl)) (pe_dget1 hu (pv 2) (pe_ix ix_tup (pv 0) pe_int (fun _ _ => rfl)) ⟨rfl, rfl, rfl, rfl⟩) ⟨rfl, rfl, rfl, rfl⟩)))))), ?_⟩
    refine fun p1 hp1 => ⟨upd_same, kvA, rfl, by decide, ?_⟩
    refine fun p2 hp2 => ⟨upd_same, kvB, rfl, by decide, ?_⟩
    have s1 := same_new2 (o := .dK []) (o' := .dK (mergeK [] kvA)) hp1
    have s2 := same_new2 (o := .dK []) (o' := .dK (mergeK [] kvB)) hp2
    have s12 := s1.trans s2
    have h1 : (upd (upd (upd (upd H p1 (.dK [])) p1 (.dK (mergeK [] kvA))) p2 (.dK [])) p2 (.dK (mergeK [] kvB))) p1 = some (.dK (mergeK [] kvA)) := s2 _ _ upd_same
    have h2 : (upd (upd (upd (upd H p1 (.dK [])) p1 (.dK (mergeK [] kvA))) p2 (.dK [])) p2 (.dK (mergeK [] kvB))) p2 = some (.dK (mergeK [] kvB)) := upd_same
    obtain ⟨T, eT⟩ : ∃ T : Hp, T = upd (upd (upd (upd H p1 (.dK [])) p1 (.dK (mergeK [] kvA))) p2 (.dK [])) p2 (.dK (mergeK [] kvB)) := ⟨_, rfl⟩
    rw [← eT] at s12 h1 h2
    have hk := hk0.same s12
    have bad : shapeD d = .non → Q .non T := fun e => by
      have := kk T s12
      rwa [e] at this
    clear hk0
    by_cases ht : tyD d = "tuple"
    case neg =>
      have e : (tyD d == "tuple") = false := by simpa using ht
      have e2 : shapeD d = .non := by
        cases d <;> first | rfl | exact absurd rfl ht
      rw [← eT]
      exact ⟨_, rfl, _, _, _, _, _, rfl, .ty "tuple", hk.t, (kit7_tuple hk.m).trans (congrArg some e), _, rfl, iteT (bad e2)⟩
    obtain ⟨r, xs, ds, rfl, rfl, hr0, du⟩ : ∃ r xs ds, v = .ref r ∧ d = .tuple ds ∧ H r = some (.tup xs) ∧ DqAll H xs ds L := by
      cases hq with
      | tup h a => exact ⟨_, _, _, rfl, rfl, h, a⟩
      | non => exact absurd ht (show ¬ "NoneType" = "tuple" by decide)
      | bl b => exact absurd ht (show ¬ "bool" = "tuple" by decide)
      | int i => exact absurd ht (show ¬ "int" = "tuple" by decide)
      | str x => exact absurd ht (show ¬ "str" = "tuple" by decide)
      | lst _ _ => exact absurd ht (show ¬ "list" = "tuple" by decide)
    have hr1 := s12 _ _ hr0
    have hds : ds.length ≤ 100 ∧ ∀ d ∈ ds, Sm d := by cases sm with | tup l s => exact ⟨l, s⟩
    have xl : xs.length = ds.length := du.len
    rw [← eT]
    refine ⟨_, rfl, _, _, _, _, _, rfl, .ty "tuple", hk.t, kit7_tuple hk.m, _, rfl, ?_⟩
    refine iteF ?_
    refine ⟨_, rfl, r, _, rfl, .inr (SqT.of hr1), rfl, _, rfl, ite_dec (fun hb => ?_) (fun hb => ?_)⟩
    · have e : xs.length = 0 := by
        have := V.int.inj (of_decide_eq_true hb)
        omega
      refine bad ?_
      have : ds = [] := List.eq_nil_of_length_eq_zero (by omega)
      rw [this]
      rfl
    have e0 : ds ≠ [] := fun z => by
      rw [z] at xl
      have : xs = [] := List.eq_nil_of_length_eq_zero xl
      rw [this] at hb
      exact Bool.noConfusion hb
    cases du with
    | nil => exact absurd rfl e0
    | @cons u us d0 ps L0 M0 q0 dps =>
    have s0 := hds.2 d0 (List.mem_cons_self ..)
    have k0 : Kd K T u (tyD d0) := (q0.kd s0).same s12
    by_cases hs : tyD d0 = "str"
    case neg =>
      have e : (tyD d0 == "str") = false := by simpa using hs
      have e2 : shapeD (.tuple (d0 :: ps)) = .non := by
        cases d0 <;> first | rfl | exact absurd rfl hs
      refine ⟨_, rfl, r, _, 0, u, rfl, rfl, SqT.of hr1, atI_of (j := 0) rfl rfl, _, _, _, _, _, rfl, .ty "str", k0.t, (kit7_str k0.m).trans (congrArg some e), _, rfl, ?_⟩
      exact iteT (bad e2)
    obtain ⟨k, rfl, rfl⟩ : ∃ k, u = .str k ∧ d0 = .str k := by
      cases q0 with
      | str x => exact ⟨_, rfl, rfl⟩
      | non => exact absurd hs (show ¬ "NoneType" = "str" by decide)
      | bl b => exact absurd hs (show ¬ "bool" = "str" by decide)
      | int i => exact absurd hs (show ¬ "int" = "str" by decide)
      | lst _ _ => exact absurd hs (show ¬ "list" = "str" by decide)
      | tup _ _ => exact absurd hs (show ¬ "tuple" = "str" by decide)
    refine ⟨_, rfl, r, _, 0, .str k, rfl, rfl, SqT.of hr1, atI_of (j := 0) rfl rfl, _, _, _, _, _, rfl, .ty "str", k0.t, kit7_str k0.m, _, rfl, ?_⟩
    refine iteF ?_
    refine ⟨_, rfl, p1, rfl, .inl ⟨_, .of h1⟩, _, rfl, r, _, 0, .str k, rfl, rfl, SqT.of hr1, atI_of (j := 0) rfl rfl, ?_⟩
    refine ⟨_, rfl, p2, rfl, .inl ⟨_, .of h2⟩, _, rfl, r, _, 0, .str k, rfl, rfl, SqT.of hr1, atI_of (j := 0) rfl rfl, _, DGet.k (k := (Sum.inr k : Key)) h2, _, DGet.k (k := (Sum.inr k : Key)) h1, ?_⟩
    exact kk T s12
end
end TW
set_option Elab.async false
set_option linter.all false
set_option maxRecDepth 100000
namespace TW
open PySem PySem.Spec PyProof.Rows L2 TL
def goodL (fs : List Str) (c : Nat) (d : PyData) : Bool := if c = 102 then oneD d fs else if c = 107 then oneD d ["freeze", "thaw"] else if c = 100 then depthD d else decide (c = 98) || wordD d
theorem good_right {fs : List Str} {r : Str} {d : PyData} (hr : r ∈ roles6) : goodL fs (roleL r) d = rightD fs d r := by
  simp only [roles6, List.mem_cons, List.not_mem_nil, or_false] at hr
  rcases hr with rfl | rfl | rfl | rfl | rfl | rfl
  · have e : roleL "variable" = 118 := by decide +kernel
    unfold goodL rightD
    rw [e, if_neg (by decide), if_neg (by decide), if_neg (by decide), if_neg (by decide +kernel), if_neg (by decide +kernel), if_neg (by decide +kernel), decide_eq_false (show ¬ ("variable" : Str) = "rows" by decide +kernel)]
    rfl
  · have e : roleL "field" = 102 := by decide +kernel
    unfold goodL rightD
    rw [e, if_pos rfl, if_pos rfl]
  · have e : roleL "kind" = 107 := by decide +kernel
    unfold goodL rightD
    rw [e, if_neg (by decide), if_pos rfl, if_neg (by decide +kernel), if_pos rfl]
  · have e : roleL "depth" = 100 := by decide +kernel
    unfold goodL rightD
    rw [e, if_neg (by decide), if_neg (by decide), if_pos rfl, if_neg (by decide +kernel), if_neg (by decide +kernel), if_pos rfl]
  · have e : roleL "reader" = 118 := by decide +kernel
    unfold goodL rightD
    rw [e, if_neg (by decide), if_neg (by decide), if_neg (by decide), if_neg (by decide +kernel), if_neg (by decide +kernel), if_neg (by decide +kernel), decide_eq_false (show ¬ ("reader" : Str) = "rows" by decide +kernel)]
    rfl
  · have e : roleL "rows" = 98 := by decide +kernel
    unfold goodL rightD
    rw [e, if_neg (by decide), if_neg (by decide), if_neg (by decide), if_neg (by decide +kernel), if_neg (by decide +kernel), if_neg (by decide +kernel), decide_eq_true (show ("rows" : Str) = "rows" from rfl)]
    rfl
theorem sgn {c n : Nat} {s : Str} (h : s = ⟨#[n]⟩) : decide (V.str ⟨#[c]⟩ = V.str s) = decide (c = n) := by
  subst h
  refine decide_eq_decide.mpr ⟨fun e => ?_, fun e => by rw [e]⟩
  have := V.str.inj e
  simpa using this
theorem s_f : (Str.ofString "f") = ⟨#[102]⟩ := by decide +kernel
theorem s_k : (Str.ofString "k") = ⟨#[107]⟩ := by decide +kernel
theorem s_d : (Str.ofString "d") = ⟨#[100]⟩ := by decide +kernel
theorem s_b : (Str.ofString "b") = ⟨#[98]⟩ := by decide +kernel
theorem s_v : (Str.ofString "v") = ⟨#[118]⟩ := by decide +kernel
def spGood (K : PySem.W.Frag) (fs : List Str) : Sp := fun vs H Q _ => ∃ (c : Nat) (u : V) (a : Addr) (d : PyData) (L : List Addr), vs = [.str ⟨#[c]⟩, u, .ref a] ∧ Dq H u d L ∧ Sm d ∧ (SqL K H a (fs.map V.str) ∨ SqT K H a (fs.map V.str)) ∧ ∀ H', Same H H' → Q (.bl (goodL fs c d)) H'
def rowFault (fs : List Str) (d : PyData) : Str := if formD d = false then "form" else if namesD fs d = false then "name" else ""
def spRowF (K : PySem.W.Frag) (fs : List Str) : Sp := fun vs H Q _ => ∃ (v : V) (a : Addr) (d : PyData) (L : List Addr), vs = [v, .ref a] ∧ Dq H v d L ∧ Sm d ∧ (SqL K H a (fs.map V.str) ∨ SqT K H a (fs.map V.str)) ∧ ∀ H', Same H H' → Q (.str (rowFault fs d)) H'
abbrev S_law_is_good : Stmt := topS 56
abbrev N_law_is_good : List Str := ["_law_letter", "_law_part", "_law_fields"]
abbrev P_law_is_good : List Str := ["_law_letter", "_law_part", "_law_fields"]
theorem sc_law_is_good : FnScope N_law_is_good P_law_is_good (defScope S_law_is_good) := ⟨rfl, rfl, rfl, by decide +kernel, rfl, by decide +kernel, by decide +kernel⟩
abbrev S_law_row_fault : Stmt := topS 57
abbrev N_law_row_fault : List Str := ["_law_row", "_law_fields", "_law_shape_here", "_law_k"]
abbrev P_law_row_fault : List Str := ["_law_row", "_law_fields"]
theorem sc_law_row_fault : FnScope N_law_row_fault P_law_row_fault (defScope S_law_row_fault) := ⟨rfl, rfl, rfl, by decide +kernel, rfl, by decide +kernel, by decide +kernel⟩
theorem isLst_ty {d : PyData} (h : isLst d = true) : tyD d = "list" := by
  cases d <;> first | rfl | exact absurd h Bool.false_ne_true
theorem shape_or (d : PyData) : (shapeD d = .non ∧ formD d = false) ∨ ∃ k ps rs z, d = .tuple (.str k :: ps) ∧ formsT.lookup k = some rs ∧ shapeD d = .str z ∧ z.cps.toList = rs.map roleL := by
  cases hf : shapeD d with
  | non =>
    refine .inl ⟨rfl, ?_⟩
    cases h : formD d with
    | false => rfl
    | true =>
      obtain ⟨k, ps, rs, rfl, hl, _⟩ := formD_some h
      obtain ⟨z, e, _⟩ := shape_good hl
      have : shapeD (.tuple (.str k :: ps)) = shapeV k := rfl
      rw [this, e] at hf
      cases hf
  | str z =>
    refine .inr ?_
    unfold shapeD at hf
    split at hf
    · rename_i k ps
      cases hl : formsT.lookup k with
      | none => rw [shape_none hl] at hf; cases hf
      | some rs =>
        obtain ⟨z', e, ez⟩ := shape_good hl
        rw [e] at hf
        cases hf
        exact ⟨k, ps, rs, _, rfl, hl, rfl, ez⟩
    · cases hf
  | _ =>
    exfalso
    unfold shapeD at hf
    split at hf
    · rename_i k ps
      cases hl : formsT.lookup k with
      | none => rw [shape_none hl] at hf; cases hf
      | some rs =>
        obtain ⟨z', e, ez⟩ := shape_good hl
        rw [e] at hf
        cases hf
    · cases hf
theorem role98 {r : Str} (hr : r ∈ roles6) : (roleL r = 98) ↔ r = "rows" := by
  simp only [roles6, List.mem_cons, List.not_mem_nil, or_false] at hr
  rcases hr with rfl | rfl | rfl | rfl | rfl | rfl <;> decide +kernel
section
variable {P : Program} {w : World} {K : PySem.W.Frag} {mg : Str → Option Value} {base : Heap}
set_option maxHeartbeats 4000000 in
theorem ok_law_is_good {f fW : Addr} {fd fdW : FuncData} {fs : List Str} (F : Fun K "_law_is_good" "_law_is_good" S_law_is_good f fd) (B : Bl mg) (d_law_is_word : Df K mg "_law_is_word" S_law_is_word fW fdW P_law_is_word) (G_law_is_word : FnOk P w K mg base CX0 1 fW fdW P_law_is_word (spWordL K)) : FnOk P w K mg base CX0 2 f fd P_law_is_good (spGood K fs) := by
  refine F.ok sc_law_is_good (fun vs H Q E h => ?_) (fun cdv A outer s H vs Q E hr h => ?_)
  · obtain ⟨c, u, a, d, L, rfl, _⟩ := h
    rfl
  · obtain ⟨c, u, a, d, L, rfl, hq, sm, hS, kk⟩ := h
    have hr_law_is_word : Room 1 _ := hr.mono (Nat.le_refl _)
    have hk : Kd K H u (tyD d) := hq.kd sm
    have nstr : (tyD d == "str") = false → ∀ ws, oneD d ws = false := fun h ws => by
      cases d <;> first | rfl | exact absurd h (show ¬ ("str" == "str") = false by decide)
    refine ⟨_, (pss_cons (ps_if (pt_cmpR op_eq (pv 0) pe_str (nomark _)) (pss_one (ps_ret (pe_and (pe_callB call_isi (by rfl) B.m_isinstance (by decide +kernel) (pa_cons (pv 1) (pa_cons (pe_bltn (v := .ty "str") (by rfl) B.m_str (by decide +kernel) rfl) pa_nil))) (pe_one (pe_cmpR op_in_seq (pv 1) (pv 2) (by rfl)))))) pss_nil)
 (pss_cons (ps_if (pt_cmpR op_eq (pv 0) pe_str (nomark _)) (pss_one (ps_ret (pe_and (pe_callB call_isi (by rfl) B.m_isinstance (by decide +kernel) (pa_cons (pv 1) (pa_cons (pe_bltn (v := .ty "str") (by rfl) B.m_str (by decide +kernel) rfl) pa_nil))) (pe_one (pe_cmpR op_in_seq (pv 1) (pe_tup (pa_cons pe_str (pa_cons pe_str pa_nil))) (by rfl)))))) pss_nil)
 (pss_cons (ps_if (pt_cmpR op_eq (pv 0) pe_str (nomark _)) (pss_one (ps_ret (pe_and (pe_callB call_isi (by rfl) B.m_isinstance (by decide +kernel) (pa_cons (pv 1) (pa_cons (pe_bltn (v := .ty "int") (by rfl) B.m_int (by decide +kernel) rfl) pa_nil))) (pe_and (pe_not (pe_callB call_isi (by rfl) B.m_isinstance (by decide +kernel) (pa_cons (pv 1) (pa_cons (pe_bltn (v := .ty "bool") (by rfl) B.m_bool (by decide +kernel) rfl) pa_nil)))) (pe_and (pe_cmpR op_le pe_int (pv 1) (nomark _)) (pe_one (pe_cmpR op_le (pv 1) pe_int (nomark _)))))))) pss_nil)
 (pss_one (ps_ret (pe_or (pe_cmpR op_eq (pv 0) pe_str (nomark _)) (pe_one (pe_call G_law_is_word hr_law_is_word rfl d_law_is_word.g d_law_is_word.F.kp d_law_is_word.b .nil pass0 (pa_cons (pv 1) pa_nil))))))))), ?_⟩
    refine ⟨_, rfl, rfl, _, rfl, ?_⟩
    rw [sgn s_f]
    refine ite_dec (fun hb => ?_) (fun hb => ?_)
    · have e : goodL fs c d = oneD d fs := if_pos (of_decide_eq_true hb)
      rw [e] at kk
      refine ⟨_, rfl, _, _, _, _, _, rfl, .ty "str", hk.t, kit7_str hk.m, _, rfl, ?_⟩
      refine ite_dec (fun hb => ?_) (fun hb => ?_)
      · obtain ⟨z, rfl⟩ := (ty_str hk.t).mp (eq_of_beq hb)
        refine ⟨_, rfl, _, rfl, a, _, rfl, hS, rfl, TW.flat_strs fs, ?_⟩
        have e : inV (.str z) (fs.map V.str) = oneD d fs := by
          rw [← one_v hq]
          exact inV_strs
        have := kk H (Same.refl H)
        rw [← e] at this
        exact this
      · have := kk H (Same.refl H)
        rw [nstr hb] at this
        exact this
    have n1 := of_decide_eq_false hb
    refine ⟨_, rfl, rfl, _, rfl, ?_⟩
    rw [sgn s_k]
    refine ite_dec (fun hb => ?_) (fun hb => ?_)
    · have e : goodL fs c d = oneD d ["freeze", "thaw"] := (if_neg n1).trans (if_pos (of_decide_eq_true hb))
      rw [e] at kk
      refine ⟨_, rfl, _, _, _, _, _, rfl, .ty "str", hk.t, kit7_str hk.m, _, rfl, ?_⟩
      refine ite_dec (fun hb => ?_) (fun hb => ?_)
      · obtain ⟨z, rfl⟩ := (ty_str hk.t).mp (eq_of_beq hb)
        refine ⟨_, rfl, (by show 2 ≤ sizeLine; decide), fun p1 hp1 => ⟨p1, _, rfl, .inr (SqT.of upd_same), rfl, rfl, ?_⟩⟩
        have e : inV (.str z) (([("freeze" : Str), "thaw"] : List Str).map V.str) = oneD d ["freeze", "thaw"] := by
          rw [← one_v hq]
          exact inV_strs
        have := kk _ (same_new (o := .tup [.str "freeze", .str "thaw"]) hp1)
        rw [← e] at this
        exact this
      · have := kk H (Same.refl H)
        rw [nstr hb] at this
        exact this
    have n2 := of_decide_eq_false hb
    refine ⟨_, rfl, rfl, _, rfl, ?_⟩
    rw [sgn s_d]
    refine ite_dec (fun hb => ?_) (fun hb => ?_)
    · have e : goodL fs c d = depthD d := (if_neg n1).trans ((if_neg n2).trans (if_pos (of_decide_eq_true hb)))
      rw [e] at kk
      have kH := kk H (Same.refl H)
      refine ⟨_, rfl, _, _, _, _, _, rfl, .ty "int", hk.t, kit7_int hk.m, _, rfl, ?_⟩
      refine ite_dec (fun hb1 => ?_) (fun hb1 => ?_)
      · refine ⟨_, rfl, _, _, _, _, _, rfl, .ty "bool", hk.t, kit7_bool hk.m, _, rfl, _, rfl, ?_⟩
        refine ite_dec (fun hb2 => ?_) (fun hb2 => ?_)
        · have hi : tyD d = "int" := by
            rcases Bool.or_eq_true_iff.mp hb1 with h | h
            · exact eq_of_beq h
            · rw [h] at hb2
              exact absurd hb2 (by decide)
          obtain ⟨i, rfl⟩ := (ty_int hk.t).mp hi
          cases hq
          refine ⟨_, rfl, _, _, rfl, rfl, _, rfl, ?_⟩
          refine ite_dec (fun h1 => ?_) (fun h1 => ?_)
          · refine ⟨_, rfl, _, _, rfl, rfl, ?_⟩
            have h1' : 0 ≤ i := of_decide_eq_true h1
            have e : depthD (.int i) = decide (i ≤ 4) := by simp [depthD, h1']
            rw [e] at kH
            exact kH
          · have h1' : ¬ 0 ≤ i := of_decide_eq_false h1
            have e : depthD (.int i) = false := by simp [depthD, h1']
            rw [e] at kH
            exact kH
        · have e : depthD d = false := by
            have hb3 : (tyD d == "bool") = true := by simpa using hb2
            have := eq_of_beq hb3
            cases d <;> first | rfl | exact absurd this (show ¬ "int" = "bool" by decide)
          rw [e] at kH
          exact kH
      · have e : depthD d = false := by
          have := (Bool.or_eq_false_iff.mp hb1).1
          cases d <;> first | rfl | exact absurd this (show ¬ ("int" == "int") = false by decide)
        rw [e] at kH
        exact kH
    have n3 := of_decide_eq_false hb
    have e : goodL fs c d = (decide (c = 98) || wordD d) := (if_neg n1).trans ((if_neg n2).trans (if_neg n3))
    rw [e] at kk
    have kH := kk H (Same.refl H)
    refine ⟨_, rfl, rfl, _, rfl, ?_⟩
    rw [sgn s_b]
    refine ite_dec (fun hb => ?_) (fun hb => ?_)
    · rw [hb] at kH
      exact kH
    · rw [hb, Bool.false_or, ← isWb_v hq] at kH
      exact ⟨_, rfl, u, tyD d, rfl, hk, kH⟩
end
end TW
set_option Elab.async false
set_option linter.all false
set_option maxRecDepth 100000
namespace TW
open PySem PySem.Spec PyProof.Rows L2 TL
theorem all_zip {α β : Type} {l : List α} {m : List β} {f : α × β → Bool} : (l.zip m).all f = true ↔ ∀ (j : Nat) (a : α) (b : β), l[j]? = some a → m[j]? = some b → f (a, b) = true := by
  rw [List.all_eq_true]
  constructor
  · intro h j a b ha hb
    exact h (a, b) (List.mem_iff_getElem?.mpr ⟨j, List.getElem?_zip_eq_some.mpr ⟨ha, hb⟩⟩)
  · rintro h ⟨a, b⟩ hm
    obtain ⟨j, hj⟩ := List.mem_iff_getElem?.mp hm
    obtain ⟨h1, h2⟩ := List.getElem?_zip_eq_some.mp hj
    exact h j a b h1 h2
theorem all_zip_false {α β : Type} {l : List α} {m : List β} {f : α × β → Bool} {j : Nat} {a : α} {b : β} (h1 : l[j]? = some a) (h2 : m[j]? = some b) (hf : f (a, b) = false) : (l.zip m).all f = false := by
  cases h : (l.zip m).all f with
  | false => rfl
  | true =>
    rw [all_zip.mp h j a b h1 h2] at hf
    cases hf
theorem str_len {z : Str} {l : List Nat} (h : z.cps.toList = l) : z.length = l.length := by
  have : z.cps.size = l.length := by rw [← h]; simp
  exact this
theorem names_eq {fs : List Str} {k : Str} {ps : List PyData} {rs : List Str} (hl : formsT.lookup k = some rs) : namesD fs (.tuple (.str k :: ps)) = (ps.zip rs).all fun p => rightD fs p.1 p.2 := by
  unfold namesD rolesOf
  show (ps.zip ((formsT.lookup k).getD [])).all _ = _
  rw [hl]
  rfl
section
variable {P : Program} {w : World} {K : PySem.W.Frag} {mg : Str → Option Value} {base : Heap}
set_option maxHeartbeats 4000000 in
theorem ok_law_row_fault {f fS fG : Addr} {fd fdS fdG : FuncData} {fs : List Str} (F : Fun K "_law_row_fault" "_law_row_fault" S_law_row_fault f fd) (B : Bl mg) (d_law_shape : Df K mg "_law_shape" S_law_shape fS fdS P_law_shape) (G_law_shape : FnOk P w K mg base CX0 1 fS fdS P_law_shape spShape)
    (d_law_is_good : Df K mg "_law_is_good" S_law_is_good fG fdG P_law_is_good) (G_law_is_good : FnOk P w K mg base CX0 2 fG fdG P_law_is_good (spGood K fs)) : FnOk P w K mg base CX0 3 f fd P_law_row_fault (spRowF K fs) := by
  refine F.ok sc_law_row_fault (fun vs H Q E h => ?_) (fun cdv A outer s H vs Q E hr h => ?_)
  · obtain ⟨v, a, d, L, rfl, _⟩ := h
    rfl
  · obtain ⟨v, a, d, L, rfl, hq, sm, hS, kk⟩ := h
    have hr_law_shape : Room 1 _ := hr.mono (by decide)
    have hr_law_is_good : Room 2 _ := hr.mono (by decide)
    refine ⟨_, (pss_cons (ps_set (i := 2) sc_law_row_fault.nd rfl (by first | exact Or.inl rfl | exact Or.inr rfl) (pe_call G_law_shape hr_law_shape rfl d_law_shape.g d_law_shape.F.kp d_law_shape.b .nil pass0 (pa_cons (pv 0) pa_nil)))
 (pss_cons (ps_if (PW.pt (pw_or (pt_cmpR op_isN (pv 2) pe_non (nomark _)) (pw_or1 (pt_cmpR op_ne (pe_callB call_len_seq (by rfl) B.m_len PySem.boot_len (pa_cons (pv 0) pa_nil)) (pe_op op_add (pe_callB call_len_str (by rfl) B.m_len PySem.boot_len (pa_cons (pv 2) pa_nil)) pe_int) (nomark _))))) (pss_one (ps_ret pe_str)) pss_nil)
 (pss_cons (ps_for PassesOwn.never rfl (pi_range1 (by rfl) B.m_range (pa_cons (pe_callB call_len_str (by rfl) B.m_len PySem.boot_len (pa_cons (pv 2) pa_nil)) pa_nil)) (pg_name (i := 3) sc_law_row_fault.nd rfl (by first | exact Or.inl rfl | exact Or.inr rfl)) (pss_one (ps_if (PW.pt (pw_and (pt_cmpR op_eq (pe_ix ix_str (pv 2) (pv 3) (fun _ _ => rfl)) pe_str (nomark _)) (pw_and1 (pt_not (pt_val (pe_callB call_isi (by rfl) B.m_isinstance (by decide +kernel) (pa_cons (pe_ix ix_tup (pv 0) (pe_op op_add (pv 3) pe_int) (fun _ _ => rfl)) (pa_cons (pe_bltn (v := .ty "list") (by rfl) B.m_list (by decide +kernel) rfl) pa_nil)))))))) (pss_one (ps_ret pe_str)) pss_nil)))
 (pss_cons (ps_for PassesOwn.never rfl (pi_range1 (by rfl) B.m_range (pa_cons (pe_callB call_len_str (by rfl) B.m_len PySem.boot_len (pa_cons (pv 2) pa_nil)) pa_nil)) (pg_name (i := 3) sc_law_row_fault.nd rfl (by first | exact Or.inl rfl | exact Or.inr rfl)) (pss_one (ps_if (pt_not (pt_val (pe_call G_law_is_good hr_law_is_good rfl d_law_is_good.g d_law_is_good.F.kp d_law_is_good.b .nil pass0 (pa_cons (pe_ix ix_str (pv 2) (pv 3) (fun _ _ => rfl)) (pa_cons (pe_ix ix_tup (pv 0) (pe_op op_add (pv 3) pe_int) (fun _ _ => rfl)) (pa_cons (pv 1) pa_nil)))))) (pss_one (ps_ret pe_str)) pss_nil)))
 (pss_one (ps_ret pe_str)))))), ?_⟩
    refine ⟨_, rfl, v, d, L, rfl, hq, sm, fun H1 s1 => ?_⟩
    have k1 := kk H1 s1
    have form : formD d = false → Q (.str "form") H1 := fun e => by
      have e2 : rowFault fs d = "form" := if_pos e
      rwa [e2] at k1
    rcases shape_or d with ⟨e, ef⟩ | ⟨k, ps, rs, z, rfl, hl, ez, el⟩
    · rw [e]
      exact ⟨_, rfl, rfl, _, rfl, ite_dec (fun _ => form ef) (fun hb => absurd rfl (of_decide_eq_false hb))⟩
    rw [ez]
    have zl : z.length = rs.length := by
      rw [str_len el, List.length_map]
    obtain ⟨f1, f4⟩ := forms_len hl
    have hzl : z.length ≤ sizeLine := Nat.le_of_lt (small1000 (by omega))
    refine ⟨_, rfl, rfl, _, rfl, ite_dec (fun hb => by cases of_decide_eq_true hb) (fun _ => ?_)⟩
    have hds : (PyData.str k :: ps).length ≤ 100 ∧ ∀ d ∈ PyData.str k :: ps, Sm d := by cases sm with | tup l s => exact ⟨l, s⟩
    cases hq with
    | @tup r xs _ _ hrt du =>
    cases du with
    | @cons u us _ _ L0 M0 q0 dps =>
    cases q0 with
    | str _ =>
    have hr1 := s1 _ _ hrt
    have ul : us.length = ps.length := dps.len
    refine ⟨_, rfl, r, _, rfl, .inr (SqT.of hr1), _, rfl, z, rfl, hzl, _, _, rfl, rfl, rfl, _, rfl, ite_dec (fun hb => ?_) (fun hb => ?_)⟩
    · refine form ?_
      rw [formD_eq hl]
      have : ¬ ps.length = rs.length := fun e => by
        have e2 : (V.int ((V.str k :: us).length : Int)) = V.int ((z.length : Int) + 1) := by
          rw [List.length_cons, ul, e, zl]
          rfl
        rw [decide_eq_true e2] at hb
        exact Bool.noConfusion hb
      rw [decide_eq_false this]
      rfl
    have hlen : ps.length = rs.length := by
      have h2 : decide (V.int ((V.str k :: us).length : Int) = V.int ((z.length : Int) + 1)) = true := by simpa using hb
      have := V.int.inj (of_decide_eq_true h2)
      rw [List.length_cons] at this
      omega
    have rol := forms_roles hl
    have zat : ∀ {i : Nat}, i < rs.length → ∃ r0, rs[i]? = some r0 ∧ r0 ∈ roles6 ∧ z.cps.toList[i]? = some (roleL r0) := fun {i} hi => by
      refine ⟨rs[i], List.getElem?_eq_getElem hi, rol _ (List.getElem_mem hi), ?_⟩
      rw [el, List.getElem?_map, List.getElem?_eq_getElem hi]
      rfl
    refine ⟨_, rfl, z, rfl, hzl, _, rfl, by omega, by omega, for_range (lo := 0) (n := ((z.length : Nat) : Int).toNat) (fun i σ G => (∃ z3, σ = [some (.ref r), some (.ref a), some (.str z), z3]) ∧ G = H1 ∧ ∀ j p r0, j < i → ps[j]? = some p → rs[j]? = some r0 → (!decide (r0 = ("rows" : Str)) || isLst p) = true) ⟨⟨_, rfl⟩, rfl, fun j p r0 h => absurd h (Nat.not_lt_zero _)⟩ ?_ ?_⟩
    · rintro i σ G hi ⟨⟨z3, rfl⟩, rfl, ih⟩
      have ei : (0 : Int) + (i : Int) = (i : Int) := Int.zero_add _
      rw [ei]
      have hir : i < rs.length := by omega
      obtain ⟨r0, hr0, h6, hc⟩ := zat hir
      have hip : i < ps.length := by omega
      have hdi : ps[i]? = some ps[i] := List.getElem?_eq_getElem hip
      have hui : us[i]? = some (us[i]'(by omega)) := List.getElem?_eq_getElem _
      obtain ⟨d1, N, hd1, hq1, _⟩ := dps.get hui
      have sm1 := hds.2 d1 (List.mem_cons_of_mem _ (List.mem_of_getElem? hd1))
      have hk1 : Kd K G (us[i]'(by omega)) (tyD d1) := (hq1.same s1).kd sm1
      refine ⟨_, rfl, _, rfl, z, _, roleL r0, rfl, rfl, hzl, atI_nat hc, rfl, _, rfl, ?_⟩
      rw [sgn s_b]
      have fin : (!decide (r0 = ("rows" : Str)) || isLst d1) = true → ((∃ z3, [some (V.ref r), some (.ref a), some (.str z), some (.int (i : Int))] = [some (.ref r), some (.ref a), some (.str z), z3]) ∧ G = G ∧ ∀ j p r0, j < i + 1 → ps[j]? = some p → rs[j]? = some r0 → (!decide (r0 = ("rows" : Str)) || isLst p) = true) := fun h => by
        refine ⟨⟨_, rfl⟩, rfl, fun j p r1 hj hp hr1 => ?_⟩
        by_cases e : j < i
        · exact ih j p r1 e hp hr1
        · have : j = i := by omega
          subst this
          rw [hd1] at hp
          rw [hr0] at hr1
          cases hp
          cases hr1
          exact h
      refine ite_dec (fun hb => ?_) (fun hb => ?_)
      · have e98 := (role98 h6).mp (of_decide_eq_true hb)
        refine ⟨_, rfl, _, rfl, _, _, rfl, rfl, r, _, _, _, rfl, rfl, SqT.of hr1, atI_of (j := i + 1) (by omega) (by rw [List.getElem?_cons_succ]; exact hui), _, _, _, _, _, rfl, .ty "list", hk1.t, kit7_list hk1.m, _, rfl, ?_⟩
        rw [ty_lst]
        cases hl1 : isLst d1 with
        | true =>
          refine iteF (fin ?_)
          rw [hl1, Bool.or_true]
        | false =>
          refine iteT (form ?_)
          rw [formD_eq hl]
          have : rolesB ps rs = false := all_zip_false hd1 hr0 (by
            show (!decide (r0 = ("rows" : Str)) || isLst d1) = false
            rw [hl1, decide_eq_true e98]
            rfl)
          rw [this, Bool.and_false]
      · refine fin ?_
        have n98 : ¬ r0 = "rows" := fun e => of_decide_eq_false hb ((role98 h6).mpr e)
        rw [decide_eq_false n98]
        rfl
    rintro σ G ⟨⟨z3, rfl⟩, rfl, ih⟩
    have fo : formD (.tuple (.str k :: ps)) = true := by
      rw [formD_eq hl, decide_eq_true hlen, Bool.true_and]
      refine all_zip.mpr fun j p r0 hp hr0 => ih j p r0 ?_ hp hr0
      have := (List.getElem?_eq_some_iff.mp hr0).1
      omega
    refine ⟨_, rfl, z, rfl, hzl, _, rfl, by omega, by omega, for_range (lo := 0) (n := ((z.length : Nat) : Int).toNat) (fun i σ G' => (∃ z3, σ = [some (.ref r), some (.ref a), some (.str z), z3]) ∧ Same H G' ∧ ∀ j p r0, j < i → ps[j]? = some p → rs[j]? = some r0 → rightD fs p r0 = true) ⟨⟨_, rfl⟩, s1, fun j p r0 h => absurd h (Nat.not_lt_zero _)⟩ ?_ ?_⟩
    · rintro i σ G' hi ⟨⟨z3, rfl⟩, sG, ih2⟩
      have ei : (0 : Int) + (i : Int) = (i : Int) := Int.zero_add _
      rw [ei]
      have hir : i < rs.length := by omega
      obtain ⟨r0, hr0, h6, hc⟩ := zat hir
      have hui : us[i]? = some (us[i]'(by omega)) := List.getElem?_eq_getElem _
      obtain ⟨d1, N, hd1, hq1, _⟩ := dps.get hui
      have sm1 := hds.2 d1 (List.mem_cons_of_mem _ (List.mem_of_getElem? hd1))
      refine ⟨_, rfl, _, rfl, z, _, roleL r0, rfl, rfl, hzl, atI_nat hc, _, rfl, _, rfl, _, _, rfl, rfl, r, _, _, _, rfl, rfl, SqT.of (sG _ _ hrt), atI_of (j := i + 1) (by omega) (by rw [List.getElem?_cons_succ]; exact hui), _, rfl, roleL r0, _, a, d1, N, rfl, hq1.same sG, sm1, seq_same sG hS, fun H2 s2 => ⟨_, rfl, ?_⟩⟩
      rw [good_right h6]
      cases hg : rightD fs d1 r0 with
      | true =>
        refine iteF ⟨⟨_, rfl⟩, sG.trans s2, fun j p r1 hj hp hr1 => ?_⟩
        by_cases e : j < i
        · exact ih2 j p r1 e hp hr1
        · have : j = i := by omega
          subst this
          rw [hd1] at hp
          rw [hr0] at hr1
          cases hp
          cases hr1
          exact hg
      | false =>
        refine iteT ?_
        have k2 := kk H2 (sG.trans s2)
        have nf : namesD fs (.tuple (.str k :: ps)) = false := by
          rw [names_eq hl]
          exact all_zip_false hd1 hr0 hg
        have e : rowFault fs (.tuple (.str k :: ps)) = "name" := (if_neg (by rw [fo]; exact Bool.noConfusion)).trans (if_pos nf)
        rwa [e] at k2
    · rintro σ G' ⟨⟨z3, rfl⟩, sG, ih2⟩
      have k2 := kk G' sG
      have na : namesD fs (.tuple (.str k :: ps)) = true := by
        rw [names_eq hl]
        refine all_zip.mpr fun j p r0 hp hr0 => ih2 j p r0 ?_ hp hr0
        have := (List.getElem?_eq_some_iff.mp hr0).1
        omega
      have e : rowFault fs (.tuple (.str k :: ps)) = "" := (if_neg (by rw [fo]; exact Bool.noConfusion)).trans (if_neg (by rw [na]; exact Bool.noConfusion))
      rwa [e] at k2
end
end TW
set_option Elab.async false
set_option linter.all false
set_option maxRecDepth 100000
namespace TW
open PySem PySem.Spec PyProof.Rows L2 TL
/-- the readers of a walk -/
def RW (l : List (List Int × PyData)) : List Str := l.flatMap fun e => readersOf e.2
theorem RW_append (l m : List (List Int × PyData)) : RW (l ++ m) = RW l ++ RW m := List.flatMap_append
theorem RW_le (l : List (List Int × PyData)) : (RW l).length ≤ l.length := by
  induction l with
  | nil => exact Nat.le_refl _
  | cons q l ih =>
    have e : RW (q :: l) = readersOf q.2 ++ RW l := List.flatMap_cons
    rw [e, List.length_append, List.length_cons]
    have : (readersOf q.2).length ≤ 1 := by
      unfold readersOf
      split <;> simp
    omega
theorem fault_go {fs seen : List Str} {l m : List (List Int × PyData)} (h : faultW fs seen l = none) : faultW fs seen (l ++ m) = faultW fs (seen ++ RW l) m := by
  rw [faultW_append, h]
  rfl
theorem fault_stop {fs seen : List Str} {l m : List (List Int × PyData)} {x : Str × List Int} (h : faultW fs seen l = some x) : faultW fs seen (l ++ m) = some x := by
  rw [faultW_append, h]
def spFault (K : PySem.W.Frag) (fs : List Str) (n : Nat) : Sp := fun vs H Q _ => ∃ (a q f rd : Addr) (ds : List PyData) (L : List Addr) (bs : List Int) (seen : List Str), vs = [.ref a, .ref q, .ref f, .ref rd] ∧ 4 - (bs.length + 1) / 2 = n ∧ bs.length ≤ 8 ∧ Dq H (.ref a) (.list ds) L ∧ ds.length ≤ 100 ∧ (∀ d ∈ ds, Sm d) ∧ SqT K H q (bs.map V.int) ∧ H f = some (.lst (fs.map V.str)) ∧ f ≠ rd ∧
  H rd = some (.lst (seen.map V.str)) ∧ rd ∉ L ∧ seen.length + (walkD n bs ds).length ≤ 500 ∧
  (faultW fs seen (walkD n bs ds) = none → ∀ H', OnlyL [rd] H H' → H' rd = some (.lst ((seen ++ RW (walkD n bs ds)).map V.str)) → Q .non H') ∧
  (∀ part pl, faultW fs seen (walkD n bs ds) = some (part, pl) → ∀ t H', OnlyL [rd] H H' → Dq H' (.ref t) (.tuple [.str part, .tuple (pl.map PyData.int)]) [] → Q (.ref t) H')
def spFaultI (K : PySem.W.Frag) (fs : List Str) : Nat → Sp
  | 0 => fun _ _ _ _ => False
  | n + 1 => spFault K fs n
theorem OnlyL.of_same {L : List Addr} {H H' : Hp} (s : Same H H') : OnlyL L H H' := fun b o e _ => s b o e
theorem OnlyL.trans {L : List Addr} {H H' H'' : Hp} (s : OnlyL L H H') (t : OnlyL L H' H'') : OnlyL L H H'' := fun b o e n => t b o (s b o e n) n
theorem keep1 {rd : Addr} {H G : Hp} {M : List Addr} {zs : List V} (s : OnlyL [rd] H G) (hrd : H rd = some (.lst zs)) (hM : ∀ x ∈ M, ∃ xs, H x = some (.lst xs)) (n : rd ∉ M) : KeepL M H G := ⟨fun b m => by
  obtain ⟨xs, e⟩ := hM b m
  rw [e]
  exact s _ _ e fun z => n (by rw [← List.mem_singleton.mp z]; exact m), fun b xs e => s _ _ e fun z => by rw [List.mem_singleton.mp z, hrd] at e; cases e⟩
theorem sqt_only {K : PySem.W.Frag} {rd a : Addr} {H G : Hp} {xs zs : List V} (s : OnlyL [rd] H G) (hrd : H rd = some (.lst zs)) (h : SqT K H a xs) : SqT K G a xs := by
  have ne : ∀ {o : HO}, H a = some o → (∀ zs, o ≠ .lst zs) → a ∉ [rd] := fun e n m => by
    rw [List.mem_singleton.mp m, hrd] at e
    exact n _ (Option.some.inj e).symm
  rcases h with (h | ⟨o, h⟩) | h
  · exact .inl (.inl (s _ _ h (ne h fun zs z => by cases z)))
  · exact .inl (.inr ⟨o, s _ _ h (ne h fun zs z => by cases z)⟩)
  · exact .inr h
theorem placed_at {bs : List Int} {ds : List PyData} {i : Nat} {d : PyData} (h : ds[i]? = some d) : (placed bs ds)[i]? = some (bs ++ [(i : Int)], d) := by
  unfold placed
  rw [List.getElem?_map, List.getElem?_zipIdx, h]
  simp
theorem drop_at {α : Type} {l : List α} {i : Nat} {x : α} (h : l[i]? = some x) : l.drop i = x :: l.drop (i + 1) := by
  obtain ⟨hi, e⟩ := List.getElem?_eq_some_iff.mp h
  rw [← e]
  exact List.drop_eq_getElem_cons hi
abbrev S_law_fault : Stmt := topS 58
abbrev N_law_fault : List Str := ["_law_rows", "_law_base", "_law_fields", "_law_readers", "_law_k", "_law_place", "_law_row", "_law_fault_here", "_law_side", "_law_found"]
abbrev P_law_fault : List Str := ["_law_rows", "_law_base", "_law_fields", "_law_readers"]
theorem sc_law_fault : FnScope N_law_fault P_law_fault (defScope S_law_fault) := ⟨rfl, rfl, rfl, by decide +kernel, rfl, by decide +kernel, by decide +kernel⟩
section
variable {P : Program} {w : World} {K : PySem.W.Frag} {mg : Str → Option Value} {base : Heap}
set_option maxHeartbeats 8000000 in
theorem ok_law_fault_step {f fR : Addr} {fd fdR : FuncData} {fs : List Str} (F : Fun K "_law_fault" "_law_fault" S_law_fault f fd) (B : Bl mg) (n : Nat) (d_law_fault : Df K mg "_law_fault" S_law_fault f fd P_law_fault) (G_law_fault : FnOk P w K mg base CX0 (n + 3) f fd P_law_fault (spFaultI K fs n))
    (d_law_row_fault : Df K mg "_law_row_fault" S_law_row_fault fR fdR P_law_row_fault) (G_law_row_fault : FnOk P w K mg base CX0 3 fR fdR P_law_row_fault (spRowF K fs)) : FnOk P w K mg base CX0 (n + 4) f fd P_law_fault (spFault K fs n) := by
  refine F.ok sc_law_fault (fun vs H Q E h => ?_) (fun cdv A outer s H vs Q E hr h => ?_)
  · obtain ⟨a, q, f, rd, ds, L, bs, seen, rfl, _⟩ := h
    rfl
  · obtain ⟨a, q, f, rd, ds, L, bs, seen, rfl, hn, b8, hd, l100, sm, hbs, hf, frd, hrd, nL, r500, kN, kS⟩ := h
    have hr_law_fault : Room (n + 3) _ := hr
    have hr_law_row_fault : Room 3 _ := hr.mono (by omega)
    have hdL := hd.there
    rw [walk_placedX hn] at r500 kN kS
    cases hd with
    | @lst _ xs _ L0 ha da =>
    have hlen := da.len
    have tlen : (placed bs ds).length = ds.length := placed_len
    have hrdA : rd ≠ a := fun z => nL (by rw [z]; exact List.mem_cons_self ..)
    have nL0 : rd ∉ L0 := fun m => nL (List.mem_cons_of_mem _ m)
    have hL0 : ∀ x ∈ L0, ∃ xs, H x = some (.lst xs) := fun x m => hdL x (List.mem_cons_of_mem _ m)
    refine ⟨_, (pss_cons (ps_for PassesOwn.never rfl (pi_range1 (by rfl) B.m_range (pa_cons (pe_callB call_len_seq (by rfl) B.m_len PySem.boot_len (pa_cons (pv 0) pa_nil)) pa_nil)) (pg_name (i := 4) sc_law_fault.nd rfl (by first | exact Or.inl rfl | exact Or.inr rfl)) (pss_cons (ps_cut (ps_set (i := 5) sc_law_fault.nd rfl (by first | exact Or.inl rfl | exact Or.inr rfl) (pe_op op_catA (pv 1) (pe_tup (pa_cons (pv 4) pa_nil)))))
 (pss_cons (ps_set (i := 6) sc_law_fault.nd rfl (by first | exact Or.inl rfl | exact Or.inr rfl) (pe_ix ix_list (pv 0) (pv 4) (fun _ _ => rfl)))
 (pss_cons (ps_if (pt_cmpR op_gt (pe_callB call_len_seq (by rfl) B.m_len PySem.boot_len (pa_cons (pv 5) pa_nil)) pe_int (nomark _)) (pss_one (ps_ret (pe_tup (pa_cons pe_str (pa_cons (pv 5) pa_nil))))) pss_nil)
 (pss_cons (ps_set (i := 7) sc_law_fault.nd rfl (by first | exact Or.inl rfl | exact Or.inr rfl) (pe_call G_law_row_fault hr_law_row_fault rfl d_law_row_fault.g d_law_row_fault.F.kp d_law_row_fault.b .nil pass0 (pa_cons (pv 6) (pa_cons (pv 2) pa_nil))))
 (pss_cons (ps_cut (ps_if (PW.pt (pw_and (pt_cmpR op_eq (pv 7) pe_str (nomark _)) (pw_and1 (pt_cmpR op_eq (pe_ix ix_tup (pv 6) pe_int (fun _ _ => rfl)) pe_str (nomark _))))) (pss_cons (ps_if (pt_cmpR op_in_seq (pe_ix ix_tup (pv 6) pe_int (fun _ _ => rfl)) (pv 3) (by rfl)) (pss_one (ps_set (i := 7) sc_law_fault.nd rfl (by first | exact Or.inl rfl | exact Or.inr rfl) pe_str)) pss_nil)
 (pss_one (ps_expr (pe_bm PySem.F.plainAttrs_list PySem.F.slot_list_append PySem.F.type_list_append mt_append (pv 3) (pa_cons (pe_ix ix_tup (pv 6) pe_int (fun _ _ => rfl)) pa_nil))))) pss_nil))
 (pss_cons (ps_if (pt_cmpR op_ne (pv 7) pe_str (nomark _)) (pss_one (ps_ret (pe_tup (pa_cons (pv 7) (pa_cons (pv 5) pa_nil))))) pss_nil)
 (pss_one (ps_if (pt_cmpR op_in_seq (pe_ix ix_tup (pv 6) pe_int (fun _ _ => rfl)) (pe_tup (pa_cons pe_str (pa_cons pe_str pa_nil))) (by rfl)) (pss_one (ps_for PassesOwn.never rfl (pi_range1 (by rfl) B.m_range (pa_cons pe_int pa_nil)) (pg_name (i := 8) sc_law_fault.nd rfl (by first | exact Or.inl rfl | exact Or.inr rfl)) (pss_cons (ps_set (i := 9) sc_law_fault.nd rfl (by first | exact Or.inl rfl | exact Or.inr rfl) (pe_call G_law_fault hr_law_fault rfl d_law_fault.g d_law_fault.F.kp d_law_fault.b .nil pass0 (pa_cons (pe_ix ix_tup (pv 6) (pe_op op_add (pe_op op_sub (pe_callB call_len_seq (by rfl) B.m_len PySem.boot_len (pa_cons (pv 6) pa_nil)) pe_int) (pv 8)) (fun _ _ => rfl)) (pa_cons (pe_op op_catA (pv 5) (pe_tup (pa_cons (pv 8) pa_nil))) (pa_cons (pv 2) (pa_cons (pv 3) pa_nil))))))
 (pss_one (ps_if (pt_cmpR op_notN (pv 9) pe_non (nomark _)) (pss_one (ps_ret (pv 9))) pss_nil))))) pss_nil)))))))))
 (pss_one (ps_ret pe_non))), ?_⟩
    refine ⟨_, rfl, a, xs, rfl, .inl (SqL.of ha), _, rfl, by omega, by omega, for_range (lo := 0) (n := ((xs.length : Nat) : Int).toNat) (fun i σ G => ∃ (z4 z5 z6 z7 z8 z9 : Option V), σ = [some (.ref a), some (.ref q), some (.ref f), some (.ref rd), z4, z5, z6, z7, z8, z9] ∧ OnlyL [rd] H G ∧ G rd = some (.lst ((seen ++ RW (((placed bs ds).take i).flatMap wX)).map V.str)) ∧
      faultW fs seen ((placed bs ds).flatMap wX) = faultW fs (seen ++ RW (((placed bs ds).take i).flatMap wX)) (((placed bs ds).drop i).flatMap wX)) ⟨_, _, _, _, _, _, rfl, fun b o e _ => e, ?_, ?_⟩ ?_ ?_⟩
    · rw [List.take_zero, List.flatMap_nil]
      show _ = some (HO.lst ((seen ++ []).map V.str))
      rw [List.append_nil]
      exact hrd
    · rw [List.take_zero, List.flatMap_nil, List.drop_zero]
      show _ = faultW fs (seen ++ []) _
      rw [List.append_nil]
    · rintro i σ G hi ⟨z4, z5, z6, z7, z8, z9, rfl, oG, gR, chain⟩
      have ei : (0 : Int) + (i : Int) = (i : Int) := Int.zero_add _
      rw [ei]
      have hil : i < ds.length := by omega
      have hdi : ds[i]? = some ds[i] := List.getElem?_eq_getElem hil
      have hxi : xs[i]? = some (xs[i]'(by omega)) := List.getElem?_eq_getElem _
      obtain ⟨d, N, hdi', hqd, sN⟩ := da.get hxi
      obtain ⟨v, ev⟩ : ∃ v, v = xs[i]'(by omega) := ⟨_, rfl⟩
      rw [← ev] at hxi hqd
      have smd := sm d (List.mem_of_getElem? hdi')
      obtain ⟨acc, eacc⟩ : ∃ acc, acc = seen ++ RW (((placed bs ds).take i).flatMap wX) := ⟨_, rfl⟩
      rw [← eacc] at gR chain
      have hti := placed_at (bs := bs) hdi'
      obtain ⟨pl, epl⟩ : ∃ pl, pl = bs ++ [(i : Int)] := ⟨_, rfl⟩
      rw [← epl] at hti
      have pll : pl.length = bs.length + 1 := by rw [epl, List.length_append]; rfl
      have eD : ((placed bs ds).drop i).flatMap wX = wX (pl, d) ++ ((placed bs ds).drop (i + 1)).flatMap wX := by
        rw [drop_at hti, List.flatMap_cons]
      have eT : ((placed bs ds).take (i + 1)).flatMap wX = ((placed bs ds).take i).flatMap wX ++ wX (pl, d) := by
        rw [take_next hti, List.flatMap_append, List.flatMap_cons, List.flatMap_nil, List.append_nil]
      rw [eD] at chain
      have tot : (((placed bs ds).take i).flatMap wX).length + (wX (pl, d)).length ≤ ((placed bs ds).flatMap wX).length := by
        have h1 := congrArg List.length (congrArg (List.flatMap wX) (List.take_append_drop i (placed bs ds)))
        rw [List.flatMap_append, List.length_append, eD, List.length_append] at h1
        omega
      have accl : acc.length + (wX (pl, d)).length ≤ 500 := by
        have := RW_le (((placed bs ds).take i).flatMap wX)
        rw [eacc, List.length_append]
        omega
      have hd0 := keep1 oG hrd hL0 nL0
      have hdG : Dq G v d N := hqd.keep (hd0.sub sN)
      have nN : rd ∉ N := fun m => nL0 (sN _ m)
      -- the place
      refine ⟨fun σ H3 => ∃ q2 : Addr, σ = [some (.ref a), some (.ref q), some (.ref f), some (.ref rd), some (.int (i : Int)), some (.ref q2), z6, z7, z8, z9] ∧ Same G H3 ∧ H3 q2 = some (.tup (pl.map V.int)), ?_, ?_⟩
      · refine ⟨_, rfl, _, rfl, (by show 1 ≤ sizeLine; decide), fun p1 hp1 => ?_⟩
        have s3 := same_new (o := .tup [V.int (i : Int)]) hp1
        refine ⟨q, p1, bs.map V.int, [.int (i : Int)], rfl, rfl, sqt_same s3 (sqt_only oG hrd hbs), SqT.of upd_same, ?_, fun e => ⟨p1, rfl, s3, ?_⟩, fun _ e => (nomatch e), fun _ _ p2 hp2 => ⟨p2, rfl, s3.trans (same_new hp2), ?_⟩⟩
        · rw [List.length_map]
          show bs.length + 1 ≤ sizeLine
          exact Nat.le_of_lt (small1000 (by omega))
        · rw [upd_same, epl, List.map_append, e]
          rfl
        · rw [upd_same, epl, List.map_append]
          rfl
      rintro σ H3 ⟨q2, rfl, s3, hq2⟩
      have oG3 : OnlyL [rd] H H3 := oG.trans (.of_same s3)
      have stop : ∀ {part : Str} {pl' : List Int}, faultW fs acc (wX (pl, d)) = some (part, pl') → ∀ t H', OnlyL [rd] H H' → Dq H' (.ref t) (.tuple [.str part, .tuple (pl'.map PyData.int)]) [] → Q (.ref t) H' := fun hs => kS _ _ (chain.trans (fault_stop hs))
      have haG3 : H3 a = some (.lst xs) := oG3 _ _ ha fun m => hrdA (List.mem_singleton.mp m).symm
      refine ⟨_, rfl, _, rfl, a, xs, (i : Int), _, rfl, rfl, SqL.of haG3, atI_nat hxi, ?_⟩
      have tupD : ∀ {T : Hp} {t : Addr} {part : Str}, T t = some (.tup [.str part, .ref q2]) → T q2 = some (.tup (pl.map V.int)) → Dq T (.ref t) (.tuple [.str part, .tuple (pl.map PyData.int)]) [] := fun h1 h2 => .tup h1 (.cons (L := []) (.str _) (.cons (L := []) (.tup h2 (dq_ints _)) .nil))
      refine ⟨_, rfl, q2, _, rfl, .inr (SqT.of hq2), _, _, rfl, rfl, _, rfl, ite_dec (fun hb => ?_) (fun hb => ?_)⟩
      · have h7 := of_decide_eq_true hb
        rw [List.length_map] at h7
        have e : faultOf fs acc (pl, d) = some ("deep" : Str) := if_pos (show 7 < pl.length by omega)
        refine ⟨_, rfl, (by show 2 ≤ sizeLine; decide), fun t ht => ?_⟩
        have s4 := same_new (o := .tup [.str "deep", .ref q2]) ht
        exact stop (show faultW fs acc ((pl, d) :: _) = _ from faultW_some e) t _ (oG3.trans (.of_same s4)) (tupD upd_same (s4 _ _ hq2))
      have h7 := of_decide_eq_false hb
      rw [List.length_map] at h7
      have p7 : pl.length ≤ 7 := by omega
      have hd3 : Dq H3 v d N := hdG.same s3
      have hf3 : H3 f = some (.lst (fs.map V.str)) := oG3 _ _ hf fun m => frd (List.mem_singleton.mp m)
      refine ⟨_, rfl, _, rfl, v, f, d, N, rfl, hd3, smd, .inl (SqL.of hf3), fun H4 s4 => ?_⟩
      have oG4 : OnlyL [rd] H H4 := oG3.trans (.of_same s4)
      have gR4 := s4 _ _ (s3 _ _ gR)
      have hd4 : Dq H4 v d N := hd3.same s4
      have e7 : faultOf fs acc (pl, d) = if formD d = false then some ("form" : Str) else if namesD fs d = false then some ("name" : Str) else if (readersOf d).any (fun x => decide (x ∈ acc)) = true then some ("reader" : Str) else none := if_neg (show ¬ 7 < pl.length by omega)
      -- readers
      refine ⟨fun σ H5 => ∃ φ : Str, σ = [some (.ref a), some (.ref q), some (.ref f), some (.ref rd), some (.int (i : Int)), some (.ref q2), some v, some (.str φ), z8, z9] ∧ OnlyL [rd] H4 H5 ∧ ((φ = "" ∧ faultOf fs acc (pl, d) = none ∧ H5 rd = some (.lst ((acc ++ readersOf d).map V.str))) ∨ (¬ φ = "" ∧ faultOf fs acc (pl, d) = some φ)), ?_, ?_⟩
      · refine ⟨_, rfl, rfl, _, rfl, ?_⟩
        by_cases hfo : formD d = false
        · have er : rowFault fs d = "form" := if_pos hfo
          rw [er]
          refine ite_dec (fun hb => same_lit hb (by decide +kernel)) (fun _ => ⟨_, rfl, fun b o e _ => e, .inr ⟨by decide +kernel, ?_⟩⟩)
          rw [e7, if_pos hfo]
        have fo : formD d = true := by simpa using hfo
        rw [if_neg hfo] at e7
        by_cases hna : namesD fs d = false
        · have er : rowFault fs d = "name" := (if_neg hfo).trans (if_pos hna)
          rw [er]
          refine ite_dec (fun hb => same_lit hb (by decide +kernel)) (fun _ => ⟨_, rfl, fun b o e _ => e, .inr ⟨by decide +kernel, ?_⟩⟩)
          rw [e7, if_pos hna]
        have na : namesD fs d = true := by simpa using hna
        rw [if_neg hna] at e7
        have er : rowFault fs d = "" := (if_neg hfo).trans (if_neg hna)
        rw [er]
        refine ite_dec (fun _ => ?_) (fun hb => absurd rfl (of_decide_eq_false hb))
        obtain ⟨r, k, us, rs, ps, rfl, ed, RV, dA, alt⟩ := row_viewX fo na hd4
        refine ⟨_, rfl, r, _, 0, .str k, rfl, rfl, SqT.of RV.t, atI_of (j := 0) rfl rfl, rfl, _, rfl, ite_dec (fun hb => ?_) (fun hb => ?_)⟩
        · have hk : k = "watch" := dstr hb
          obtain ⟨z, ps', ep, hz, ez⟩ := watch_view fo na ed hk
          obtain ⟨us', rfl⟩ : ∃ us', us = .str z :: us' := by
            rw [ep] at dA
            cases dA with
            | cons q1 _ =>
              cases q1
              exact ⟨_, rfl⟩
          rw [ez] at e7
          have app : ∀ (T : Hp), T = H4 → acc.length < sizeLine ∧ OnlyL [rd] H4 (upd T rd (.lst (acc.map V.str ++ [.str z]))) ∧ (upd T rd (.lst (acc.map V.str ++ [.str z]))) rd = some (.lst ((acc ++ readersOf d).map V.str)) := fun T eT => by
            subst eT
            refine ⟨small1000 (by omega), fun b o e n => (upd_ne fun z => n (by rw [z]; exact List.mem_singleton_self _)).trans e, ?_⟩
            rw [upd_same, ez, List.map_append]
            rfl
          obtain ⟨a1, a2, a3⟩ := app _ rfl
          refine ⟨_, rfl, r, _, 1, .str z, rfl, rfl, SqT.of RV.t, atI_of (j := 1) rfl rfl, _, rfl, rd, _, rfl, .inl (SqL.of gR4), rfl, flat_strs _, _, rfl, ite_dec (fun hb2 => ?_) (fun hb2 => ?_)⟩
          · have hin : z ∈ acc := by
              have e : inV (.str z) (acc.map V.str) = true := hb2
              rw [inV_strs] at e
              exact of_decide_eq_true e
            rw [if_pos (List.any_eq_true.mpr ⟨z, List.mem_cons_self .., decide_eq_true hin⟩)] at e7
            refine ⟨_, rfl, .inl ⟨rfl, _, SqL.of gR4⟩, _, rfl, r, _, 1, .str z, rfl, rfl, SqT.of RV.t, atI_of (j := 1) rfl rfl, rd, _, _, rfl, rfl, gR4, by rw [List.length_map]; exact a1, _, rfl, a2, .inr ⟨by decide +kernel, e7⟩⟩
          · have hin : z ∉ acc := fun m => by
              have e : inV (.str z) (acc.map V.str) = false := hb2
              rw [inV_strs] at e
              exact of_decide_eq_false e m
            refine ⟨_, rfl, .inl ⟨rfl, _, SqL.of gR4⟩, _, rfl, r, _, 1, .str z, rfl, rfl, SqT.of RV.t, atI_of (j := 1) rfl rfl, rd, _, _, rfl, rfl, gR4, by rw [List.length_map]; exact a1, _, rfl, a2, .inl ⟨rfl, ?_, a3⟩⟩
            rw [e7, if_neg fun h => ?_]
            obtain ⟨x, hx, hx2⟩ := List.any_eq_true.mp h
            rw [List.mem_singleton.mp hx] at hx2
            exact hin (of_decide_eq_true hx2)
        · have hk : ¬ k = "watch" := dstrN hb
          have ez : readersOf d = [] := by rw [ed, readers_none hk]
          refine ⟨_, rfl, fun b o e _ => e, .inl ⟨rfl, ?_, ?_⟩⟩
          · rw [e7, ez]
            rfl
          · rw [ez, List.append_nil]
            exact gR4
      rintro σ H5 ⟨φ, rfl, o5, alt⟩
      have oG5 : OnlyL [rd] H H5 := oG4.trans o5
      have hq5 : H5 q2 = some (.tup (pl.map V.int)) := o5 _ _ (s4 _ _ hq2) fun m => by
        have e := s4 _ _ hq2
        rw [List.mem_singleton.mp m, gR4] at e
        cases e
      refine ⟨_, rfl, rfl, _, rfl, ?_⟩
      rcases alt with ⟨rfl, hnone, gR5⟩ | ⟨hφ, hsome⟩
      case inr =>
        refine ite_dec (fun _ => ?_) (fun hb => ?_)
        · refine ⟨_, rfl, _, rfl, (by show 2 ≤ sizeLine; decide), fun t ht => ?_⟩
          have s6 := same_new (o := .tup [.str φ, .ref q2]) ht
          exact stop (show faultW fs acc ((pl, d) :: _) = _ from faultW_some hsome) t _ (oG5.trans (.of_same s6)) (tupD upd_same (s6 _ _ hq5))
        · have hb2 : decide (V.str φ = V.str "") = true := by simpa using hb
          exact absurd (dstr hb2) hφ
      refine ite_dec (fun hb => ?_) (fun _ => ?_)
      · have hb2 : (!decide (V.str "" = V.str "")) = true := hb
        rw [decide_eq_true rfl] at hb2
        exact Bool.noConfusion hb2
      obtain ⟨_, fo, na, _⟩ := faultOf_none hnone
      have hd5 : Dq H5 v d N := hd4.keep (keep1 o5 gR4 hd4.there nN)
      obtain ⟨as, bs2, eas⟩ : ∃ as bs2, inner d = (as, bs2) := ⟨_, _, rfl⟩
      have flp : flX pl = n := by
        unfold flX
        rw [pll]
        exact hn
      have ewX : wX (pl, d) = (pl, d) :: (Wn n (pl ++ [0]) as ++ Wn n (pl ++ [1]) bs2) := by
        unfold wX
        rw [flp, eas]
      have rl : (readersOf d).length ≤ 1 := by
        unfold readersOf
        split <;> simp
      obtain ⟨rest, erest⟩ : ∃ rest, rest = ((placed bs ds).drop (i + 1)).flatMap wX := ⟨_, rfl⟩
      rw [← erest] at chain
      have chain1 : faultW fs seen ((placed bs ds).flatMap wX) = faultW fs (acc ++ readersOf d) ((Wn n (pl ++ [0]) as ++ Wn n (pl ++ [1]) bs2) ++ rest) := by
        rw [chain, ewX, List.cons_append, faultW_none hnone]
      have nxt : ∀ (T : Hp) (z8 z9 : Option V), OnlyL [rd] H T → T rd = some (.lst ((acc ++ readersOf d ++ RW (Wn n (pl ++ [0]) as ++ Wn n (pl ++ [1]) bs2)).map V.str)) → faultW fs seen ((placed bs ds).flatMap wX) = faultW fs (acc ++ readersOf d ++ RW (Wn n (pl ++ [0]) as ++ Wn n (pl ++ [1]) bs2)) rest →
          ∃ (y4 y5 y6 y7 y8 y9 : Option V), [some (V.ref a), some (.ref q), some (.ref f), some (.ref rd), some (.int (i : Int)), some (.ref q2), some v, some (.str ""), z8, z9] = [some (.ref a), some (.ref q), some (.ref f), some (.ref rd), y4, y5, y6, y7, y8, y9] ∧ OnlyL [rd] H T ∧ T rd = some (.lst ((seen ++ RW (((placed bs ds).take (i + 1)).flatMap wX)).map V.str)) ∧
            faultW fs seen ((placed bs ds).flatMap wX) = faultW fs (seen ++ RW (((placed bs ds).take (i + 1)).flatMap wX)) (((placed bs ds).drop (i + 1)).flatMap wX) := fun T z8 z9 o1 g1 c1 => by
        have e : seen ++ RW (((placed bs ds).take (i + 1)).flatMap wX) = acc ++ readersOf d ++ RW (Wn n (pl ++ [0]) as ++ Wn n (pl ++ [1]) bs2) := by
          have e2 : RW (wX (pl, d)) = readersOf d ++ RW (Wn n (pl ++ [0]) as ++ Wn n (pl ++ [1]) bs2) := by
            rw [ewX]
            exact List.flatMap_cons
          rw [eT, RW_append, ← List.append_assoc, ← eacc, e2, List.append_assoc]
        rw [e, ← erest]
        exact ⟨_, _, _, _, _, _, rfl, o1, g1, c1⟩
      obtain ⟨r, k, us, rs, ps, rfl, ed, RV, dA, alt⟩ := row_viewX fo na hd5
      refine ⟨_, rfl, r, _, 0, .str k, rfl, rfl, SqT.of RV.t, atI_of (j := 0) rfl rfl, (by show 2 ≤ sizeLine; decide), fun p1 hp1 => ⟨p1, _, rfl, .inr (SqT.of upd_same), rfl, rfl, _, rfl, ?_⟩⟩
      have s6 := same_new (o := .tup [.str (Str.ofString "same"), .str (Str.ofString "empty")]) hp1
      obtain ⟨H6, e6⟩ : ∃ T : Hp, T = upd H5 p1 (.tup [.str (Str.ofString "same"), .str (Str.ofString "empty")]) := ⟨_, rfl⟩
      rw [← e6] at s6
      have oG6 : OnlyL [rd] H H6 := oG5.trans (.of_same s6)
      have gR6 := s6 _ _ gR5
      rcases alt with ⟨e1, e2, e3, n1, n2⟩ | ⟨u1, pa, pb, as', bs', La, Lb, rfl, e1, qa, qb, e2, e3, hk⟩
      · rw [eas] at e3
        cases e3
        refine ite_dec (fun hb => absurd hb ?_) (fun hb => ?_)
        · show ¬ inV (.str k) [.str (Str.ofString "same"), .str (Str.ofString "empty")] = true
          rw [in_two, decide_eq_false (fun h => h.elim n1 n2)]
          exact Bool.noConfusion
        · rw [← e6]
          refine nxt H6 _ _ oG6 ?_ ?_
          · rw [Wn_nil, Wn_nil]
            show _ = some (HO.lst ((acc ++ readersOf d ++ []).map V.str))
            rw [List.append_nil]
            exact gR6
          · rw [chain1, Wn_nil, Wn_nil]
            show faultW fs (acc ++ readersOf d) rest = faultW fs (acc ++ readersOf d ++ []) rest
            rw [List.append_nil]
      · rw [eas] at e3
        cases e3
        refine ite_dec (fun hb => ?_) (fun hb => absurd hb ?_)
        rotate_left
        · show ¬ inV (.str k) [.str (Str.ofString "same"), .str (Str.ofString "empty")] = false
          rw [in_two, decide_eq_true hk]
          exact Bool.noConfusion
        rw [← e6]
        obtain ⟨m, rfl⟩ : ∃ m, n = m + 1 := ⟨n - 1, by omega⟩
        obtain ⟨sa1, sb1, la1, lb1⟩ := sm_inner smd
        rw [eas] at sa1 sb1 la1 lb1
        have hr6 := s6 _ _ RV.t
        have qa6 := qa.same s6
        have qb6 := qb.same s6
        have nLa : rd ∉ La := fun z => nN (by rw [e2]; exact List.mem_append_left _ z)
        have nLb : rd ∉ Lb := fun z => nN (by rw [e2]; exact List.mem_append_right _ z)
        have hq6 := s6 _ _ hq5
        have hf6 : H6 f = some (.lst (fs.map V.str)) := oG6 _ _ hf fun z => frd (List.mem_singleton.mp z)
        obtain ⟨A0, eA0⟩ : ∃ A0, A0 = acc ++ readersOf d := ⟨_, rfl⟩
        rw [← eA0] at gR6 chain1 nxt
        obtain ⟨W0, eW0⟩ : ∃ W0, W0 = walkD m (pl ++ [0]) as := ⟨_, rfl⟩
        obtain ⟨W1, eW1⟩ : ∃ W1, W1 = walkD m (pl ++ [1]) bs2 := ⟨_, rfl⟩
        have w0 : Wn (m + 1) (pl ++ [0]) as = W0 := eW0.symm
        have w1 : Wn (m + 1) (pl ++ [1]) bs2 = W1 := eW1.symm
        rw [w0, w1] at chain1 nxt ewX
        have accl2 : A0.length + W0.length + W1.length ≤ 500 := by
          rw [ewX, List.length_cons, List.length_append] at accl
          rw [eA0, List.length_append]
          omega
        refine ⟨_, rfl, by decide, by decide, for_range (n := (2 : Int).toNat) (fun s σ G' => ∃ (z8 z9 : Option V), σ = [some (.ref a), some (.ref q), some (.ref f), some (.ref rd), some (.int (i : Int)), some (.ref q2), some (.ref r), some (.str ""), z8, z9] ∧ OnlyL [rd] H6 G' ∧ G' rd = some (.lst ((A0 ++ RW (([W0, W1].take s).flatten)).map V.str)) ∧
          faultW fs seen ((placed bs ds).flatMap wX) = faultW fs (A0 ++ RW (([W0, W1].take s).flatten)) ((([W0, W1].drop s).flatten) ++ rest)) ⟨_, _, rfl, fun b o e _ => e, ?_, ?_⟩ ?_ ?_⟩
        · show _ = some (HO.lst ((A0 ++ []).map V.str))
          rw [List.append_nil]
          exact gR6
        · show _ = faultW fs (A0 ++ []) _
          rw [List.append_nil]
          simpa using chain1
        · rintro sd σ G' hsd ⟨z8, z9, rfl, oG', gR', ch'⟩
          have oall := oG6.trans oG'
          have rowLen : (V.str k :: (u1 ++ [V.ref pa, V.ref pb])).length = u1.length + 3 := by simp
          have hrG : G' r = some (.tup (.str k :: (u1 ++ [.ref pa, .ref pb]))) := oG' _ _ hr6 fun z => by
            rw [List.mem_singleton.mp z, gR6] at hr6
            cases hr6
          have hqG : G' q2 = some (.tup (pl.map V.int)) := oG' _ _ hq6 fun z => by
            rw [List.mem_singleton.mp z, gR6] at hq6
            cases hq6
          have hfG : G' f = some (.lst (fs.map V.str)) := oG' _ _ hf6 fun z => frd (List.mem_singleton.mp z)
          have hsd2 : sd < 2 := hsd
          obtain ⟨px, cs, Lx, Wx, hat, qx, nLx, sx, lx, eWx, edrop, etake, etot⟩ : ∃ (px : Addr) (cs : List PyData) (Lx : List Addr) (Wx : List (List Int × PyData)), (V.str k :: (u1 ++ [V.ref pa, V.ref pb]))[u1.length + 1 + sd]? = some (.ref px) ∧ Dq H6 (.ref px) (.list cs) Lx ∧ rd ∉ Lx ∧ (∀ d ∈ cs, Sm d) ∧ cs.length ≤ 100 ∧ Wx = walkD m (pl ++ [(sd : Int)]) cs ∧ ([W0, W1].drop sd).flatten = Wx ++ ([W0, W1].drop (sd + 1)).flatten ∧ ([W0, W1].take (sd + 1)).flatten = ([W0, W1].take sd).flatten ++ Wx ∧
              (([W0, W1].take sd).flatten).length + Wx.length ≤ W0.length + W1.length := by
            rcases (show sd = 0 ∨ sd = 1 by omega) with rfl | rfl
            · refine ⟨pa, as, La, W0, ?_, qa6, nLa, sa1, la1, eW0, by simp, by simp, by simp⟩
              rw [Nat.add_zero, List.getElem?_cons_succ, List.getElem?_append_right (Nat.le_refl _), Nat.sub_self]
              rfl
            · refine ⟨pb, bs2, Lb, W1, ?_, qb6, nLb, sb1, lb1, eW1, by simp, by simp, by simp⟩
              rw [List.getElem?_cons_succ, List.getElem?_append_right (Nat.le_add_right _ _), Nat.add_sub_cancel_left]
              rfl
          have esd : (0 : Int) + (sd : Int) = (sd : Int) := Int.zero_add _
          rw [esd]
          have qxG := qx.keep (keep1 oG' gR6 qx.there nLx)
          refine ⟨_, rfl, _, rfl, r, _, rfl, .inr (SqT.of hrG), _, _, rfl, rfl, _, rfl, _, _, rfl, rfl, r, _, _, _, rfl, rfl, SqT.of hrG, atI_of (j := u1.length + 1 + sd) (by rw [rowLen]; omega) hat, ?_⟩
          refine ⟨_, rfl, _, rfl, (by show 1 ≤ sizeLine; decide), fun p2 hp2 => ?_⟩
          have s7 := same_new (o := .tup [V.int (sd : Int)]) hp2
          have recC : ∀ (p3 : Addr) (T : Hp), Same G' T → T p3 = some (.tup ((pl ++ [(sd : Int)]).map V.int)) → ∀ (D : V → Hp → Prop), (faultW fs (A0 ++ RW (([W0, W1].take sd).flatten)) Wx = none → ∀ H', OnlyL [rd] T H' → H' rd = some (.lst (((A0 ++ RW (([W0, W1].take sd).flatten)) ++ RW Wx).map V.str)) → D .non H') →
              (∀ part pl', faultW fs (A0 ++ RW (([W0, W1].take sd).flatten)) Wx = some (part, pl') → ∀ t H', OnlyL [rd] T H' → Dq H' (.ref t) (.tuple [.str part, .tuple (pl'.map PyData.int)]) [] → D (.ref t) H') → ∀ E', spFaultI K fs (m + 1) [.ref px, .ref p3, .ref f, .ref rd] T D E' := by
            intro p3 T sT hp3 D dN dS E'
            have lenP : (pl ++ [(sd : Int)]).length = pl.length + 1 := by rw [List.length_append]; rfl
            refine ⟨px, p3, f, rd, cs, Lx, pl ++ [(sd : Int)], A0 ++ RW (([W0, W1].take sd).flatten), rfl, ?_, ?_, qxG.same sT, lx, sx, SqT.of hp3, sT _ _ hfG, frd, sT _ _ gR', nLx, ?_, ?_, ?_⟩
            · rw [lenP]
              omega
            · rw [lenP]
              omega
            · rw [← eWx, List.length_append]
              have := RW_le (([W0, W1].take sd).flatten)
              omega
            · rw [← eWx]
              exact dN
            · rw [← eWx]
              exact dS
          have after : ∀ (p3 : Addr) (T : Hp), Same G' T → T p3 = some (.tup ((pl ++ [(sd : Int)]).map V.int)) → ∀ (D : V → Hp → Prop), (∀ H', OnlyL [rd] H6 H' → H' rd = some (.lst ((A0 ++ RW (([W0, W1].take (sd + 1)).flatten)).map V.str)) → faultW fs seen ((placed bs ds).flatMap wX) = faultW fs (A0 ++ RW (([W0, W1].take (sd + 1)).flatten)) ((([W0, W1].drop (sd + 1)).flatten) ++ rest) → D .non H') →
              (∀ t H', Q (.ref t) H' → D (.ref t) H') → ∀ E', spFaultI K fs (m + 1) [.ref px, .ref p3, .ref f, .ref rd] T D E' := by
            intro p3 T sT hp3 D dN dS E'
            refine recC p3 T sT hp3 D (fun hn H' o' g' => dN H' ((oG'.trans (.of_same sT)).trans o') ?_ ?_) (fun part pl' hs t H' o' dq => dS t H' (kS part pl' ?_ t H' ((oall.trans (.of_same sT)).trans o') dq)) E'
            · rw [etake, RW_append, ← List.append_assoc]
              exact g'
            · rw [ch', edrop, List.append_assoc, fault_go hn, etake, RW_append, List.append_assoc A0]
            · rw [ch', edrop, List.append_assoc]
              exact fault_stop hs
          refine ⟨q2, p2, pl.map V.int, [.int (sd : Int)], rfl, rfl, SqT.of (s7 _ _ hqG), SqT.of upd_same, ?_, fun e => ?_, fun _ e => (nomatch e), fun _ _ p3 hp3 => ?_⟩
          · rw [List.length_map]
            show pl.length + 1 ≤ sizeLine
            exact Nat.le_of_lt (small1000 (by omega))
          · have : pl = [] := List.map_eq_nil_iff.mp e
            rw [this] at pll
            simp at pll
          · refine ⟨_, rfl, _, rfl, ?_⟩
            have hp3' : (upd (upd G' p2 (.tup [V.int (sd : Int)])) p3 (.tup (pl.map V.int ++ [V.int (sd : Int)]))) p3 = some (.tup ((pl ++ [(sd : Int)]).map V.int)) := by
              rw [upd_same, List.map_append]
              rfl
            dsimp only [tNil, List.cons_append, List.nil_append]
            refine after p3 _ (s7.trans (same_new hp3)) hp3' _ ?_ ?_ _
            · exact fun H' o' g' c' => ⟨_, rfl, rfl, _, rfl, ite_dec (fun hb => by rw [show (!decide (V.non = V.non)) = false from rfl] at hb; cases hb) (fun _ => ⟨_, _, rfl, o', g', c'⟩)⟩
            · exact fun t H' hq => ⟨_, rfl, rfl, _, rfl, ite_dec (fun _ => ⟨_, rfl, hq⟩) (fun hb => by rw [show (!decide (V.ref t = V.non)) = true from rfl] at hb; cases hb)⟩
        · rintro σ G' ⟨z8, z9, rfl, oG', gR', ch'⟩
          have e2' : ([W0, W1].take (2 : Int).toNat).flatten = W0 ++ W1 := by
            show ([W0, W1].take 2).flatten = _
            simp
          have e3' : ([W0, W1].drop (2 : Int).toNat).flatten = [] := by
            show ([W0, W1].drop 2).flatten = _
            simp
          rw [e2'] at gR' ch'
          rw [e3', List.nil_append] at ch'
          exact nxt G' _ _ (oG6.trans oG') gR' ch'
    · rintro σ G ⟨z4, z5, z6, z7, z8, z9, rfl, oG, gR, chain⟩
      rw [hlen, Int.toNat_natCast, ← tlen, List.take_length] at gR chain
      rw [List.drop_length] at chain
      exact kN (chain.trans rfl) G oG gR
theorem ok_law_fault {f fR : Addr} {fd fdR : FuncData} {fs : List Str} (F : Fun K "_law_fault" "_law_fault" S_law_fault f fd) (B : Bl mg) (d_law_fault : Df K mg "_law_fault" S_law_fault f fd P_law_fault)
    (d_law_row_fault : Df K mg "_law_row_fault" S_law_row_fault fR fdR P_law_row_fault) (G_law_row_fault : FnOk P w K mg base CX0 3 fR fdR P_law_row_fault (spRowF K fs)) : ∀ n : Nat, FnOk P w K mg base CX0 (n + 4) f fd P_law_fault (spFault K fs n)
  | 0 => ok_law_fault_step F B 0 d_law_fault ⟨fun _ _ _ _ h => False.elim h, fun _ _ _ _ _ _ _ _ _ _ _ _ _ h => False.elim h⟩ d_law_row_fault G_law_row_fault
  | n + 1 => ok_law_fault_step F B (n + 1) d_law_fault (ok_law_fault F B d_law_fault d_law_row_fault G_law_row_fault n) d_law_row_fault G_law_row_fault
end
end TW
set_option Elab.async false
set_option linter.all false
set_option maxRecDepth 100000
namespace TW
open PySem PySem.Spec PyProof.Rows L2 TL
/-- the variables of a row and of the rows inside -/
def vW (n : Nat) (d : PyData) : List Str := varsOf d ++ ((Rn n (inner d).1).flatMap varsOf ++ (Rn n (inner d).2).flatMap varsOf)
theorem vars_vW (n : Nat) (ds : List PyData) : (rowsD n ds).flatMap varsOf = ds.flatMap (vW n) := by
  rw [rowsD_lvl]
  unfold lvlR
  induction ds with
  | nil => rfl
  | cons d ds ih =>
    rw [List.flatMap_cons, List.flatMap_append, ih, List.flatMap_cons, List.flatMap_cons, List.flatMap_append]
    rfl
theorem role_var {k : Str} {rs : List Str} (hl : formsT.lookup k = some rs) {i : Nat} {r : Str} (hi : rs[i]? = some r) : (roleL r = 118 ∧ (¬ k = "watch" ∨ i = 1)) ↔ r = "variable" := by
  have fin : ∀ {l : List Str} {i : Nat} {r : Str} {p : Str → Nat → Prop}, l[i]? = some r → (∀ (j : Fin l.length), p l[j] j) → p r i := fun {l i r p} h f => by
    obtain ⟨hi, e⟩ := List.getElem?_eq_some_iff.mp h
    have := f ⟨i, hi⟩
    rw [← e]
    exact this
  have key : ∀ (b : Bool) (l : List Str), (∀ (j : Fin l.length), (roleL l[j] = 118 ∧ (b = false ∨ (j : Nat) = 1)) ↔ l[j] = "variable") → decide (k = "watch") = b → l[i]? = some r → ((roleL r = 118 ∧ (¬ k = "watch" ∨ i = 1)) ↔ r = "variable") := fun b l h hb hi => by
    have h2 := fin (p := fun r i => (roleL r = 118 ∧ (b = false ∨ i = 1)) ↔ r = "variable") hi h
    rw [← hb] at h2
    simpa using h2
  rcases forms_cases hl with ⟨rfl, rfl⟩ | ⟨rfl, rfl⟩ | ⟨rfl, rfl⟩ | ⟨rfl, rfl⟩ | ⟨rfl, rfl⟩ | ⟨rfl, rfl⟩ | ⟨rfl, rfl⟩ | ⟨rfl, rfl⟩ | ⟨rfl, rfl⟩
  · exact key false _ (by decide +kernel) (by decide +kernel) hi
  · exact key false _ (by decide +kernel) (by decide +kernel) hi
  · exact key false _ (by decide +kernel) (by decide +kernel) hi
  · exact key false _ (by decide +kernel) (by decide +kernel) hi
  · exact key false _ (by decide +kernel) (by decide +kernel) hi
  · exact key false _ (by decide +kernel) (by decide +kernel) hi
  · exact key true _ (by decide +kernel) (by decide +kernel) hi
  · exact key false _ (by decide +kernel) (by decide +kernel) hi
  · exact key false _ (by decide +kernel) (by decide +kernel) hi
def spNamed (ws fs : List Str) (n : Nat) : Sp := fun vs H Q _ => ∃ (a : Addr) (ds : List PyData) (L : List Addr), vs = [.ref a] ∧ Dq H (.ref a) (.list ds) L ∧ (∀ d ∈ ds, RowD n d) ∧ (∀ d ∈ ds, Sm d) ∧ ds.length ≤ 100 ∧ (∀ d ∈ rowsD n ds, OkR ws fs d) ∧ ((rowsD n ds).flatMap varsOf).length ≤ 500 ∧
  ∀ b H', Same H H' → H b = none → H' b = some (.lst (((rowsD n ds).flatMap varsOf).map V.str)) → Q (.ref b) H'
def spNamedI (ws fs : List Str) : Nat → Sp
  | 0 => fun _ _ _ _ => False
  | n + 1 => spNamed ws fs n
abbrev S_law_named : Stmt := topS 59
abbrev N_law_named : List Str := ["_law_rows", "_law_found", "_law_row", "_law_shape_here", "_law_k"]
abbrev P_law_named : List Str := ["_law_rows"]
theorem sc_law_named : FnScope N_law_named P_law_named (defScope S_law_named) := ⟨rfl, rfl, rfl, by decide +kernel, rfl, by decide +kernel, by decide +kernel⟩
section
variable {P : Program} {w : World} {K : PySem.W.Frag} {mg : Str → Option Value} {base : Heap}
set_option maxHeartbeats 8000000 in
theorem ok_law_named_step {f fS : Addr} {fd fdS : FuncData} {ws fs : List Str} (F : Fun K "_law_named" "_law_named" S_law_named f fd) (B : Bl mg) (n : Nat) (d_law_named : Df K mg "_law_named" S_law_named f fd P_law_named) (G_law_named : FnOk P w K mg base CX0 (n + 1) f fd P_law_named (spNamedI ws fs n))
    (d_law_shape : Df K mg "_law_shape" S_law_shape fS fdS P_law_shape) (G_law_shape : FnOk P w K mg base CX0 1 fS fdS P_law_shape spShape) : FnOk P w K mg base CX0 (n + 2) f fd P_law_named (spNamed ws fs n) := by
  refine F.ok sc_law_named (fun vs H Q E h => ?_) (fun cdv A outer s H vs Q E hr h => ?_)
  · obtain ⟨a, ds, L, rfl, _⟩ := h
    rfl
  · obtain ⟨a, ds, L, rfl, hd, rows, sm, l100, ok, v500, kk⟩ := h
    have hr_law_named : Room (n + 1) _ := hr
    have hr_law_shape : Room 1 _ := hr.mono (by omega)
    rw [vars_vW] at v500 kk
    have hdL := hd.there
    cases hd with
    | @lst _ xs _ L0 ha da =>
    have hlen := da.len
    refine ⟨_, (pss_cons (ps_set (i := 1) sc_law_named.nd rfl (by first | exact Or.inl rfl | exact Or.inr rfl) (pe_lst pa_nil))
 (pss_cons (ps_for PassesOwn.never rfl (pi_list (pv 0)) (pg_name (i := 2) sc_law_named.nd rfl (by first | exact Or.inl rfl | exact Or.inr rfl)) (pss_cons (ps_set (i := 3) sc_law_named.nd rfl (by first | exact Or.inl rfl | exact Or.inr rfl) (pe_call G_law_shape hr_law_shape rfl d_law_shape.g d_law_shape.F.kp d_law_shape.b .nil pass0 (pa_cons (pv 2) pa_nil)))
 (pss_cons (ps_for PassesOwn.never rfl (pi_range1 (by rfl) B.m_range (pa_cons (pe_callB call_len_str (by rfl) B.m_len PySem.boot_len (pa_cons (pv 3) pa_nil)) pa_nil)) (pg_name (i := 4) sc_law_named.nd rfl (by first | exact Or.inl rfl | exact Or.inr rfl)) (pss_one (ps_if (PW.pt (pw_and (pt_cmpR op_eq (pe_ix ix_str (pv 3) (pv 4) (fun _ _ => rfl)) pe_str (nomark _)) (pw_and1 (PW.pt (pw_or (pt_cmpR op_ne (pe_ix ix_tup (pv 2) pe_int (fun _ _ => rfl)) pe_str (nomark _)) (pw_or1 (pt_cmpR op_eq (pv 4) pe_int (nomark _)))))))) (pss_one (ps_expr (pe_bm PySem.F.plainAttrs_list PySem.F.slot_list_append PySem.F.type_list_append mt_append (pv 1) (pa_cons (pe_ix ix_tup (pv 2) (pe_op op_add (pv 4) pe_int) (fun _ _ => rfl)) pa_nil)))) pss_nil)))
 (pss_one (ps_if (pt_cmpR op_in_seq (pe_ix ix_tup (pv 2) pe_int (fun _ _ => rfl)) (pe_tup (pa_cons pe_str (pa_cons pe_str pa_nil))) (by rfl)) (pss_one (ps_set (i := 1) sc_law_named.nd rfl (by first | exact Or.inl rfl | exact Or.inr rfl) (pe_op op_cat (pe_op op_cat (pv 1) (pe_call G_law_named hr_law_named rfl d_law_named.g d_law_named.F.kp d_law_named.b .nil pass0 (pa_cons (pe_ix ix_tup (pv 2) (pe_un un_neg pe_int) (fun _ _ => rfl)) pa_nil))) (pe_call G_law_named hr_law_named rfl d_law_named.g d_law_named.F.kp d_law_named.b .nil pass0 (pa_cons (pe_ix ix_tup (pv 2) (pe_un un_neg pe_int) (fun _ _ => rfl)) pa_nil))))) pss_nil)))))
 (pss_one (ps_ret (pv 1))))), ?_⟩
    refine ⟨Nat.zero_le _, fun R hR => ?_⟩
    have s0 : Same H (upd H R (.lst [])) := same_new hR
    refine ⟨_, rfl, a, rfl, ⟨_, SqL.of (s0 _ _ ha)⟩, for_list (xs := xs) (fun i σ G => ∃ (R2 : Addr) (z2 z3 z4 : Option V), σ = [some (.ref a), some (.ref R2), z2, z3, z4] ∧ Same H G ∧ H R2 = none ∧ G R2 = some (.lst (((ds.take i).flatMap (vW n)).map V.str))) ⟨R, _, _, _, rfl, s0, hR, upd_same⟩ ?_ ?_ ?_⟩
    · rintro i σ G hi ⟨R2, z2, z3, z4, rfl, sG, f2, h2⟩
      exact SqL.of (sG _ _ ha)
    · rintro i x σ G hx ⟨R2, z2, z3, z4, rfl, sG, f2, h2⟩
      obtain ⟨d, N, hdi, hq, _⟩ := da.get hx
      have hqG := hq.same sG
      have md := List.mem_of_getElem? hdi
      have smd := sm d md
      have tk := take_next hdi
      have vt : ((ds.take (i + 1)).flatMap (vW n)) = (ds.take i).flatMap (vW n) ++ vW n d := by
        rw [tk, List.flatMap_append, List.flatMap_cons, List.flatMap_nil, List.append_nil]
      have vl : ((ds.take i).flatMap (vW n)).length + (vW n d).length ≤ 500 := by
        have h1 := congrArg List.length (congrArg (List.flatMap (vW n)) (List.take_append_drop (i + 1) ds))
        rw [List.flatMap_append, List.length_append, vt, List.length_append] at h1
        omega
      obtain ⟨acc, eacc⟩ : ∃ acc, acc = (ds.take i).flatMap (vW n) := ⟨_, rfl⟩
      rw [← eacc] at h2 vl vt
      rw [vt]
      have okd : OkR ws fs d := ok d (by
        rw [rowsD_lvl]
        exact List.mem_flatMap.mpr ⟨d, md, List.mem_cons_self ..⟩)
      obtain ⟨r, k, us, rs, ps, rfl, RG, alt⟩ := row_view okd (rows d md) hqG
      have hl := RG.rV.l
      obtain ⟨f1, f4⟩ := forms_len hl
      have un := RG.rV.n
      obtain ⟨z, ez, el⟩ := shape_good hl
      have esh : shapeD d = .str z := by rw [RG.rD]; exact ez
      have zl : z.length = rs.length := by rw [str_len el, List.length_map]
      have hzl : z.length ≤ sizeLine := Nat.le_of_lt (small1000 (by omega))
      refine ⟨_, rfl, .ref r, d, N, rfl, hqG, smd, fun G1 s1 => ?_⟩
      rw [esh]
      have hrt1 := s1 _ _ RG.rV.t
      have vlen : (varsOf d).length ≤ 4 := Nat.le_trans (vars_le okd) (by decide)
      refine ⟨_, rfl, z, rfl, hzl, _, rfl, by omega, by omega, for_range (lo := 0) (n := ((z.length : Nat) : Int).toNat) (fun j σ G' => (∃ z4, σ = [some (.ref a), some (.ref R2), some (.ref r), some (.str z), z4]) ∧ Same H G' ∧ OnlyL [R2] G1 G' ∧ G' R2 = some (.lst (acc.map V.str ++ pick "variable" (us.take j) (rs.take j)))) ⟨⟨_, rfl⟩, sG.trans s1, fun b o e _ => e, ?_⟩ ?_ ?_⟩
      · rw [s1 _ _ h2]
        have : pick "variable" (us.take 0) (rs.take 0) = [] := rfl
        rw [this, List.append_nil]
      · rintro j σ G' hj ⟨⟨z4, rfl⟩, sG', sR, h2'⟩
        have ej : (0 : Int) + (j : Int) = (j : Int) := Int.zero_add _
        rw [ej]
        have hjr : j < rs.length := by omega
        have hrj : rs[j]? = some rs[j] := List.getElem?_eq_getElem hjr
        have huj : us[j]? = some (us[j]'(by omega)) := List.getElem?_eq_getElem _
        have hc : z.cps.toList[j]? = some (roleL rs[j]) := by rw [el, List.getElem?_map, hrj]; rfl
        have rne : r ≠ R2 := fun e => by
          have := s1 _ _ h2
          rw [← e, hrt1] at this
          cases this
        have hrt' : G' r = some (.tup (.str k :: us)) := sR _ _ hrt1 fun m => rne (List.mem_singleton.mp m)
        have rv := role_var hl hrj
        refine ⟨_, rfl, _, rfl, z, _, roleL rs[j], rfl, rfl, hzl, atI_nat hc, rfl, _, rfl, ?_⟩
        rw [sgn s_v]
        have no : ¬ rs[j] = "variable" → (∃ z4, [some (V.ref a), some (.ref R2), some (.ref r), some (.str z), some (.int (j : Int))] = [some (.ref a), some (.ref R2), some (.ref r), some (.str z), z4]) ∧ Same H G' ∧ OnlyL [R2] G1 G' ∧ G' R2 = some (.lst (acc.map V.str ++ pick "variable" (us.take (j + 1)) (rs.take (j + 1)))) := fun hn => by
          rw [pick_take huj hrj, if_neg hn, List.append_nil]
          exact ⟨⟨_, rfl⟩, sG', sR, h2'⟩
        refine ite_dec (fun hb => ?_) (fun hb => no fun e => of_decide_eq_false hb (rv.mpr e).1)
        have h118 := of_decide_eq_true hb
        have yes : rs[j] = "variable" → ∀ (T : Hp), T = G' → (acc.map V.str ++ pick "variable" (us.take j) (rs.take j)).length < sizeLine ∧ ((∃ z4, [some (V.ref a), some (.ref R2), some (.ref r), some (.str z), some (.int (j : Int))] = [some (.ref a), some (.ref R2), some (.ref r), some (.str z), z4]) ∧ Same H (upd T R2 (.lst ((acc.map V.str ++ pick "variable" (us.take j) (rs.take j)) ++ [us[j]'(by omega)]))) ∧ OnlyL [R2] G1 (upd T R2 (.lst ((acc.map V.str ++ pick "variable" (us.take j) (rs.take j)) ++ [us[j]'(by omega)]))) ∧ (upd T R2 (.lst ((acc.map V.str ++ pick "variable" (us.take j) (rs.take j)) ++ [us[j]'(by omega)]))) R2 = some (.lst (acc.map V.str ++ pick "variable" (us.take (j + 1)) (rs.take (j + 1))))) := fun he T eT => by
          subst eT
          refine ⟨?_, ⟨_, rfl⟩, fun b o e => (upd_ne (ne_of_none e f2)).trans (sG' _ _ e), fun b o e n => (upd_ne (fun z => n (by rw [z]; exact List.mem_singleton_self _))).trans (sR b o e n), ?_⟩
          · rw [List.length_append, List.length_map]
            have := pick_le (z := "variable") (us.take j) (rs.take j)
            rw [List.length_take] at this
            exact small1000 (by omega)
          · rw [upd_same, pick_take huj hrj, if_pos he, List.append_assoc]
        refine ⟨_, rfl, r, _, 0, .str k, rfl, rfl, SqT.of hrt', atI_of (j := 0) rfl rfl, rfl, _, rfl, ?_⟩
        refine ite_dec (fun hb => ?_) (fun hb => ?_)
        · have nw : ¬ k = "watch" := fun e => by
            have hb2 : (!decide (V.str k = V.str "watch")) = true := hb
            rw [decide_eq_true (by rw [e])] at hb2
            exact Bool.noConfusion hb2
          obtain ⟨y1, y2⟩ := yes (rv.mp ⟨h118, .inl nw⟩) G' rfl
          exact ⟨_, rfl, .inl ⟨rfl, _, SqL.of h2'⟩, _, rfl, _, rfl, _, _, rfl, rfl, r, _, _, _, rfl, rfl, SqT.of hrt', atI_of (j := j + 1) (by omega) (by rw [List.getElem?_cons_succ]; exact huj), R2, _, _, rfl, rfl, h2', y1, y2⟩
        · have yw : k = "watch" := by
            have hb2 : (!decide (V.str k = V.str "watch")) = false := hb
            have : decide (V.str k = V.str "watch") = true := by simpa using hb2
            exact dstr this
          refine ⟨_, rfl, rfl, _, rfl, ite_dec (fun hb => ?_) (fun hb => no fun e => ?_)⟩
          · have j1 : j = 1 := by
              have := V.int.inj (of_decide_eq_true hb)
              omega
            obtain ⟨y1, y2⟩ := yes (rv.mp ⟨h118, .inr j1⟩) G' rfl
            exact ⟨_, rfl, .inl ⟨rfl, _, SqL.of h2'⟩, _, rfl, _, rfl, _, _, rfl, rfl, r, _, _, _, rfl, rfl, SqT.of hrt', atI_of (j := j + 1) (by omega) (by rw [List.getElem?_cons_succ]; exact huj), R2, _, _, rfl, rfl, h2', y1, y2⟩
          · rcases (rv.mpr e).2 with n | j1
            · exact n yw
            · refine of_decide_eq_false hb ?_
              rw [j1]
              rfl
      · rintro σ G' ⟨⟨z4, rfl⟩, sG', sR, h2'⟩
        have e1 : pick "variable" (us.take ((z.length : Nat) : Int).toNat) (rs.take ((z.length : Nat) : Int).toNat) = (varsOf d).map V.str := by
          rw [Int.toNat_natCast, List.take_of_length_le (by omega), List.take_of_length_le (by omega)]
          exact RG.rX
        rw [e1, ← List.map_append] at h2'
        have rne : r ≠ R2 := fun e => by
          have := s1 _ _ h2
          rw [← e, hrt1] at this
          cases this
        have hrt' : G' r = some (.tup (.str k :: us)) := sR _ _ hrt1 fun m => rne (List.mem_singleton.mp m)
        refine ⟨_, rfl, r, _, 0, .str k, rfl, rfl, SqT.of hrt', atI_of (j := 0) rfl rfl, (by show 2 ≤ sizeLine; decide), fun p1 hp1 => ⟨p1, _, rfl, .inr (SqT.of upd_same), rfl, rfl, _, rfl, ?_⟩⟩
        have s6 := same_new (o := .tup [.str (Str.ofString "same"), .str (Str.ofString "empty")]) hp1
        rcases alt with ⟨e1, e2, e3, n1, n2⟩ | ⟨m, u1, pa, pb, as, bs, La, Lb, rfl, rfl, e1, B2, e2, e3, ps0, rfl, d0⟩
        · refine ite_dec (fun hb => absurd hb ?_) (fun hb => ?_)
          · show ¬ inV (.str k) [.str (Str.ofString "same"), .str (Str.ofString "empty")] = true
            rw [in_two, decide_eq_false (fun h => h.elim n1 n2)]
            exact Bool.noConfusion
          · refine ⟨R2, _, _, _, rfl, sG'.trans s6, f2, ?_⟩
            have : vW n d = varsOf d := by
              unfold vW
              rw [e3]
              show varsOf d ++ ((Rn n []).flatMap varsOf ++ (Rn n []).flatMap varsOf) = _
              rw [Rn_nil]
              simp
            rw [this]
            exact s6 _ _ h2'
        · refine ite_dec (fun hb => ?_) (fun hb => absurd hb ?_)
          rotate_left
          · show ¬ inV (.str k) [.str (Str.ofString "same"), .str (Str.ofString "empty")] = false
            rw [in_two, decide_eq_true B2.w]
            exact Bool.noConfusion
          obtain ⟨T5, e5⟩ : ∃ T : Hp, T = upd G' p1 (.tup [.str (Str.ofString "same"), .str (Str.ofString "empty")]) := ⟨_, rfl⟩
          rw [← e5] at s6 ⊢
          have sH5 : Same H T5 := sG'.trans s6
          have qa5 : Dq T5 (.ref pa) (.list as) La := by
            have h0 : Dq G (.ref pa) (.list as) La := B2.a
            exact (h0.same s1).keep (keep1 sR (s1 _ _ h2) (h0.same s1).there fun m => by
              have nH := N
              have : R2 ∈ N := by rw [e2]; exact List.mem_append_left _ m
              obtain ⟨ys, ey⟩ := hq.there R2 this
              rw [f2] at ey
              cases ey) |>.same s6
          have qb5 : Dq T5 (.ref pb) (.list bs) Lb := by
            have h0 : Dq G (.ref pb) (.list bs) Lb := B2.b
            exact (h0.same s1).keep (keep1 sR (s1 _ _ h2) (h0.same s1).there fun m => by
              have : R2 ∈ N := by rw [e2]; exact List.mem_append_right _ m
              obtain ⟨ys, ey⟩ := hq.there R2 this
              rw [f2] at ey
              cases ey) |>.same s6
          have hr5 := s6 _ _ hrt'
          have h5 := s6 _ _ h2'
          obtain ⟨sa1, sb1, la1, lb1⟩ := sm_inner smd
          rw [e3] at sa1 sb1 la1 lb1
          have sub : ∀ (cs : List PyData), (cs = as ∨ cs = bs) → (∀ e ∈ rowsD m cs, OkR ws fs e) ∧ ((rowsD m cs).flatMap varsOf).length ≤ (vW (m + 1) d).length := fun cs hc => by
            have ev : vW (m + 1) d = varsOf d ++ ((rowsD m as).flatMap varsOf ++ (rowsD m bs).flatMap varsOf) := by
              unfold vW
              rw [e3]
              rfl
            refine ⟨fun e he => ok e ?_, ?_⟩
            · rw [rowsD_lvl]
              refine List.mem_flatMap.mpr ⟨d, md, List.mem_cons_of_mem _ ?_⟩
              rw [e3]
              rcases hc with rfl | rfl
              · exact List.mem_append_left _ he
              · exact List.mem_append_right _ he
            · rw [ev, List.length_append, List.length_append]
              rcases hc with rfl | rfl <;> omega
          have ev : vW (m + 1) d = varsOf d ++ ((rowsD m as).flatMap varsOf ++ (rowsD m bs).flatMap varsOf) := by
            unfold vW
            rw [e3]
            rfl
          have evl := congrArg List.length ev
          rw [List.length_append, List.length_append] at evl
          refine ⟨_, rfl, _, rfl, _, rfl, r, _, -2, .ref pa, rfl, rfl, SqT.of hr5, (atI_two (xs := V.str k :: u1)).1, pa, as, La, rfl, qa5, B2.ra, sa1, la1, (sub as (.inl rfl)).1, by have := (sub as (.inl rfl)).2; omega, fun b1 T6 s7 f7 h7 => ?_⟩
          refine ⟨R2, b1, _, _, rfl, rfl, s7 _ _ h5, h7, ?_, fun R3 hR3 => ?_⟩
          · rw [List.length_map, List.length_map, List.length_append]
            exact Nat.le_of_lt (small1000 (by omega))
          have s8 := same_new (o := .lst ((acc ++ varsOf d).map V.str ++ ((rowsD m as).flatMap varsOf).map V.str)) hR3
          have s78 := s7.trans s8
          refine ⟨_, rfl, _, rfl, r, _, -1, .ref pb, rfl, rfl, SqT.of (s78 _ _ hr5), (atI_two (xs := V.str k :: u1)).2, pb, bs, Lb, rfl, qb5.same s78, B2.rb, sb1, lb1, (sub bs (.inr rfl)).1, by have := (sub bs (.inr rfl)).2; omega, fun b2 T7 s9 f9 h9 => ?_⟩
          refine ⟨R3, b2, _, _, rfl, rfl, s9 _ _ upd_same, h9, ?_, fun R4 hR4 => ?_⟩
          · rw [List.length_append, List.length_map, List.length_map, List.length_map, List.length_append]
            exact Nat.le_of_lt (small1000 (by omega))
          have s10 := same_new (o := .lst ((acc ++ varsOf d).map V.str ++ ((rowsD m as).flatMap varsOf).map V.str ++ ((rowsD m bs).flatMap varsOf).map V.str)) hR4
          refine ⟨R4, _, _, _, rfl, (sH5.trans s78).trans (s9.trans s10), (sH5.trans (s78.trans s9)).free hR4, ?_⟩
          rw [upd_same, ev]
          simp only [List.map_append, List.append_assoc]
    · rintro σ G ⟨R2, z2, z3, z4, rfl, sG, f2, h2⟩
      rw [hlen, List.take_length] at h2
      exact ⟨_, rfl, kk R2 G sG f2 h2⟩
theorem ok_law_named {f fS : Addr} {fd fdS : FuncData} {ws fs : List Str} (F : Fun K "_law_named" "_law_named" S_law_named f fd) (B : Bl mg) (d_law_named : Df K mg "_law_named" S_law_named f fd P_law_named)
    (d_law_shape : Df K mg "_law_shape" S_law_shape fS fdS P_law_shape) (G_law_shape : FnOk P w K mg base CX0 1 fS fdS P_law_shape spShape) : ∀ n : Nat, FnOk P w K mg base CX0 (n + 2) f fd P_law_named (spNamed ws fs n)
  | 0 => ok_law_named_step F B 0 d_law_named ⟨fun _ _ _ _ h => False.elim h, fun _ _ _ _ _ _ _ _ _ _ _ _ _ h => False.elim h⟩ d_law_shape G_law_shape
  | n + 1 => ok_law_named_step F B (n + 1) d_law_named (ok_law_named F B d_law_named d_law_shape G_law_shape n) d_law_shape G_law_shape
end
end TW
set_option Elab.async false
set_option linter.all false
set_option maxRecDepth 100000
namespace TW
open PySem PySem.Spec PyProof.Rows L2 TL
def faultD (p : Str × List Int) : PyData := .tuple [.str p.1, .tuple (p.2.map PyData.int)]
def manyD : PyData := .tuple [.str "many", .tuple []]
/-- what building a program gives, if it does not come to be -/
def builtD (is fs os : List Str) (n : Nat) (ds : List PyData) : Option PyData := match faultW fs [] (walkD 4 [] ds) with
  | some p => some (faultD p)
  | none => if FewP is os n ds then none else some manyD
def spBuilt (K : PySem.W.Frag) : Sp := fun vs H Q _ => ∃ (aI aF aR aO : Addr) (is fs os : List Str) (n : Nat) (ds : List PyData) (L : List Addr), vs = [.ref aI, .ref aF, .ref aR, .ref aO] ∧ WS K H aI is ∧ WS K H aF fs ∧ Dq H (.ref aR) (.list ds) L ∧ ds.length ≤ 100 ∧ WS K H aO os ∧ GoodW is fs os ∧ n ≤ 3 ∧ (∀ d ∈ ds, RowD n d) ∧ (∀ d ∈ ds, Sm d) ∧ (rowsD n ds).length ≤ 100 ∧
  (builtD is fs os n ds = none → ∀ H', Same H H' → Q .non H') ∧ (∀ D, builtD is fs os n ds = some D → ∀ t H', Same H H' → Dp K H' (.ref t) D → Q (.ref t) H')
/-- what isinstance of an error asks of the six others -/
structure Kin6 (K : PySem.W.Frag) (mg : Str → Option Value) (CP DE c1 c2 c3 c4 c5 c6 : Addr) : Prop where
  gD : mg "ThawError" = some (.ref DE)
  g1 : mg "InvalidHeap" = some (.ref c1)
  g2 : mg "InvalidFacts" = some (.ref c2)
  g3 : mg "InvalidArgument" = some (.ref c3)
  g4 : mg "InvalidText" = some (.ref c4)
  g5 : mg "LimitExceeded" = some (.ref c5)
  g6 : mg "RunError" = some (.ref c6)
  kD : PySem.W.kitOne K (.ref CP) (.ref DE) = some true
  kV : PySem.W.kitOne K (.ref CP) (.type "ValueError") = some true
  k6 : PySem.W.kitAny K (.ref CP) [.ref c1, .ref c2, .ref c3, .ref c4, .ref c5, .ref c6] = some false
/-- what isinstance of a program asks of the class -/
structure HCi (K : PySem.W.Frag) (C : Addr) : Prop where
  ha : PySem.W.findIn K (.ref C) "__class__" = some (some (.builtin "object.__class__"))
  hn : PySem.W.specialIn K (.builtin "object.__class__") "__get__" = some (some (.builtin "getset_descriptor.__get__"))
  ht : PySem.W.takesIn K (.builtin "object.__class__") = some true
  hm : PySem.W.mroIn K C (.type "object") = some true
theorem HCi.ty {K : PySem.W.Frag} {C : Addr} (T : HCi K C) (cl : Cls K C) {H : Hp} {a dx : Addr} {fs : List (Str × V)} (e : H a = some (.ins C dx fs)) : TyX K H (.ref a) (.ref C) := .base (.ins e cl T.ha T.hn T.ht T.hm)
theorem kit_own {K : PySem.W.Frag} {C : Addr} : PySem.W.kitOne K (.ref C) (.ref C) = some true := if_pos (beq_self_eq_true _)
abbrev S_law_built : Stmt := topS 60
abbrev N_law_built : List Str := ["_law_inputs", "_law_fields", "_law_rows", "_law_results", "_law_program", "e"]
abbrev P_law_built : List Str := ["_law_inputs", "_law_fields", "_law_rows", "_law_results"]
theorem sc_law_built : FnScope N_law_built P_law_built (defScope S_law_built) := ⟨rfl, rfl, rfl, by decide +kernel, rfl, by decide +kernel, by decide +kernel⟩
section
variable {P : Program} {w : World} {K : PySem.W.Frag} {mg : Str → Option Value} {base : Heap}
theorem dp_fault {H : Hp} {t q : Addr} {part : Str} {pl : List Int} (h1 : H t = some (.tup [.str part, .ref q])) (h2 : H q = some (.tup (pl.map V.int))) : Dp K H (.ref t) (faultD (part, pl)) :=
  Dq.dp (.tup h1 (.cons (L := []) (.str _) (.cons (L := []) (.tup h2 (dq_ints _)) .nil)))
/-- the suite of the clause -/
def tSuite (K : PySem.W.Frag) (CP DE c1 c2 c3 c4 c5 c6 : Addr) : Addr → Value → Option Addr → TS := fun a cls d =>
  tSeq (tIfS (tOr (tNot (tB (tCB (rIsD K CP a cls d) (tCons (tVar 5) (tCons (tC (.ref DE)) tNil))))) (tNot (tB (tCB (rIsD K CP a cls d) (tCons (tVar 5) (tCons (tC (.ty "ValueError")) tNil)))))) (tRet (tTup (tCons (tC (.str "family")) (tCons (tTup tNil) tNil)))) tNext)
  (tSeq (tIfS (tB (tCB (rIsDT K CP a cls d) (tCons (tVar 5) (tCons (tTup (tCons (tC (.ref c1)) (tCons (tC (.ref c2)) (tCons (tC (.ref c3)) (tCons (tC (.ref c4)) (tCons (tC (.ref c5)) (tCons (tC (.ref c6)) tNil))))))) tNil)))) (tRet (tTup (tCons (tC (.str "family")) (tCons (tTup tNil) tNil)))) tNext)
  (tRet (tTup (tCons (tFldE CP "part" a cls d (tVar 5)) (tCons (tFldE CP "place" a cls d (tVar 5)) tNil)))))
set_option maxHeartbeats 4000000 in
theorem ok_law_built {f fI C CP DE c1 c2 c3 c4 c5 c6 fY : Addr} {fd fdI : FuncData} {gP : List Value → List Value → List Value} (F : Fun K "_law_built" "_law_built" S_law_built f fd) (B : Bl mg) (T0 : HCP K mg C) (TI : HCi K C) (TP : PySem.ErrW.ErrTw P K mg "InvalidProgram" "no program: " " at " CP fY) (TD : ExcD K CP) (T6 : Kin6 K mg CP DE c1 c2 c3 c4 c5 c6)
    (M_prog : Mk K C fI) (G_init : FnOk P w K mg base (L2.CX P w) 10 fI fdI P_Program___init__ (spProgX K C CP)) (KB : KBn K fdI P_Program___init__ 4 ["outputs"] gP (fun vs zs => vs ++ zs)) : FnOk P w K mg base CX0 12 f fd P_law_built (spBuilt K) := by
  refine F.ok sc_law_built (fun vs H Q E h => ?_) (fun cdv A outer s H vs Q E hr h => ?_)
  · obtain ⟨aI, aF, aR, aO, is, fs, os, n, ds, L, rfl, _⟩ := h
    rfl
  · obtain ⟨aI, aF, aR, aO, is, fs, os, n, ds, L, rfl, hI, hF, hR, l100, hO, gw, n3, rd, sm, r100, kN, kS⟩ := h
    have hr_init : Room 11 _ := hr.mono (Nat.le_refl 11)
    refine ⟨_, pss_cons (ps_try_as (i := 5) (tb := fun W => tAsg (tMakeNS C 3 1 (spProgX K C CP) (fun vs zs => vs ++ zs) (WE W) (tCons (tVar 0) (tCons (tVar 1) (tCons (tVar 2) tNil))) (tCons (tVar 3) tNil)) (gName 4)) (ts := tSuite K CP DE c1 c2 c3 c4 c5 c6) (Wout := fun _ _ _ _ => False) rfl rfl sc_law_built.nd rfl rfl ⟨rfl, by decide +kernel, Or.inl TP.gC⟩ takes0
      (fun W pn xe tk _ => pss_one (ps_set (i := 4) sc_law_built.nd rfl (Or.inl rfl) (by exact (pe_makeNS (n := 3) (ks := [("outputs" : Str)]) (gV := fun vs zs => vs ++ zs) M_prog G_init hr_init rfl T0.g KB (fun σ => passAt tk σ) (pa_cons (pv 0) (pa_cons (pv 1) (pa_cons (pv 2) pa_nil))) (pk_cons (pv 3) pk_nil)))))
      (fun a oe cls d pn hz hf => by exact (pss_cons (ps_if (PW.pt (pw_or (pt_not (pt_val (pe_callB (call_isD TD hz hf) (by rfl) B.m_isinstance (by decide +kernel) (pa_cons (pv 5) (pa_cons (pe_glob (v := .ref DE) rfl T6.gD rfl) pa_nil))))) (pw_or1 (pt_not (pt_val (pe_callB (call_isD TD hz hf) (by rfl) B.m_isinstance (by decide +kernel) (pa_cons (pv 5) (pa_cons (pe_bltn (v := .ty "ValueError") (by rfl) B.m_ValueError (by decide +kernel) rfl) pa_nil)))))))) (pss_one (ps_ret (pe_tup (pa_cons pe_str (pa_cons (pe_tup pa_nil) pa_nil))))) pss_nil)
        (pss_cons (ps_if (pt_val (pe_callB (call_isDT TD hz hf) (by rfl) B.m_isinstance (by decide +kernel) (pa_cons (pv 5) (pa_cons (pe_tup (pa_cons (pe_glob (v := .ref c1) rfl T6.g1 rfl) (pa_cons (pe_glob (v := .ref c2) rfl T6.g2 rfl) (pa_cons (pe_glob (v := .ref c3) rfl T6.g3 rfl) (pa_cons (pe_glob (v := .ref c4) rfl T6.g4 rfl) (pa_cons (pe_glob (v := .ref c5) rfl T6.g5 rfl) (pa_cons (pe_glob (v := .ref c6) rfl T6.g6 rfl) pa_nil))))))) pa_nil)))) (pss_one (ps_ret (pe_tup (pa_cons pe_str (pa_cons (pe_tup pa_nil) pa_nil))))) pss_nil)
        (pss_one (ps_ret (pe_tup (pa_cons (pe_fldE TP TP.noN (by decide +kernel) hz hf (pv 5)) (pa_cons (pe_fldE TP TP.noM (by decide +kernel) hz hf (pv 5)) pa_nil)))))))))
      (pss_cons (ps_if (pt_not (pt_val (pe_callB call_isi (by rfl) B.m_isinstance (by decide +kernel) (pa_cons (pv 4) (pa_cons (pe_glob (v := .ref C) rfl T0.g rfl) pa_nil))))) (pss_one (ps_ret (pe_tup (pa_cons pe_str (pa_cons (pe_tup pa_nil) pa_nil))))) pss_nil) (pss_one (ps_ret pe_non))), ?_⟩
    refine ⟨_, rfl, _, rfl, _, rfl, _, rfl, rfl, rfl, fun x dx nx nd ndx => ?_⟩
    have spre : Same H (upd (upd H dx (.own x)) x (.ins C dx [])) := fun b u e => (upd_ne (ne_of_none e nx)).trans ((upd_ne (ne_of_none e nd)).trans e)
    have errP : ∀ (part : Str) (pl : List Int) (q : Addr) (H1 : Hp) (d : Addr) (D : Ends), Same H H1 → H1 q = some (.tup (pl.map V.int)) → H1 d = none → builtD is fs os n ds = some (faultD (part, pl)) → D.rt = Q →
        wAs K (.ref CP) 5 (tSuite K CP DE c1 c2 c3 c4 c5 c6) (fun _ _ _ _ => False) D (.ref CP) (some d) [some (.ref aI), some (.ref aF), some (.ref aR), some (.ref aO), none, none] (upd H1 d (.xd [(("place" : Str), .ref q), ("part", .str part)])) := by
      intro part pl q H1 d D s1 hq hd ej eD
      refine ⟨true, TP.te, fun _ a0 na => ?_, fun z => Bool.noConfusion z⟩
      have hd1 : (upd H1 d (.xd [(("place" : Str), .ref q), ("part", .str part)])) d = some (.xd [(("place" : Str), .ref q), ("part", .str part)]) := upd_same
      have s2 : Same H1 (upd H1 d (.xd [(("place" : Str), .ref q), ("part", .str part)])) := same_new hd
      obtain ⟨T, eT⟩ : ∃ T : Hp, T = upd H1 d (.xd [(("place" : Str), .ref q), ("part", .str part)]) := ⟨_, rfl⟩
      rw [← eT] at hd1 s2 ⊢
      refine ⟨_, rfl, .ref DE, .ref DE, true, d, _, rfl, rfl, rfl, hd1, fun u r => r, T6.kD, _, rfl, iteF ?_⟩
      refine ⟨_, rfl, .ty "ValueError", .type "ValueError", true, d, _, rfl, rfl, rfl, hd1, fun u r => r, T6.kV, _, rfl, iteF ?_⟩
      refine ⟨_, rfl, (by show 6 ≤ sizeLine; decide), fun tp htp => ?_⟩
      have s3 := same_new (o := .tup [V.ref c1, .ref c2, .ref c3, .ref c4, .ref c5, .ref c6]) htp
      refine ⟨tp, [c1, c2, c3, c4, c5, c6], false, d, _, rfl, rfl, rfl, s3 _ _ hd1, upd_same, T6.k6, _, rfl, iteF ?_⟩
      refine ⟨_, rfl, rfl, rfl, d, _, _, rfl, s3 _ _ hd1, rfl, _, rfl, rfl, rfl, d, _, _, rfl, s3 _ _ hd1, rfl, (by show 2 ≤ sizeLine; decide), fun t ht => ?_⟩
      have s4 := s3.trans (same_new (o := .tup [.str part, .ref q]) ht)
      show D.rt (.ref t) _
      rw [eD]
      exact kS _ ej t _ (s1.trans (s2.trans s4)) (dp_fault upd_same (s4 _ _ (s2 _ _ hq)))
    refine ⟨x, dx, aI, aF, aR, aO, is, fs, os, n, ds, L, rfl, upd_same, hI.same spre, hF.same spre, hR.same spre, l100, hO.same spre, gw, n3, rd, sm, r100, fun hn hfew p H' keep AP own => ⟨rfl, ?_⟩, fun hn nf H1 q d s1 hq hd => ?_, fun part pl hs H1 q d s1 hq hd => ?_⟩
    · have s1 : Same H H' := fun b u e => keep b u (spre _ _ e) (ne_of_none e nx)
      refine ⟨_, rfl, _, _, _, _, _, rfl, .own C, TI.ty T0.cl AP.ob, kit_own, _, rfl, iteF ?_⟩
      refine kN ?_ _ s1
      unfold builtD
      rw [hn]
      exact if_pos hfew
    · refine errP "many" [] q H1 d _ (spre.trans s1) hq hd ?_ rfl
      unfold builtD
      rw [hn]
      exact if_neg nf
    · refine errP part pl q H1 d _ (spre.trans s1) hq hd ?_ rfl
      unfold builtD
      rw [hs]
end
end TW
set_option Elab.async false
set_option linter.all false
set_option maxRecDepth 100000
namespace TW
open PySem PySem.Spec PyProof.Rows L2 TL
theorem cut_two (xs : List V) {i j : Nat} (h : i ≤ j) (hj : j ≤ xs.length) : cutV xs (some (i : Int)) (some (j : Int)) = (xs.drop i).take (j - i) := by
  have e : ∀ {d m : Nat}, m ≤ xs.length → HT.sIx xs.length d (some (m : Int)) = m := fun {d m} hm => by
    show (if ((m : Int) < 0) then ((m : Int) + (xs.length : Int)).toNat else min (m : Int).toNat xs.length) = m
    rw [if_neg (by omega), Int.toNat_natCast]
    omega
  unfold cutV
  rw [e (d := 0) (by omega), e (d := xs.length) hj]
theorem cut_from (xs : List V) {i : Nat} (h : i ≤ xs.length) : cutV xs (some (i : Int)) none = xs.drop i := by
  have e : HT.sIx xs.length 0 (some (i : Int)) = i := by
    show (if ((i : Int) < 0) then ((i : Int) + (xs.length : Int)).toNat else min (i : Int).toNat xs.length) = i
    rw [if_neg (by omega), Int.toNat_natCast]
    omega
  unfold cutV
  rw [e]
  show (xs.drop i).take (xs.length - i) = xs.drop i
  rw [List.take_of_length_le (by rw [List.length_drop]; omega)]
theorem dq_perm {H : Hp} {xs ys : List V} (h : ys.Perm xs) : ∀ {ds : List PyData}, DqAll H xs ds [] → ∃ ds', DqAll H ys ds' [] ∧ ds'.Perm ds := by
  induction h with
  | nil => intro ds q; exact ⟨ds, q, List.Perm.refl _⟩
  | @cons x l1 l2 _ ih =>
    intro ds q
    generalize e : ([] : List Addr) = L at q
    cases q with
    | @cons _ _ d ds L1 L2 q1 q2 =>
      obtain ⟨e1, e2⟩ := List.append_eq_nil_iff.mp e.symm
      subst e1 e2
      obtain ⟨ds', q3, p3⟩ := ih q2
      exact ⟨d :: ds', .cons (L := []) q1 q3, p3.cons _⟩
  | @swap x y l =>
    intro ds q
    generalize e : ([] : List Addr) = L at q
    cases q with
    | @cons _ _ d1 ds1 L1 L2 q1 q2 =>
      obtain ⟨e1, e2⟩ := List.append_eq_nil_iff.mp e.symm
      subst e1
      generalize e3 : L2 = L3 at q2
      cases q2 with
      | @cons _ _ d2 ds2 L4 L5 q3 q4 =>
        subst e2
        obtain ⟨e4, e5⟩ := List.append_eq_nil_iff.mp e3.symm
        subst e4 e5
        exact ⟨d2 :: d1 :: ds2, .cons (L := []) q3 (.cons (L := []) q1 q4), List.Perm.swap ..⟩
  | trans _ _ ih1 ih2 =>
    intro ds q
    obtain ⟨ds2, q2, p2⟩ := ih2 q
    obtain ⟨ds1, q1, p1⟩ := ih1 q2
    exact ⟨ds1, q1, p1.trans p2⟩
theorem fr_tupS {p c r : Addr} {H H' : Hp} {xs : List V} (P : Pool p c H) (f : Fr p c H H') (h : H r = some (.tup xs)) : H' r = some (.tup xs) := by
  obtain ⟨ys, i, j, h1, h2, _⟩ := P.ex
  exact f _ _ (fun e => by rw [e, h1] at h; cases h) (fun e => by rw [e, h2] at h; cases h) h
theorem Dq.frS {p c : Addr} {H H' : Hp} {v : V} {d : PyData} {L : List Addr} (q : Dq H v d L) (P : Pool p c H) (f : Fr p c H H') (off : ∀ x ∈ L, x ≠ p ∧ x ≠ c) : Dq H' v d L := q.keep ⟨fun b m => by
  obtain ⟨ys, e⟩ := q.there b m
  rw [e]
  exact f _ _ (off b m).1 (off b m).2 e, fun b ys e => fr_tupS P f e⟩
def spShuf : Sp := fun vs H Q _ => ∃ (p c a : Addr) (xs : List V), vs = [.ref p, .ref a] ∧ Pool p c H ∧ (a ≠ p ∧ a ≠ c) ∧ H a = some (.lst xs) ∧ xs.length ≤ 100 ∧
  ∀ (b : Addr) (ys : List V) (H' : Hp), H b = none → H' b = some (.lst ys) → ys.Perm xs → Pool p c H' → Fr p c H H' → Q (.ref b) H'
theorem fr_free {p c b : Addr} {H H' : Hp} (P : Pool p c H') (f : Fr p c H H') (h : H' b = none) : H b = none := by
  cases e : H b with
  | none => rfl
  | some o =>
    have := f b o (P.np h).1 (P.np h).2 e
    rw [h] at this
    cases this
/-- rows inside a row, from i to m and from m to j -/
def nestD (wd : Str) (ds : List PyData) (i m j : Nat) : List PyData := ds.take i ++ [.tuple [.str "same", .str wd, .str wd, .list ((ds.drop i).take (m - i)), .list ((ds.drop m).take (j - m))]] ++ ds.drop j
def spNest : Sp := fun vs H Q _ => ∃ (p c a : Addr) (wd : Str) (ds : List PyData) (L : List Addr), vs = [.ref p, .ref a, .str wd] ∧ Pool p c H ∧ Dq H (.ref a) (.list ds) L ∧ (∀ x ∈ L, x ≠ p ∧ x ≠ c) ∧ ds.length ≤ 100 ∧
  ∀ (b : Addr) (i m j : Nat) (M : List Addr) (H' : Hp), H b = none → i ≤ m → m ≤ j → j ≤ ds.length → Dq H' (.ref b) (.list (nestD wd ds i m j)) M → (∀ x ∈ M, x ≠ p ∧ x ≠ c) → Pool p c H' → Fr p c H H' → Q (.ref b) H'
abbrev S_law_shuffled : Stmt := topS 62
abbrev N_law_shuffled : List Str := ["_law_pool", "_law_rows", "_law_result", "_law_row"]
abbrev P_law_shuffled : List Str := ["_law_pool", "_law_rows"]
theorem sc_law_shuffled : FnScope N_law_shuffled P_law_shuffled (defScope S_law_shuffled) := ⟨rfl, rfl, rfl, by decide +kernel, rfl, by decide +kernel, by decide +kernel⟩
abbrev S_law_nested : Stmt := topS 63
abbrev N_law_nested : List Str := ["_law_pool", "_law_rows", "_law_name", "_law_at", "_law_end", "_law_middle"]
abbrev P_law_nested : List Str := ["_law_pool", "_law_rows", "_law_name"]
theorem sc_law_nested : FnScope N_law_nested P_law_nested (defScope S_law_nested) := ⟨rfl, rfl, rfl, by decide +kernel, rfl, by decide +kernel, by decide +kernel⟩
theorem DqAll.cut {H : Hp} {xs : List V} {ds : List PyData} {L : List Addr} (h : DqAll H xs ds L) (i n : Nat) : ∃ M, DqAll H ((xs.drop i).take n) ((ds.drop i).take n) M ∧ ∀ x ∈ M, x ∈ L := by
  have e1 : ds = ds.take i ++ ((ds.drop i).take n ++ (ds.drop i).drop n) := by rw [List.take_append_drop, List.take_append_drop]
  rw [e1] at h
  obtain ⟨v1, v2, L1, L2, ex, eL, d1, d2⟩ := h.split
  obtain ⟨v3, v4, L3, L4, ey, eM, d3, d4⟩ := d2.split
  have l1 : v1.length = (ds.take i).length := d1.len
  have l3 : v3.length = ((ds.drop i).take n).length := d3.len
  refine ⟨L3, ?_, fun x m => by rw [eL, eM]; exact List.mem_append_right _ (List.mem_append_left _ m)⟩
  have e2 : (xs.drop i).take n = v3 := by
    rw [ex, ey]
    by_cases hi : i ≤ ds.length
    · have : v1.length = i := by rw [l1, List.length_take]; omega
      rw [List.drop_append_of_le_length (by omega), List.drop_of_length_le (by omega), List.nil_append]
      by_cases hn : n ≤ (ds.drop i).length
      · have : v3.length = n := by rw [l3, List.length_take]; omega
        rw [List.take_append_of_le_length (by omega), List.take_of_length_le (by omega)]
      · have z : ((ds.drop i).drop n) = [] := List.drop_of_length_le (by omega)
        rw [z] at d4
        cases d4
        rw [List.append_nil, List.take_of_length_le (by rw [l3, List.length_take]; omega)]
    · have z0 : ds.drop i = [] := List.drop_of_length_le (by omega)
      rw [z0] at d3 d4
      simp only [List.take_nil, List.drop_nil] at d3 d4
      cases d3
      cases d4
      simp only [List.append_nil]
      have : v1.length ≤ i := by rw [l1, List.length_take]; omega
      rw [List.drop_of_length_le this, List.take_nil]
  rw [e2]
  exact d3
section
variable {P : Program} {w : World} {K : PySem.W.Frag} {mg : Str → Option Value} {base : Heap}
set_option maxHeartbeats 4000000 in
theorem ok_law_shuffled {f fD : Addr} {fd fdD : FuncData} (F : Fun K "_law_shuffled" "_law_shuffled" S_law_shuffled f fd) (B : Bl mg) (d_law_draw : Df K mg "_law_draw" S_law_draw fD fdD P_law_draw) (G_law_draw : FnOk P w K mg base CX0 1 fD fdD P_law_draw spDraw) : FnOk P w K mg base CX0 2 f fd P_law_shuffled spShuf := by
  refine F.ok sc_law_shuffled (fun vs H Q E h => ?_) (fun cdv A outer s H vs Q E hr h => ?_)
  · obtain ⟨p, c, a, xs, rfl, _⟩ := h
    rfl
  · obtain ⟨p, c, a, xs, rfl, PL, an, ha, l100, k⟩ := h
    have hr_law_draw : Room 1 _ := hr.mono (Nat.le_refl 1)
    refine ⟨_, (pss_cons (ps_set (i := 2) sc_law_shuffled.nd rfl (by first | exact Or.inl rfl | exact Or.inr rfl) (pe_lst pa_nil))
 (pss_cons (ps_for PassesOwn.never rfl (pi_list (pv 1)) (pg_name (i := 3) sc_law_shuffled.nd rfl (by first | exact Or.inl rfl | exact Or.inr rfl)) (pss_one (ps_expr (pe_bm PySem.F.plainAttrs_list PySem.F.slot_list_insert PySem.F.type_list_insert mt_insert (pv 2) (pa_cons (pe_call G_law_draw hr_law_draw rfl d_law_draw.g d_law_draw.F.kp d_law_draw.b .nil pass0 (pa_cons (pv 0) (pa_cons (pe_op op_add (pe_callB call_len_seq (by rfl) B.m_len PySem.boot_len (pa_cons (pv 2) pa_nil)) pe_int) pa_nil))) (pa_cons (pv 3) pa_nil))))))
 (pss_one (ps_ret (pv 2))))), ?_⟩
    refine ⟨Nat.zero_le _, fun R hR => ?_⟩
    have s0 := same_new (o := .lst []) hR
    have Rp := PL.np hR
    refine ⟨_, rfl, a, rfl, ⟨_, SqL.of (s0 _ _ ha)⟩, for_list (xs := xs) (fun i σ G => ∃ (z3 : Option V) (ys : List V), σ = [some (.ref p), some (.ref a), some (.ref R), z3] ∧ Pool p c G ∧ Fr p c H G ∧ G R = some (.lst ys) ∧ ys.Perm (xs.take i)) ⟨_, [], rfl, PL.same s0, .of_same s0, upd_same, by rw [List.take_zero]⟩ ?_ ?_ ?_⟩
    · rintro i σ G hi ⟨z3, ys, rfl, PG, fG, hy, py⟩
      exact SqL.of (fG _ _ an.1 an.2 ha)
    · rintro i x σ G hx ⟨z3, ys, rfl, PG, fG, hy, py⟩
      have yl : ys.length ≤ 100 := by
        rw [py.length_eq, List.length_take]
        omega
      refine ⟨_, rfl, .inl ⟨rfl, _, SqL.of hy⟩, _, rfl, _, rfl, R, _, rfl, .inl (SqL.of hy), _, _, rfl, rfl, p, c, _, rfl, PG, by omega, log_small (by omega) (by omega), fun r G1 r0 r1 P1 f1 => ?_⟩
      have hy1 := f1 _ _ Rp.1 Rp.2 hy
      refine ⟨_, rfl, R, ys, r, x, rfl, rfl, hy1, small1000 (by omega), r0, by omega, ⟨_, ys.take r.toNat ++ [x] ++ ys.drop r.toNat, rfl, P1.upd2 Rp _, fun b o n1 n2 e => (upd_ne (fun z => by rw [z, hR] at e; cases e)).trans (f1 _ _ n1 n2 (fG _ _ n1 n2 e)), upd_same, ?_⟩⟩
      rw [take_next hx]
      have h1 : (ys.take r.toNat ++ [x] ++ ys.drop r.toNat).Perm (x :: ys) := by
        rw [List.append_assoc]
        have := List.perm_middle (a := x) (l₁ := ys.take r.toNat) (l₂ := ys.drop r.toNat)
        rw [List.take_append_drop] at this
        exact this
      exact h1.trans ((py.cons x).trans (List.perm_append_comm (l₁ := [x])))
    · rintro σ G ⟨z3, ys, rfl, PG, fG, hy, py⟩
      rw [List.take_length] at py
      exact ⟨_, rfl, k R ys G hR hy py PG fG⟩
set_option maxHeartbeats 4000000 in
theorem ok_law_nested {f fD : Addr} {fd fdD : FuncData} (F : Fun K "_law_nested" "_law_nested" S_law_nested f fd) (B : Bl mg) (d_law_draw : Df K mg "_law_draw" S_law_draw fD fdD P_law_draw) (G_law_draw : FnOk P w K mg base CX0 1 fD fdD P_law_draw spDraw) : FnOk P w K mg base CX0 2 f fd P_law_nested spNest := by
  refine F.ok sc_law_nested (fun vs H Q E h => ?_) (fun cdv A outer s H vs Q E hr h => ?_)
  · obtain ⟨p, c, a, wd, ds, L, rfl, _⟩ := h
    rfl
  · obtain ⟨p, c, a, wd, ds, L, rfl, PL, hd, oL, l100, k⟩ := h
    have hr_law_draw : Room 1 _ := hr.mono (Nat.le_refl 1)
    obtain ⟨L0, eL, _, xs, ha, da⟩ := hd.own
    have xl : xs.length = ds.length := da.len
    have an : a ≠ p ∧ a ≠ c := oL a (by rw [eL]; exact List.mem_cons_self ..)
    have oL0 : ∀ x ∈ L0, x ≠ p ∧ x ≠ c := fun x m => oL x (by rw [eL]; exact List.mem_cons_of_mem _ m)
    refine ⟨_, (pss_cons (ps_set (i := 3) sc_law_nested.nd rfl (by first | exact Or.inl rfl | exact Or.inr rfl) (pe_call G_law_draw hr_law_draw rfl d_law_draw.g d_law_draw.F.kp d_law_draw.b .nil pass0 (pa_cons (pv 0) (pa_cons (pe_op op_add (pe_callB call_len_seq (by rfl) B.m_len PySem.boot_len (pa_cons (pv 1) pa_nil)) pe_int) pa_nil))))
 (pss_cons (ps_set (i := 4) sc_law_nested.nd rfl (by first | exact Or.inl rfl | exact Or.inr rfl) (pe_op op_add (pv 3) (pe_call G_law_draw hr_law_draw rfl d_law_draw.g d_law_draw.F.kp d_law_draw.b .nil pass0 (pa_cons (pv 0) (pa_cons (pe_op op_add (pe_op op_sub (pe_callB call_len_seq (by rfl) B.m_len PySem.boot_len (pa_cons (pv 1) pa_nil)) (pv 3)) pe_int) pa_nil)))))
 (pss_cons (ps_set (i := 5) sc_law_nested.nd rfl (by first | exact Or.inl rfl | exact Or.inr rfl) (pe_op op_add (pv 3) (pe_call G_law_draw hr_law_draw rfl d_law_draw.g d_law_draw.F.kp d_law_draw.b .nil pass0 (pa_cons (pv 0) (pa_cons (pe_op op_add (pe_op op_sub (pv 4) (pv 3)) pe_int) pa_nil)))))
 (pss_one (ps_ret (pe_op op_cat (pe_op op_cat (pe_slice sl_list (pv 1) po_none (po_some (pv 3))) (pe_lst (pa_cons (pe_tup (pa_cons pe_str (pa_cons (pv 2) (pa_cons (pv 2) (pa_cons (pe_slice sl_list (pv 1) (po_some (pv 3)) (po_some (pv 5))) (pa_cons (pe_slice sl_list (pv 1) (po_some (pv 5)) (po_some (pv 4))) pa_nil)))))) pa_nil))) (pe_slice sl_list (pv 1) (po_some (pv 4)) po_none))))))), ?_⟩
    refine ⟨_, rfl, _, rfl, a, _, rfl, .inl (SqL.of ha), _, _, rfl, rfl, p, c, _, rfl, PL, by omega, log_small (by omega) (by omega), fun r1 H1 r10 r11 P1 f1 => ?_⟩
    have ha1 := f1 _ _ an.1 an.2 ha
    obtain ⟨i, rfl⟩ : ∃ n : Nat, r1 = (n : Int) := ⟨r1.toNat, by omega⟩
    refine ⟨_, rfl, _, rfl, _, rfl, a, _, rfl, .inl (SqL.of ha1), _, rfl, _, _, rfl, rfl, _, _, rfl, rfl, p, c, _, rfl, P1, by omega, log_small (by omega) (by omega), fun r2 H2 r20 r21 P2 f2 => ?_⟩
    have ha2 := f2 _ _ an.1 an.2 ha1
    obtain ⟨j0, rfl⟩ : ∃ n : Nat, r2 = (n : Int) := ⟨r2.toNat, by omega⟩
    refine ⟨_, _, rfl, rfl, _, rfl, _, rfl, _, rfl, _, rfl, _, _, rfl, rfl, _, _, rfl, rfl, p, c, _, rfl, P2, by omega, log_small (by omega) (by omega), fun r3 H3 r30 r31 P3 f3 => ?_⟩
    have ha3 := f3 _ _ an.1 an.2 ha2
    obtain ⟨m0, rfl⟩ : ∃ n : Nat, r3 = (n : Int) := ⟨r3.toNat, by omega⟩
    have fA : Fr p c H H3 := (f1.trans f2).trans f3
    have da3 : DqAll H3 xs ds L0 := ((da.keep ⟨fun b mb => by
      obtain ⟨ys, e⟩ := da.there b mb
      rw [e]
      exact fA _ _ (oL0 b mb).1 (oL0 b mb).2 e, fun b ys e => fr_tupS PL fA e⟩))
    obtain ⟨j, ej⟩ : ∃ j, j = i + j0 := ⟨_, rfl⟩
    obtain ⟨m, em⟩ : ∃ m, m = i + m0 := ⟨_, rfl⟩
    have cj : ((i : Int) + (j0 : Int)) = (j : Int) := by omega
    have cm : ((i : Int) + (m0 : Int)) = (m : Int) := by omega
    have im : i ≤ m := by omega
    have mj : m ≤ j := by omega
    have jl : j ≤ xs.length := by omega
    have c1 : cutV xs none (some (i : Int)) = xs.take i := cutV_to (by omega)
    have c2 : cutV xs (some (i : Int)) (some ((i : Int) + (m0 : Int))) = (xs.drop i).take (m - i) := by rw [cm]; exact cut_two xs im (by omega)
    have c3 : cutV xs (some ((i : Int) + (m0 : Int))) (some ((i : Int) + (j0 : Int))) = (xs.drop m).take (j - m) := by rw [cm, cj]; exact cut_two xs mj jl
    have c4 : cutV xs (some ((i : Int) + (j0 : Int))) none = xs.drop j := by rw [cj]; exact cut_from xs jl
    refine ⟨_, _, rfl, rfl, _, rfl, _, rfl, _, rfl, a, _, rfl, SqL.of ha3, fun q1 nq1 => ?_⟩
    rw [c1]
    have s1 := same_new (o := .lst (xs.take i)) nq1
    refine ⟨_, rfl, _, rfl, _, rfl, _, rfl, _, rfl, _, rfl, _, rfl, a, _, rfl, SqL.of (s1 _ _ ha3), fun q2 nq2 => ?_⟩
    rw [c2]
    have s2' := same_new (o := .lst ((xs.drop i).take (m - i))) nq2
    have s2 := s1.trans s2'
    refine ⟨_, rfl, _, rfl, _, rfl, _, rfl, _, rfl, a, _, rfl, SqL.of (s2 _ _ ha3), fun q3 nq3 => ?_⟩
    rw [c3]
    have s3' := same_new (o := .lst ((xs.drop m).take (j - m))) nq3
    have s3 := s2.trans s3'
    refine ⟨(by show 5 ≤ sizeLine; decide), fun t nt => ⟨(by show 1 ≤ sizeLine; decide), fun l nl => ?_⟩⟩
    have s4' := same_new (o := .tup [.str "same", .str wd, .str wd, .ref q2, .ref q3]) nt
    have s5' := same_new (o := .lst [.ref t]) nl
    have h1 := s5' _ _ (s4' _ _ (s3' _ _ (s2' _ _ (upd_same (H := H3) (a := q1) (o := .lst (xs.take i))))))
    have h2 := s5' _ _ (s4' _ _ (s3' _ _ (upd_same (H := upd H3 q1 (.lst (xs.take i))) (a := q2) (o := .lst ((xs.drop i).take (m - i))))))
    have h3 := s5' _ _ (s4' _ _ (upd_same (H := upd (upd H3 q1 (.lst (xs.take i))) q2 (.lst ((xs.drop i).take (m - i)))) (a := q3) (o := .lst ((xs.drop m).take (j - m)))))
    have ht := s5' _ _ (upd_same (H := upd (upd (upd H3 q1 (.lst (xs.take i))) q2 (.lst ((xs.drop i).take (m - i)))) q3 (.lst ((xs.drop m).take (j - m)))) (a := t) (o := .tup [.str "same", .str wd, .str wd, .ref q2, .ref q3]))
    have s5 := s3.trans (s4'.trans s5')
    obtain ⟨T5, e5⟩ : ∃ T : Hp, T = upd (upd (upd (upd (upd H3 q1 (.lst (xs.take i))) q2 (.lst ((xs.drop i).take (m - i)))) q3 (.lst ((xs.drop m).take (j - m)))) t (.tup [.str "same", .str wd, .str wd, .ref q2, .ref q3])) l (.lst [.ref t]) := ⟨_, rfl⟩
    have hl : T5 l = some (.lst [.ref t]) := by rw [e5]; exact upd_same
    rw [← e5] at h1 h2 h3 ht s5
    refine ⟨q1, l, _, _, rfl, rfl, e5 ▸ h1, e5 ▸ hl, ?_, fun q4 nq4 => ?_⟩
    · rw [List.length_take]
      exact Nat.le_of_lt (small1000 (by show min i xs.length + 1 ≤ 1000; omega))
    rw [← e5] at nq4 ⊢
    have s6' := same_new (o := .lst (xs.take i ++ [.ref t])) nq4
    have s6 := s5.trans s6'
    refine ⟨_, rfl, _, rfl, _, rfl, a, _, rfl, SqL.of (s6 _ _ ha3), fun q5 nq5 => ?_⟩
    rw [c4]
    have s7' := same_new (o := .lst (xs.drop j)) nq5
    have s7 := s6.trans s7'
    refine ⟨q4, q5, _, _, rfl, rfl, s7' _ _ upd_same, upd_same, ?_, fun b nb => ?_⟩
    · rw [List.length_append, List.length_take, List.length_drop]
      exact Nat.le_of_lt (small1000 (by show min i xs.length + 1 + (xs.length - j) ≤ 1000; omega))
    have s8' := same_new (o := .lst (xs.take i ++ [.ref t] ++ xs.drop j)) nb
    have s8 := s7.trans s8'
    have s58 := s6'.trans (s7'.trans s8')
    have np : ∀ {x : Addr}, H3 x = none → x ≠ p ∧ x ≠ c := fun h => P3.np h
    obtain ⟨M0, d0, m0s⟩ := da3.cut 0 i
    obtain ⟨M1, d1, m1s⟩ := da3.cut i (m - i)
    obtain ⟨M2, d2, m2s⟩ := da3.cut m (j - m)
    obtain ⟨M3, d3, m3s⟩ := da3.cut j (ds.length - j)
    rw [List.drop_zero, List.drop_zero] at d0
    rw [List.take_of_length_le (by rw [List.length_drop]; omega), List.take_of_length_le (by rw [List.length_drop]; omega)] at d3
    refine k b i m j (b :: ((M0 ++ (([] ++ ([] ++ ([] ++ ((q2 :: M1) ++ ((q3 :: M2) ++ []))))) ++ [])) ++ M3)) _ (fr_free P3 fA ((s5.trans (s6'.trans s7')).free nb)) im mj (by omega) (.lst upd_same ?_) ?_ (P3.same s8) (fA.trans (.of_same s8))
    · exact ((d0.same s8).append (.cons (.tup (s58 _ _ ht) (.cons (L := []) (.str _) (.cons (L := []) (.str _) (.cons (L := []) (.str _) (.cons (.lst (s58 _ _ h2) (d1.same s8)) (.cons (.lst (s58 _ _ h3) (d2.same s8)) .nil)))))) .nil)).append (d3.same s8)
    · have n1 := (s5.trans (s6'.trans s7'))
      intro x mx
      have old : x ∈ L0 → x ≠ p ∧ x ≠ c := oL0 x
      simp only [List.mem_cons, List.mem_append, List.not_mem_nil, or_false, false_or] at mx
      rcases mx with rfl | ((m | (rfl | m) | (rfl | m)) | m)
      · exact np (n1.free nb)
      · exact old (m0s x m)
      · exact np (s1.free nq2)
      · exact old (m1s x m)
      · exact np (s2.free nq3)
      · exact old (m2s x m)
      · exact old (m3s x m)
end
end TW
set_option Elab.async false
set_option linter.all false
set_option maxRecDepth 100000
namespace TW
open PySem PySem.Spec PyProof.Rows L2 TL
/-- does a row count for a word: the empty word counts them all -/
def isW (w : Str) (d : PyData) : Bool := decide (w = "") || decide (kindOf d = w)
def cntW (w : Str) (l : List PyData) : Nat := l.countP (isW w)
def nW (n : Nat) (w : Str) (d : PyData) : Nat := (if isW w d = true then 1 else 0) + (cntW w (Rn n (inner d).1) + cntW w (Rn n (inner d).2))
theorem cntW_nW (n : Nat) (w : Str) (ds : List PyData) : cntW w (rowsD n ds) = (ds.map (nW n w)).sum := by
  rw [rowsD_lvl]
  unfold lvlR
  induction ds with
  | nil => rfl
  | cons d ds ih =>
    rw [List.flatMap_cons, List.map_cons, List.sum_cons, ← ih]
    unfold cntW nW
    rw [List.countP_append, List.countP_cons, List.countP_append]
    unfold cntW
    omega
def spTotal (ws fs : List Str) (n : Nat) : Sp := fun vs H Q _ => ∃ (a : Addr) (w : Str) (ds : List PyData) (L : List Addr), vs = [.ref a, .str w] ∧ Dq H (.ref a) (.list ds) L ∧ (∀ d ∈ ds, RowD n d) ∧ (∀ d ∈ rowsD n ds, OkR ws fs d) ∧ w.length ≤ 8 ∧
  ∀ H', Same H H' → Q (.int ((cntW w (rowsD n ds) : Nat) : Int)) H'
def spTotalI (ws fs : List Str) : Nat → Sp
  | 0 => fun _ _ _ _ => False
  | n + 1 => spTotal ws fs n
abbrev S_law_total : Stmt := topS 64
abbrev N_law_total : List Str := ["_law_rows", "_law_word_here", "_law_total_here", "_law_row"]
abbrev P_law_total : List Str := ["_law_rows", "_law_word_here"]
theorem sc_law_total : FnScope N_law_total P_law_total (defScope S_law_total) := ⟨rfl, rfl, rfl, by decide +kernel, rfl, by decide +kernel, by decide +kernel⟩
section
variable {P : Program} {w : World} {K : PySem.W.Frag} {mg : Str → Option Value} {base : Heap}
set_option maxHeartbeats 8000000 in
theorem ok_law_total_step {f : Addr} {fd : FuncData} {ws fs : List Str} (F : Fun K "_law_total" "_law_total" S_law_total f fd) (B : Bl mg) (n : Nat) (d_law_total : Df K mg "_law_total" S_law_total f fd P_law_total) (G_law_total : FnOk P w K mg base CX0 n f fd P_law_total (spTotalI ws fs n)) : FnOk P w K mg base CX0 (n + 1) f fd P_law_total (spTotal ws fs n) := by
  refine F.ok sc_law_total (fun vs H Q E h => ?_) (fun cdv A outer s H vs Q E hr h => ?_)
  · obtain ⟨a, z, ds, L, rfl, _⟩ := h
    rfl
  · obtain ⟨a, z, ds, L, rfl, hd, rows, ok, z8, kk⟩ := h
    have hr_law_total : Room n _ := hr
    rw [cntW_nW] at kk
    have hdL := hd.there
    cases hd with
    | @lst _ xs _ L0 ha da =>
    have hlen := da.len
    refine ⟨_, (pss_cons (ps_set (i := 2) sc_law_total.nd rfl (by first | exact Or.inl rfl | exact Or.inr rfl) pe_int)
 (pss_cons (ps_for PassesOwn.never rfl (pi_list (pv 0)) (pg_name (i := 3) sc_law_total.nd rfl (by first | exact Or.inl rfl | exact Or.inr rfl)) (pss_cons (ps_cut (ps_set (i := 2) sc_law_total.nd rfl (by first | exact Or.inl rfl | exact Or.inr rfl) (pe_op op_add (pv 2) (pe_callTy call_int1 (by rfl) B.m_int (by decide +kernel) (pa_cons (pe_or (pe_cmpR op_eq (pv 1) pe_str (nomark _)) (pe_one (pe_cmpR op_eq (pe_ix ix_tup (pv 3) pe_int (fun _ _ => rfl)) (pv 1) (nomark _)))) pa_nil)))))
 (pss_one (ps_if (pt_cmpR op_in_seq (pe_ix ix_tup (pv 3) pe_int (fun _ _ => rfl)) (pe_tup (pa_cons pe_str (pa_cons pe_str pa_nil))) (by rfl)) (pss_one (ps_set (i := 2) sc_law_total.nd rfl (by first | exact Or.inl rfl | exact Or.inr rfl) (pe_op op_add (pe_op op_add (pv 2) (pe_call G_law_total hr_law_total rfl d_law_total.g d_law_total.F.kp d_law_total.b .nil pass0 (pa_cons (pe_ix ix_tup (pv 3) (pe_un un_neg pe_int) (fun _ _ => rfl)) (pa_cons (pv 1) pa_nil)))) (pe_call G_law_total hr_law_total rfl d_law_total.g d_law_total.F.kp d_law_total.b .nil pass0 (pa_cons (pe_ix ix_tup (pv 3) (pe_un un_neg pe_int) (fun _ _ => rfl)) (pa_cons (pv 1) pa_nil)))))) pss_nil))))
 (pss_one (ps_ret (pv 2))))), ?_⟩
    refine ⟨_, rfl, ?_⟩
    refine ⟨a, rfl, ⟨_, SqL.of ha⟩, for_list (xs := xs) (fun i σ G => ∃ (z2 : Option V), σ = [some (.ref a), some (.str z), some (.int ((((ds.take i).map (nW n z)).sum : Nat) : Int)), z2] ∧ Same H G) ⟨_, rfl, fun _ _ e => e⟩ ?_ ?_ ?_⟩
    · rintro i σ G hi ⟨z2, rfl, sG⟩
      exact SqL.of (sG _ _ ha)
    · rintro i x σ G hx ⟨z2, rfl, sG⟩
      obtain ⟨d, N, hdi, hq, _⟩ := da.get hx
      have hqG := hq.same sG
      have md := List.mem_of_getElem? hdi
      have tk := take_next hdi
      have okd : OkR ws fs d := ok d (by
        rw [rowsD_lvl]
        exact List.mem_flatMap.mpr ⟨d, md, List.mem_cons_self ..⟩)
      obtain ⟨r, k, us, rs, ps, rfl, RG, alt⟩ := row_view okd (rows d md) hqG
      have hrt := RG.rV.t
      have hx0 : (HO.tup (V.str k :: us)) = HO.tup (V.str k :: us) := rfl
      have kd : kindOf d = k := by
        rw [RG.rD]
        rfl
      have vt : ((ds.take (i + 1)).map (nW n z)).sum = ((ds.take i).map (nW n z)).sum + nW n z d := by
        rw [tk, List.map_append, List.sum_append, List.map_cons, List.map_nil, List.sum_cons, List.sum_nil, Nat.add_zero]
      obtain ⟨acc, eacc⟩ : ∃ acc, acc = ((ds.take i).map (nW n z)).sum := ⟨_, rfl⟩
      rw [← eacc] at vt ⊢
      rw [vt]
      refine ⟨fun σ G' => G' = G ∧ σ = [some (V.ref a), some (V.str z), some (V.int (((acc + (if isW z d = true then 1 else 0)) : Nat) : Int)), some (V.ref r)], ?_, ?_⟩
      · refine ⟨_, rfl, _, rfl, rfl, _, rfl, ite_dec (fun hb => ?_) (fun hb => ?_)⟩
        · have e := dstr hb
          refine .inr ⟨_, rfl, _, _, rfl, rfl, rfl, ?_⟩
          rw [if_pos (show isW z d = true by rw [isW, decide_eq_true e]; exact Bool.true_or _)]
          rfl
        · have ne : ¬ z = "" := fun e => of_decide_eq_false hb (by rw [e])
          refine ⟨_, rfl, r, _, 0, .str k, rfl, rfl, SqT.of hrt, atI_of (j := 0) rfl rfl, _, rfl, rfl, .inr ⟨_, rfl, _, _, rfl, rfl, rfl, ?_⟩⟩
          have e1 : isW z d = decide (V.str k = V.str z) := by
            rw [isW, decide_eq_false ne, Bool.false_or, kd]
            by_cases h : k = z
            · rw [h, decide_eq_true rfl, decide_eq_true rfl]
            · rw [decide_eq_false h, decide_eq_false (fun e => h (V.str.inj e))]
          rw [e1]
          by_cases h : V.str k = V.str z
          · rw [decide_eq_true h]
            rfl
          · rw [decide_eq_false h]
            rfl
      rintro σ G' ⟨rfl, rfl⟩
      obtain ⟨one, eone⟩ : ∃ one, one = (if isW z d = true then 1 else 0) := ⟨_, rfl⟩
      rw [← eone]
      have enW : nW n z d = one + (cntW z (Rn n (inner d).1) + cntW z (Rn n (inner d).2)) := by rw [eone]; rfl
      refine ⟨_, rfl, r, _, 0, .str k, rfl, rfl, SqT.of hrt, atI_of (j := 0) rfl rfl, (by show 2 ≤ sizeLine; decide), fun p1 hp1 => ⟨p1, _, rfl, .inr (SqT.of upd_same), rfl, rfl, _, rfl, ?_⟩⟩
      have s6 := same_new (o := .tup [.str (Str.ofString "same"), .str (Str.ofString "empty")]) hp1
      rcases alt with ⟨e1, e2, e3, n1, n2⟩ | ⟨m, u1, pa, pb, as, bs, La, Lb, rfl, rfl, e1, B2, e2, e3, ps0, rfl, d0⟩
      · refine ite_dec (fun hb => absurd hb ?_) (fun hb => ?_)
        · show ¬ inV (.str k) [.str (Str.ofString "same"), .str (Str.ofString "empty")] = true
          rw [in_two, decide_eq_false (fun h => h.elim n1 n2)]
          exact Bool.noConfusion
        · refine ⟨some (.ref r), ?_, sG.trans s6⟩
          have : nW n z d = one := by
            rw [enW, e3]
            show one + (cntW z (Rn n []) + cntW z (Rn n [])) = _
            rw [Rn_nil]
            rfl
          rw [this]
      · refine ite_dec (fun hb => ?_) (fun hb => absurd hb ?_)
        rotate_left
        · show ¬ inV (.str k) [.str (Str.ofString "same"), .str (Str.ofString "empty")] = false
          rw [in_two, decide_eq_true B2.w]
          exact Bool.noConfusion
        have qa5 : Dq (upd G' p1 (.tup [.str (Str.ofString "same"), .str (Str.ofString "empty")])) (.ref pa) (.list as) La := B2.a.same s6
        have qb5 : Dq (upd G' p1 (.tup [.str (Str.ofString "same"), .str (Str.ofString "empty")])) (.ref pb) (.list bs) Lb := B2.b.same s6
        have hr5 := s6 _ _ hrt
        have sub : ∀ (cs : List PyData), (cs = as ∨ cs = bs) → (∀ e ∈ rowsD m cs, OkR ws fs e) := fun cs hc e he => ok e (by
          rw [rowsD_lvl]
          refine List.mem_flatMap.mpr ⟨d, md, List.mem_cons_of_mem _ ?_⟩
          rw [e3]
          rcases hc with rfl | rfl
          · exact List.mem_append_left _ he
          · exact List.mem_append_right _ he)
        have ev : nW (m + 1) z d = one + (cntW z (rowsD m as) + cntW z (rowsD m bs)) := by
          rw [enW, e3]
          rfl
        refine ⟨_, rfl, _, rfl, _, rfl, r, _, -2, .ref pa, rfl, rfl, SqT.of hr5, (atI_two (xs := V.str k :: u1)).1, _, rfl, pa, z, as, La, rfl, qa5, B2.ra, sub as (.inl rfl), z8, fun T6 s7 => ?_⟩
        refine ⟨_, _, rfl, rfl, _, rfl, _, rfl, r, _, -1, .ref pb, rfl, rfl, SqT.of (s7 _ _ hr5), (atI_two (xs := V.str k :: u1)).2, _, rfl, pb, z, bs, Lb, rfl, qb5.same s7, B2.rb, sub bs (.inr rfl), z8, fun T7 s8 => ?_⟩
        refine ⟨_, _, rfl, rfl, some (.ref r), ?_, ((sG.trans s6).trans s7).trans s8⟩
        rw [ev]
        have e9 : ((acc + one : Nat) : Int) + ((cntW z (rowsD m as) : Nat) : Int) + ((cntW z (rowsD m bs) : Nat) : Int) = ((acc + (one + (cntW z (rowsD m as) + cntW z (rowsD m bs))) : Nat) : Int) := by omega
        rw [← e9]
        rfl
    · rintro σ G ⟨z2, rfl, sG⟩
      rw [hlen, List.take_length]
      exact ⟨_, rfl, kk G sG⟩
theorem ok_law_total {f : Addr} {fd : FuncData} {ws fs : List Str} (F : Fun K "_law_total" "_law_total" S_law_total f fd) (B : Bl mg) (d_law_total : Df K mg "_law_total" S_law_total f fd P_law_total) : ∀ n : Nat, FnOk P w K mg base CX0 (n + 1) f fd P_law_total (spTotal ws fs n)
  | 0 => ok_law_total_step F B 0 d_law_total ⟨fun _ _ _ _ h => False.elim h, fun _ _ _ _ _ _ _ _ _ _ _ _ _ h => False.elim h⟩
  | n + 1 => ok_law_total_step F B (n + 1) d_law_total (ok_law_total F B d_law_total n)
end
end TW
set_option Elab.async false
set_option linter.all false
set_option maxRecDepth 100000
namespace TW
open PySem PySem.Spec PyProof.Rows L2 TL
theorem cnt_dedupN (l : List Str) : ∀ {i : Nat}, i ≤ l.length → cnt (l.take i) = (dedupN l i).length
  | 0, _ => rfl
  | i + 1, h => by
    have hi : i < l.length := h
    have e : l[i]? = some l[i] := List.getElem?_eq_getElem hi
    have ih := cnt_dedupN l (Nat.le_of_lt hi)
    rw [take_next e, cnt_snoc]
    by_cases m : l[i] ∈ l.take i
    · rw [if_pos m, dedupN_in e m, ih]
    · rw [if_neg m, dedupN_out e m, ih, List.length_append]
      rfl
theorem cnt_dedupF (l : List Str) : cnt l = (dedupF l).length := by
  have := cnt_dedupN l (Nat.le_refl _)
  rw [List.take_length] at this
  exact this
theorem dedupF_mem' {l : List Str} {x : Str} : x ∈ dedupF l ↔ x ∈ l := by
  have := dedupN_mem (l := l) (x := x) (Nat.le_refl l.length)
  rw [List.take_length] at this
  exact this
theorem dedupF_perm {l m : List Str} (h : ∀ x, x ∈ l ↔ x ∈ m) : (dedupF l).length = (dedupF m).length := by
  have n1 : (dedupF l).Nodup := dedupN_nodup (Nat.le_refl _)
  have n2 : (dedupF m).Nodup := dedupN_nodup (Nat.le_refl _)
  refine Nat.le_antisymm (len_le_of_sub _ _ n1 fun x hx => ?_) (len_le_of_sub _ _ n2 fun x hx => ?_)
  · exact dedupF_mem'.mpr ((h x).mp (dedupF_mem'.mp hx))
  · exact dedupF_mem'.mpr ((h x).mpr (dedupF_mem'.mp hx))
theorem walk_kinds {n : Nat} {ds : List PyData} : ((walkD n [] ds).map fun e => kindOf e.2) = (rowsD n ds).map kindOf := by
  rw [← walkD_rows n [] ds, List.map_map]
  rfl
theorem onlyL_new {rd : Addr} {H T H' : Hp} (h : H rd = none) (s : Same H T) (o : OnlyL [rd] T H') : Same H H' := fun b u e => o _ _ (s _ _ e) fun m => by
  rw [List.mem_singleton.mp m, h] at e
  cases e
def spDue (fs : List Str) : Sp := fun vs H Q _ => ∃ (i f a o : Addr) (is os : List Str) (n : Nat) (ds : List PyData) (L : List Addr), vs = [.ref i, .ref f, .ref a, .ref o] ∧ H i = some (.lst (is.map V.str)) ∧ H f = some (.lst (fs.map V.str)) ∧ Dq H (.ref a) (.list ds) L ∧ H o = some (.lst (os.map V.str)) ∧ n ≤ 3 ∧ (∀ d ∈ ds, RowD n d) ∧ (∀ d ∈ ds, Sm d) ∧ ds.length ≤ 100 ∧ (rowsD n ds).length ≤ 100 ∧ is.length ≤ 10 ∧ os.length ≤ 10 ∧
  (faultW fs [] (walkD 4 [] ds) = none → FewP is os n ds → ∀ H', Same H H' → Q .non H') ∧
  (faultW fs [] (walkD 4 [] ds) = none → ¬ FewP is os n ds → ∀ t H', Same H H' → Dq H' (.ref t) (.tuple [.str "many", .tuple []]) [] → Q (.ref t) H') ∧
  (∀ part pl, faultW fs [] (walkD 4 [] ds) = some (part, pl) → ∀ t H', Same H H' → Dq H' (.ref t) (.tuple [.str part, .tuple (pl.map PyData.int)]) [] → Q (.ref t) H')
theorem cntW_all (l : List PyData) : cntW "" l = l.length := by
  unfold cntW
  rw [List.countP_eq_length]
  intro d _
  rfl
theorem cntW_copy (l : List PyData) : cntW "copy" l = (l.map copiesOf).sum := by
  induction l with
  | nil => rfl
  | cons d l ih =>
    rw [List.map_cons, List.sum_cons, ← ih]
    unfold cntW copiesOf
    rw [List.countP_cons]
    by_cases h : kindOf d = "copy"
    · rw [if_pos h, if_pos (show isW "copy" d = true by rw [isW, decide_eq_true h, Bool.or_true])]
      omega
    · rw [if_neg h, if_neg (show ¬ isW "copy" d = true by
        rw [isW, decide_eq_false h, Bool.or_false, decide_eq_false (by decide +kernel)]
        exact Bool.false_ne_true)]
      omega
theorem cntW_watch (l : List PyData) : cntW "watch" l = (l.flatMap readersOf).length := by
  induction l with
  | nil => rfl
  | cons d l ih =>
    rw [List.flatMap_cons, List.length_append, ← ih]
    unfold cntW readersOf
    rw [List.countP_cons]
    by_cases h : kindOf d = "watch"
    · rw [if_pos h, if_pos (show isW "watch" d = true by rw [isW, decide_eq_true h, Bool.or_true])]
      show _ = 1 + _
      omega
    · rw [if_neg h, if_neg (show ¬ isW "watch" d = true by
        rw [isW, decide_eq_false h, Bool.or_false, decide_eq_false (by decide +kernel)]
        exact Bool.false_ne_true)]
      show _ = 0 + _
      omega
abbrev S_law_due : Stmt := topS 65
abbrev N_law_due : List Str := ["_law_inputs", "_law_fields", "_law_rows", "_law_results", "_law_fault_here", "_law_many"]
abbrev P_law_due : List Str := ["_law_inputs", "_law_fields", "_law_rows", "_law_results"]
theorem sc_law_due : FnScope N_law_due P_law_due (defScope S_law_due) := ⟨rfl, rfl, rfl, by decide +kernel, rfl, by decide +kernel, by decide +kernel⟩
section
variable {P : Program} {w : World} {K : PySem.W.Frag} {mg : Str → Option Value} {base : Heap}
set_option maxHeartbeats 8000000 in
theorem ok_law_due {f fF fT fN : Addr} {fd fdF fdT fdN : FuncData} {fs : List Str} (F : Fun K "_law_due" "_law_due" S_law_due f fd) (B : Bl mg) (d_law_fault : Df K mg "_law_fault" S_law_fault fF fdF P_law_fault) (G_law_fault : FnOk P w K mg base CX0 8 fF fdF P_law_fault (spFault K fs 4))
    (d_law_total : Df K mg "_law_total" S_law_total fT fdT P_law_total) (G_t : ∀ ws n, FnOk P w K mg base CX0 (n + 1) fT fdT P_law_total (spTotal ws fs n)) (d_law_named : Df K mg "_law_named" S_law_named fN fdN P_law_named) (G_n : ∀ ws n, FnOk P w K mg base CX0 (n + 2) fN fdN P_law_named (spNamed ws fs n)) : FnOk P w K mg base CX0 9 f fd P_law_due (spDue fs) := by
  refine F.ok sc_law_due (fun vs H Q E h => ?_) (fun cdv A outer s H vs Q E hr h => ?_)
  · obtain ⟨i, f, a, o, is, os, n, ds, L, rfl, _⟩ := h
    rfl
  · obtain ⟨i, f, a, o, is, os, n, ds, L, rfl, hi, hf, hd, ho, n3, rd, sm, l100, r100, i10, o10, kF, kM, kS⟩ := h
    obtain ⟨ws, hws⟩ : ∃ ws, ws = (rowsD n ds).flatMap varsOf := ⟨_, rfl⟩
    have G_law_total := G_t ws n
    have G_law_named := G_n ws n
    have hr_law_fault : Room 8 _ := hr
    have hr_law_total : Room (n + 1) _ := hr.mono (by omega)
    have hr_law_named : Room (n + 2) _ := hr.mono (by omega)
    have w4 : walkD 4 [] ds = walkD n [] ds := walk_le (by omega) rd
    have wl : (walkD n [] ds).length = (rowsD n ds).length := walkD_len n [] ds
    refine ⟨_, (pss_cons (ps_set (i := 4) sc_law_due.nd rfl (by first | exact Or.inl rfl | exact Or.inr rfl) (pe_call G_law_fault hr_law_fault rfl d_law_fault.g d_law_fault.F.kp d_law_fault.b .nil pass0 (pa_cons (pv 2) (pa_cons (pe_tup pa_nil) (pa_cons (pv 1) (pa_cons (pe_lst pa_nil) pa_nil))))))
 (pss_cons (ps_if (pt_cmpR op_notN (pv 4) pe_non (nomark _)) (pss_one (ps_ret (pv 4))) pss_nil)
 (pss_cons (ps_cut (ps_set (i := 5) sc_law_due.nd rfl (by first | exact Or.inl rfl | exact Or.inr rfl) (pe_or (pe_cmpR op_gt (pe_call G_law_total hr_law_total rfl d_law_total.g d_law_total.F.kp d_law_total.b .nil pass0 (pa_cons (pv 2) (pa_cons pe_str pa_nil))) pe_int (nomark _)) (pe_or (pe_cmpR op_gt (pe_call G_law_total hr_law_total rfl d_law_total.g d_law_total.F.kp d_law_total.b .nil pass0 (pa_cons (pv 2) (pa_cons pe_str pa_nil))) pe_int (nomark _)) (pe_one (pe_cmpR op_gt (pe_call G_law_total hr_law_total rfl d_law_total.g d_law_total.F.kp d_law_total.b .nil pass0 (pa_cons (pv 2) (pa_cons pe_str pa_nil))) pe_int (nomark _)))))))
 (pss_cons (ps_if (PW.pt (pw_or (pt_val (pv 5)) (pw_or1 (pt_cmpR op_gt (pe_lenSetN rfl (by rfl) B.m_len (by rfl) B.m_set (pe_op op_cat (pe_op op_cat (pv 0) (pv 3)) (pe_call G_law_named hr_law_named rfl d_law_named.g d_law_named.F.kp d_law_named.b .nil pass0 (pa_cons (pv 2) pa_nil)))) pe_int (nomark _))))) (pss_one (ps_ret (pe_tup (pa_cons pe_str (pa_cons (pe_tup pa_nil) pa_nil))))) pss_nil)
 (pss_one (ps_ret pe_non)))))), ?_⟩
    refine ⟨_, rfl, Nat.zero_le _, fun t ht => ⟨_, rfl, Nat.zero_le _, fun rdr hrdr => ?_⟩⟩
    have s1 := same_new (o := .tup []) ht
    have s2 := s1.trans (same_new (o := .lst []) hrdr)
    have ht2 : (upd (upd H t (.tup [])) rdr (.lst [])) t = some (.tup []) := (upd_ne (ne_of_none upd_same hrdr)).trans upd_same
    have hrH : H rdr = none := s1.free hrdr
    have hd2 := hd.same s2
    obtain ⟨T, eT⟩ : ∃ T : Hp, T = upd (upd H t (.tup [])) rdr (.lst []) := ⟨_, rfl⟩
    have hrT : T rdr = some (.lst []) := by rw [eT]; exact upd_same
    rw [← eT] at s2 ht2 hd2 ⊢
    refine ⟨a, t, f, rdr, ds, L, [], [], rfl, rfl, Nat.zero_le _, hd2, l100, sm, SqT.of ht2, s2 _ _ hf, fun e => (by rw [e, hrH] at hf; cases hf), hrT, fun m => ?_, by rw [w4]; simp only [List.length_nil]; omega, fun hn H1 o1 h1 => ?_, fun part pl hs t1 H1 o1 dq => ?_⟩
    · obtain ⟨ys, ey⟩ := hd.there rdr m
      rw [hrH] at ey
      cases ey
    rotate_left
    · exact ⟨_, rfl, rfl, _, rfl, ite_dec (fun _ => ⟨_, rfl, kS part pl hs t1 H1 (onlyL_new hrH s2 o1) dq⟩) (fun hb => by rw [show (!decide (V.ref t1 = V.non)) = true from rfl] at hb; cases hb)⟩
    have sH1 : Same H H1 := onlyL_new hrH s2 o1
    refine ⟨_, rfl, rfl, _, rfl, ite_dec (fun hb => by rw [show (!decide (V.non = V.non)) = false from rfl] at hb; cases hb) (fun _ => ?_)⟩
    have hn' : faultW fs [] (walkD n [] ds) = none := w4 ▸ hn
    have okA := walk_okA hn'
    have okR0 : ∀ d ∈ rowsD n ds, OkR ws fs d := fun d m => by
      rw [← walkD_rows n [] ds] at m
      obtain ⟨e, me, ed⟩ := List.mem_map.mp m
      obtain ⟨fo, na⟩ := okA e me
      rw [← ed]
      refine okR_of fo na fun x hx => ?_
      rw [hws, ← walkD_rows n [] ds, List.flatMap_map]
      exact List.mem_flatMap.mpr ⟨e, me, hx⟩
    have vm := vars_many okR0
    have el : (rowsD n ds).length = cntW "" (rowsD n ds) := (cntW_all _).symm
    have ec : cps n ds = cntW "copy" (rowsD n ds) := (cntW_copy _).symm
    have er : (rds n ds).length = cntW "watch" (rowsD n ds) := (cntW_watch _).symm
    have many : ¬ FewP is os n ds → ∀ (T : Hp), Same H T → ∀ p1, T p1 = none → ∀ p2, (upd T p1 (.tup [])) p2 = none → Q (.ref p2) (upd (upd T p1 (.tup [])) p2 (.tup [.str "many", .ref p1])) := fun nf T sT p1 h1 p2 h2 => by
      have s5 := same_new (o := .tup []) h1
      have s6 := same_new (o := .tup [.str "many", .ref p1]) h2
      exact kM hn nf p2 _ (sT.trans (s5.trans s6)) (.tup upd_same (.cons (L := []) (.str _) (.cons (L := []) (.tup (s6 _ _ upd_same) .nil) .nil)))
    refine ⟨fun σ G' => ∃ bm : Bool, σ = [some (.ref i), some (.ref f), some (.ref a), some (.ref o), some .non, some (.bl bm)] ∧ Same H1 G' ∧ (bm = false ↔ ((rowsD n ds).length ≤ 20 ∧ cps n ds ≤ 4 ∧ (rds n ds).length ≤ 3)), ?_, ?_⟩
    · refine ⟨_, rfl, a, _, ds, L, rfl, hd.same sH1, rd, okR0, (by decide +kernel), fun T1 s1' => ⟨_, _, rfl, rfl, _, rfl, ?_⟩⟩
      rw [← el]
      refine ite_dec (fun hb => ?_) (fun hb => ?_)
      · have := of_decide_eq_true hb
        exact ⟨true, rfl, s1', ⟨(fun z => nomatch z), fun z => by omega⟩⟩
      have n1 := of_decide_eq_false hb
      refine ⟨_, rfl, a, _, ds, L, rfl, hd.same (sH1.trans s1'), rd, okR0, (by decide +kernel), fun T2 s2' => ⟨_, _, rfl, rfl, _, rfl, ?_⟩⟩
      rw [← ec]
      refine ite_dec (fun hb => ?_) (fun hb => ?_)
      · have := of_decide_eq_true hb
        exact ⟨true, rfl, s1'.trans s2', ⟨(fun z => nomatch z), fun z => by omega⟩⟩
      have n2 := of_decide_eq_false hb
      refine ⟨_, rfl, a, _, ds, L, rfl, hd.same ((sH1.trans s1').trans s2'), rd, okR0, (by decide +kernel), fun T3 s3' => ⟨_, _, rfl, rfl, ?_⟩⟩
      rw [← er]
      refine ⟨_, rfl, (s1'.trans s2').trans s3', ⟨fun h => ?_, fun h => decide_eq_false (by have := h.2.2; omega)⟩⟩
      have := of_decide_eq_false h
      exact ⟨by omega, by omega, by omega⟩
    rintro σ G' ⟨bm, rfl, sG1, hbm⟩
    have sHG := sH1.trans sG1
    refine ⟨_, rfl, _, rfl, ite_dec (fun hb => ?_) (fun hb => ?_)⟩
    · refine ⟨Nat.zero_le _, fun p1 h1 => ⟨(by show 2 ≤ sizeLine; decide), fun p2 h2 => many (fun z => ?_) _ sHG p1 h1 p2 h2⟩⟩
      rw [hbm.mpr ⟨z.1, z.2.2.1, z.2.2.2⟩] at hb
      cases hb
    have hb3 := hbm.mp hb
    have h1 := sHG _ _ hi
    have h2 := sHG _ _ ho
    refine ⟨_, rfl, _, rfl, i, o, _, _, rfl, rfl, h1, h2, ?_, fun p3 h3 => ?_⟩
    · rw [List.length_map, List.length_map]
      exact Nat.le_of_lt (small1000 (by omega))
    have s7 := same_new (o := .lst (is.map V.str ++ os.map V.str)) h3
    have sH7 := sHG.trans s7
    refine ⟨_, rfl, a, ds, L, rfl, hd.same sH7, rd, sm, l100, okR0, by omega, fun b1 T1 s8 f8 h8 => ?_⟩
    have h38 := s8 _ _ (upd_same (H := G') (a := p3) (o := .lst (is.map V.str ++ os.map V.str)))
    refine ⟨p3, b1, _, _, rfl, rfl, h38, h8, ?_, fun p4 h4 => ?_⟩
    · rw [List.length_append, List.length_map, List.length_map, List.length_map]
      exact Nat.le_of_lt (small1000 (by omega))
    have s9 := same_new (o := .lst (is.map V.str ++ os.map V.str ++ ((rowsD n ds).flatMap varsOf).map V.str)) h4
    have sH9 := (sH7.trans s8).trans s9
    refine ⟨p4, (is ++ os) ++ (rowsD n ds).flatMap varsOf, rfl, .inl (SqL.of (by rw [upd_same, List.map_append, List.map_append])), ?_, _, _, rfl, rfl, _, rfl, ?_⟩
    · rw [List.length_append, List.length_append]
      omega
    have ecnt : cnt ((is ++ os) ++ (rowsD n ds).flatMap varsOf) = (dedupF (is ++ (rowsD n ds).flatMap varsOf ++ os)).length := by
      rw [cnt_dedupF]
      refine dedupF_perm fun x => ?_
      simp only [List.mem_append]
      constructor
      · rintro ((h | h) | h)
        · exact .inl (.inl h)
        · exact .inr h
        · exact .inl (.inr h)
      · rintro ((h | h) | h)
        · exact .inl (.inl h)
        · exact .inr h
        · exact .inl (.inr h)
    rw [ecnt]
    refine ite_dec (fun hb => ?_) (fun hb => ?_)
    · have h6 := of_decide_eq_true hb
      refine ⟨Nat.zero_le _, fun p1 h1 => ⟨(by show 2 ≤ sizeLine; decide), fun p2 h2 => many (fun z => ?_) _ sH9 p1 h1 p2 h2⟩⟩
      have := z.2.1
      omega
    · have h6 := of_decide_eq_false hb
      exact kF hn ⟨hb3.1, by omega, hb3.2.1, hb3.2.2⟩ _ sH9
end
end TW
set_option Elab.async false
set_option linter.all false
set_option maxRecDepth 100000
namespace TW
open PySem PySem.Spec PyProof.Rows L2 TL
/-- repr(x), x data of any depth, or None -/
def rReprV (K : PySem.W.Frag) : List V → Hp → VK → Prop := fun vs H Q => rRepr K vs H Q ∨ (vs = [.non] ∧ Q (.str "None") H)
theorem call_reprV {X : Cx} (hs : Still X.A) (hu : X.A.units + 64 < cLine) : CallR X (.builtin "repr") (rReprV X.K) := by
  rintro pins s σ H vs us Q I r (h | ⟨rfl, q⟩)
  · exact call_reprD hs hu pins s σ H vs us Q I r h
  · cases r with
    | cons r1 r2 =>
      cases r2
      cases (show _ = Value.none from r1)
      exact PySem.P.repr_of_none ⟨.str "None", H, I.tok _, ⟨_, rfl⟩, q⟩
/-- two answers of the same content, or None twice, have the same repr -/
def spExactV (K : PySem.W.Frag) : Sp := fun vs H Q E => spExact K vs H Q E ∨ (vs = [.non, .non] ∧ Q (.bl true) H)
section
variable {P : Program} {w : World} {K : PySem.W.Frag} {mg : Str → Option Value} {base : Heap}
set_option maxHeartbeats 4000000 in
theorem ok_exactV {f : Addr} {fd : FuncData} (F : Fun K "_law_exact" "_law_exact" S_law_exact f fd) (B : Bl mg) : FnG P w K mg base CX0 1 f fd P_law_exact (spExactV K) := by
  refine F.still sc_law_exact (fun vs H Q E h => ?_) (fun cdv A outer s H vs Q E hg hr h => ?_)
  · rcases h with ⟨a, b, d, rfl, _⟩ | ⟨rfl, _⟩ <;> rfl
  · have hu64 : (A.deeper (envOfC "_law_exact" (defScope S_law_exact) s.heap.objs.size f cdv)).units + 64 < cLine := by have := hr.un; omega
    rcases h with ⟨a, b, d, rfl, d1, d2, sh, nd, dp, sz, k⟩ | ⟨rfl, k⟩
    · refine ⟨_, (pss_one (ps_ret (pe_cmpR op_eq (pe_callB (call_reprV hg hu64) (by rfl) B.m_repr (by decide +kernel) (pa_cons (pv 0) pa_nil)) (pe_callB (call_reprV hg hu64) (by rfl) B.m_repr (by decide +kernel) (pa_cons (pv 1) pa_nil)) (nomark _)))), ?_⟩
      refine ⟨_, rfl, .inl ⟨a, d, rfl, d1, sh, nd, dp, sz, _, rfl, .inl ⟨b, d, rfl, d2, sh, nd, dp, sz, rfl, ?_⟩⟩⟩
      rw [decide_eq_true rfl]
      exact k
    · refine ⟨_, (pss_one (ps_ret (pe_cmpR op_eq (pe_callB (call_reprV hg hu64) (by rfl) B.m_repr (by decide +kernel) (pa_cons (pv 0) pa_nil)) (pe_callB (call_reprV hg hu64) (by rfl) B.m_repr (by decide +kernel) (pa_cons (pv 1) pa_nil)) (nomark _)))), ?_⟩
      refine ⟨_, rfl, .inr ⟨rfl, _, rfl, .inr ⟨rfl, rfl, ?_⟩⟩⟩
      rw [decide_eq_true rfl]
      exact k
end
end TW
set_option Elab.async false
set_option linter.all false
set_option maxRecDepth 100000
namespace TW
open PySem PySem.Spec PyProof.Rows L2 TL
/-! repr tells words, small numbers, lists and tuples of them apart -/
def cs (x : Str) : List Nat := x.cps.toList
theorem cs_app (a b : Str) : cs (a ++ b) = cs a ++ cs b := by
  unfold cs
  rw [Str.cps_append, Array.toList_append]
theorem cs_inj {a b : Str} (h : cs a = cs b) : a = b := Str.ext' (Array.toList_inj.mp h)
def Low (x : Str) : Prop := ∀ c ∈ cs x, 97 ≤ c ∧ c ≤ 122
theorem IsW.low {x : Str} (h : IsW x) : Low x := h.2.2
theorem low_char {c : Nat} (h1 : 97 ≤ c) (h2 : c ≤ 122) : Builtin.Str.reprChar 39 c = [c] := by
  have h : ∀ k : Fin 26, Builtin.Str.reprChar 39 (97 + k.val) = [97 + k.val] := by decide +kernel
  have := h ⟨c - 97, by omega⟩
  have e : 97 + (c - 97) = c := by omega
  simp only [e] at this
  exact this
theorem text_fold : ∀ (l : List Nat) (acc : Array Nat), (∀ c ∈ l, 97 ≤ c ∧ c ≤ 122) → (l.foldl (fun out c => out ++ (Builtin.Str.reprChar 39 c).toArray) acc).toList = acc.toList ++ l
  | [], acc, _ => by simp
  | c :: l, acc, h => by
    rw [List.foldl_cons, text_fold l _ fun x m => h x (List.mem_cons_of_mem _ m), low_char (h c (List.mem_cons_self ..)).1 (h c (List.mem_cons_self ..)).2]
    simp
theorem quote_low {x : Str} (h : Low x) : reprQuote x = 39 := by
  unfold reprQuote
  have e : x.cps.contains 39 = false := by
    rw [Array.contains_eq_mem]
    refine decide_eq_false fun m => ?_
    have := h 39 (Array.mem_toList_iff.mpr m)
    omega
  rw [e]
  rfl
theorem cs_text {x : Str} (h : Low x) : cs (reprText x) = 39 :: (cs x ++ [39]) := by
  unfold reprText cs
  rw [quote_low h, Array.toList_push, ← Array.foldl_toList]
  have e := text_fold x.cps.toList #[39] h
  rw [e]
  simp
def tlC (l : List (List Nat)) : List Nat := l.flatMap fun t => 44 :: 32 :: t
theorem cs_comma : cs ((", " : String) : Str) = [44, 32] := by decide +kernel
theorem cs_from : ∀ (ts : List Str) (k : Nat) (acc : Str), cs (textFrom (k + 1) acc ts) = cs acc ++ tlC (ts.map cs)
  | [], k, acc => by
    show cs acc = cs acc ++ []
    rw [List.append_nil]
  | t :: ts, k, acc => by
    show cs (textFrom (k + 2) (acc ++ ((", " : String) : Str) ++ t) ts) = _
    rw [cs_from ts (k + 1), cs_app, cs_app, cs_comma]
    simp [tlC]
theorem cs_list0 : cs (listText []) = [91, 93] := by decide +kernel
theorem cs_list1 (t : Str) (ts : List Str) : cs (listText (t :: ts)) = 91 :: (cs t ++ (tlC (ts.map cs) ++ [93])) := by
  unfold listText
  rw [cs_app]
  show cs (textFrom 1 (((("[" : String) : Str)) ++ (("" : String) : Str) ++ t) ts) ++ cs ((("]" : String) : Str)) = _
  rw [cs_from ts 0, cs_app, cs_app]
  have e1 : cs (("[" : String) : Str) = [91] := by decide +kernel
  have e2 : cs (("" : String) : Str) = [] := by decide +kernel
  have e3 : cs (("]" : String) : Str) = [93] := by decide +kernel
  rw [e1, e2, e3]
  simp
theorem cs_join : ∀ (t : Str) (ts : List Str), cs (Str.join ((", " : String) : Str) (t :: ts)) = cs t ++ tlC (ts.map cs)
  | t, [] => by
    show cs t = cs t ++ []
    rw [List.append_nil]
  | t, u :: ts => by
    show cs (t ++ ((", " : String) : Str) ++ Str.join ((", " : String) : Str) (u :: ts)) = _
    rw [cs_app, cs_app, cs_join u ts, cs_comma]
    simp [tlC]
theorem cs_tup0 : cs (tupleText []) = [40, 41] := by decide +kernel
theorem cs_tup2 (t u : Str) (ts : List Str) : cs (tupleText (t :: u :: ts)) = 40 :: (cs t ++ (tlC ((u :: ts).map cs) ++ [41])) := by
  unfold tupleText
  have e : ((t :: u :: ts).length == 1) = false := by simp
  rw [e, cs_app, cs_app, cs_join]
  have e1 : cs (("(" : String) : Str) = [40] := by decide +kernel
  have e2 : cs ((if (false : Bool) = true then ",)" else ")" : String) : Str) = [41] := by decide +kernel
  rw [e1, e2]
  simp
/-- data that repr tells apart -/
inductive Nm : PyData → Prop
  | str {x : Str} : Low x → Nm (.str x)
  | int {i : Int} : 0 ≤ i → i ≤ 4 → Nm (.int i)
  | lst {ds : List PyData} : (∀ d ∈ ds, Nm d) → Nm (.list ds)
  | tup {ds : List PyData} : (∀ d ∈ ds, Nm d) → ds.length ≠ 1 → Nm (.tuple ds)
def sC (d : PyData) : List Nat := cs d.shown
def tl (ds : List PyData) : List Nat := ds.flatMap fun d => 44 :: 32 :: sC d
theorem shownAll_map : ∀ ds : List PyData, PyData.shownAll ds = ds.map PyData.shown
  | [] => rfl
  | d :: ds => by
    show PyData.shown d :: PyData.shownAll ds = _
    rw [shownAll_map ds]
    rfl
theorem tl_map (ds : List PyData) : tlC (((ds.map PyData.shown)).map cs) = tl ds := by
  unfold tlC tl
  rw [List.map_map, List.flatMap_map]
  rfl
theorem sC_str {x : Str} (h : Low x) : sC (.str x) = 39 :: (cs x ++ [39]) := by
  show cs (PyData.shown (.str x)) = _
  rw [PyData.shown]
  exact cs_text h
theorem sC_int {i : Int} (h0 : 0 ≤ i) (h4 : i ≤ 4) : sC (.int i) = [48 + i.toNat] := by
  rcases (by omega : i = 0 ∨ i = 1 ∨ i = 2 ∨ i = 3 ∨ i = 4) with rfl | rfl | rfl | rfl | rfl <;> decide +kernel
theorem sC_l0 : sC (.list []) = [91, 93] := by
  show cs (PyData.shown (.list [])) = _
  rw [PyData.shown]
  exact cs_list0
theorem sC_l1 (d : PyData) (ds : List PyData) : sC (.list (d :: ds)) = 91 :: (sC d ++ (tl ds ++ [93])) := by
  show cs (PyData.shown (.list (d :: ds))) = _
  rw [PyData.shown, shownAll_map, List.map_cons, cs_list1, tl_map]
  rfl
theorem sC_t0 : sC (.tuple []) = [40, 41] := by
  show cs (PyData.shown (.tuple [])) = _
  rw [PyData.shown]
  exact cs_tup0
theorem sC_t2 (d e : PyData) (ds : List PyData) : sC (.tuple (d :: e :: ds)) = 40 :: (sC d ++ (tl (e :: ds) ++ [41])) := by
  show cs (PyData.shown (.tuple (d :: e :: ds))) = _
  rw [PyData.shown, shownAll_map, List.map_cons, List.map_cons, cs_tup2, ← List.map_cons (f := PyData.shown), tl_map]
  rfl
theorem head_sC {d : PyData} (n : Nm d) : ∃ h r, sC d = h :: r ∧ (h = 39 ∨ (48 ≤ h ∧ h ≤ 52) ∨ h = 91 ∨ h = 40) := by
  cases n with
  | str h => exact ⟨_, _, sC_str h, .inl rfl⟩
  | int h0 h4 => exact ⟨_, _, sC_int h0 h4, .inr (.inl ⟨by omega, by omega⟩)⟩
  | @lst ds h =>
    cases ds with
    | nil => exact ⟨_, _, sC_l0, .inr (.inr (.inl rfl))⟩
    | cons d ds => exact ⟨_, _, sC_l1 d ds, .inr (.inr (.inl rfl))⟩
  | @tup ds h l =>
    cases ds with
    | nil => exact ⟨_, _, sC_t0, .inr (.inr (.inr rfl))⟩
    | cons d ds =>
      cases ds with
      | nil => exact absurd rfl l
      | cons e ds => exact ⟨_, _, sC_t2 d e ds, .inr (.inr (.inr rfl))⟩
theorem head_l (ds : List PyData) : ∃ r, sC (.list ds) = 91 :: r := by
  cases ds with
  | nil => exact ⟨_, sC_l0⟩
  | cons d ds => exact ⟨_, sC_l1 d ds⟩
theorem head_t {ds : List PyData} (l : ds.length ≠ 1) : ∃ r, sC (.tuple ds) = 40 :: r := by
  match ds, l with
  | [], _ => exact ⟨_, sC_t0⟩
  | [_], l => exact absurd rfl l
  | d :: e :: ds, _ => exact ⟨_, sC_t2 d e ds⟩
theorem heads {a b : Nat} {r q s t : List Nat} (h : a :: r ++ s = b :: q ++ t) : a = b ∧ r ++ s = q ++ t := List.cons.inj h
theorem word_end : ∀ {a b s t : List Nat}, (∀ c ∈ a, c ≠ 39) → (∀ c ∈ b, c ≠ 39) → a ++ 39 :: s = b ++ 39 :: t → a = b ∧ s = t
  | [], [], _, _, _, _, h => ⟨rfl, (List.cons.inj h).2⟩
  | [], y :: b, _, _, _, h2, h => absurd (List.cons.inj h).1.symm (h2 y (List.mem_cons_self ..))
  | x :: a, [], _, _, h1, _, h => absurd (List.cons.inj h).1 (h1 x (List.mem_cons_self ..))
  | x :: a, y :: b, _, _, h1, h2, h => by
    obtain ⟨e1, e2⟩ := List.cons.inj h
    obtain ⟨e3, e4⟩ := word_end (fun c m => h1 c (List.mem_cons_of_mem _ m)) (fun c m => h2 c (List.mem_cons_of_mem _ m)) e2
    exact ⟨by rw [e1, e3], e4⟩
theorem low39 {x : Str} (h : Low x) : ∀ c ∈ cs x, c ≠ 39 := fun c m z => by have := h c m; omega
theorem tl_cons (d : PyData) (ds : List PyData) : tl (d :: ds) = 44 :: 32 :: (sC d ++ tl ds) := rfl
mutual
theorem sC_pre : ∀ (d e : PyData) (s t : List Nat), Nm d → Nm e → sC d ++ s = sC e ++ t → d = e ∧ s = t
  | .none, _, _, _, n, _, _ => nomatch n
  | .bool _, _, _, _, n, _, _ => nomatch n
  | .dict _, _, _, _, n, _, _ => nomatch n
  | .str x, e, s, t, n1, n2, h => by
    cases n1 with
    | @str x hx =>
    rw [sC_str hx] at h
    cases n2 with
    | @str y hy =>
      rw [sC_str hy] at h
      have h2 := (heads h).2
      rw [List.append_assoc, List.append_assoc] at h2
      obtain ⟨e1, e2⟩ := word_end (low39 hx) (low39 hy) h2
      exact ⟨by rw [cs_inj e1], e2⟩
    | @int i h0 h4 => rw [sC_int h0 h4] at h; have := (heads h).1; omega
    | @lst ds _ => obtain ⟨r, e⟩ := head_l ds; rw [e] at h; have := (heads h).1; omega
    | @tup ds _ l => obtain ⟨r, e⟩ := head_t l; rw [e] at h; have := (heads h).1; omega
  | .int i, e, s, t, n1, n2, h => by
    cases n1 with
    | @int i h0 h4 =>
    rw [sC_int h0 h4] at h
    cases n2 with
    | @str y hy => rw [sC_str hy] at h; have := (heads h).1; omega
    | @int j k0 k4 =>
      rw [sC_int k0 k4] at h
      obtain ⟨h1, h2⟩ := heads h
      have e : i = j := by omega
      exact ⟨by rw [e], h2⟩
    | @lst ds _ => obtain ⟨r, e⟩ := head_l ds; rw [e] at h; have := (heads h).1; omega
    | @tup ds _ l => obtain ⟨r, e⟩ := head_t l; rw [e] at h; have := (heads h).1; omega
  | .list [], e, s, t, n1, n2, h => by
    rw [sC_l0] at h
    cases n2 with
    | @str y hy => rw [sC_str hy] at h; have := (heads h).1; omega
    | @int j k0 k4 => rw [sC_int k0 k4] at h; have := (heads h).1; omega
    | @tup ds _ l => obtain ⟨r, e⟩ := head_t l; rw [e] at h; have := (heads h).1; omega
    | @lst es he =>
      cases es with
      | nil => rw [sC_l0] at h; exact ⟨rfl, (heads (heads h).2).2⟩
      | cons y es =>
        rw [sC_l1] at h
        obtain ⟨a, r, e, ha⟩ := head_sC (he y (List.mem_cons_self ..))
        rw [e] at h
        have := (List.cons.inj (heads h).2).1
        omega
  | .list (x :: ds), e, s, t, n1, n2, h => by
    cases n1 with
    | @lst _ hd =>
    rw [sC_l1] at h
    cases n2 with
    | @str y hy => rw [sC_str hy] at h; have := (heads h).1; omega
    | @int j k0 k4 => rw [sC_int k0 k4] at h; have := (heads h).1; omega
    | @tup ds _ l => obtain ⟨r, e⟩ := head_t l; rw [e] at h; have := (heads h).1; omega
    | @lst es he =>
      cases es with
      | nil =>
        rw [sC_l0] at h
        obtain ⟨a, r, e, ha⟩ := head_sC (hd x (List.mem_cons_self ..))
        rw [e] at h
        have := (List.cons.inj (heads h).2).1
        omega
      | cons y es =>
        rw [sC_l1] at h
        have h2 := (heads h).2
        simp only [List.append_assoc, List.singleton_append] at h2
        obtain ⟨e1, h3⟩ := sC_pre x y _ _ (hd x (List.mem_cons_self ..)) (he y (List.mem_cons_self ..)) h2
        obtain ⟨e2, h4⟩ := sC_all ds es 93 s t (by decide) (fun z m => hd z (List.mem_cons_of_mem _ m)) (fun z m => he z (List.mem_cons_of_mem _ m)) h3
        exact ⟨by rw [e1, e2], h4⟩
  | .tuple [], e, s, t, n1, n2, h => by
    rw [sC_t0] at h
    cases n2 with
    | @str y hy => rw [sC_str hy] at h; have := (heads h).1; omega
    | @int j k0 k4 => rw [sC_int k0 k4] at h; have := (heads h).1; omega
    | @lst ds _ => obtain ⟨r, e⟩ := head_l ds; rw [e] at h; have := (heads h).1; omega
    | @tup es he l2 =>
      match es, he, l2, h with
      | [], _, _, h => rw [sC_t0] at h; exact ⟨rfl, (heads (heads h).2).2⟩
      | [_], _, l2, _ => exact absurd rfl l2
      | y :: z :: es, he, _, h =>
        rw [sC_t2] at h
        obtain ⟨a, r, e, ha⟩ := head_sC (he y (List.mem_cons_self ..))
        rw [e] at h
        have := (List.cons.inj (heads h).2).1
        omega
  | .tuple [_], _, _, _, n1, _, _ => by
    cases n1 with
    | tup _ l => exact absurd rfl l
  | .tuple (x :: w :: ds), e, s, t, n1, n2, h => by
    cases n1 with
    | @tup _ hd _ =>
    rw [sC_t2] at h
    cases n2 with
    | @str y hy => rw [sC_str hy] at h; have := (heads h).1; omega
    | @int j k0 k4 => rw [sC_int k0 k4] at h; have := (heads h).1; omega
    | @lst ds _ => obtain ⟨r, e⟩ := head_l ds; rw [e] at h; have := (heads h).1; omega
    | @tup es he l2 =>
      match es, he, l2, h with
      | [], _, _, h =>
        rw [sC_t0] at h
        obtain ⟨a, r, e, ha⟩ := head_sC (hd x (List.mem_cons_self ..))
        rw [e] at h
        have := (List.cons.inj (heads h).2).1
        omega
      | [_], _, l2, _ => exact absurd rfl l2
      | y :: z :: es, he, _, h =>
        rw [sC_t2] at h
        have h2 := (heads h).2
        simp only [List.append_assoc, List.singleton_append] at h2
        obtain ⟨e1, h3⟩ := sC_pre x y _ _ (hd x (List.mem_cons_self ..)) (he y (List.mem_cons_self ..)) h2
        obtain ⟨e2, h4⟩ := sC_all (w :: ds) (z :: es) 41 s t (by decide) (fun q m => hd q (List.mem_cons_of_mem _ m)) (fun q m => he q (List.mem_cons_of_mem _ m)) h3
        exact ⟨by rw [e1, e2], h4⟩
  termination_by d => sizeOf d
theorem sC_all : ∀ (xs ys : List PyData) (c : Nat) (s t : List Nat), c ≠ 44 → (∀ d ∈ xs, Nm d) → (∀ d ∈ ys, Nm d) → tl xs ++ c :: s = tl ys ++ c :: t → xs = ys ∧ s = t
  | [], [], _, _, _, _, _, _, h => ⟨rfl, (List.cons.inj h).2⟩
  | [], y :: ys, c, _, _, hc, _, _, h => absurd (List.cons.inj h).1 hc
  | x :: xs, [], c, _, _, hc, _, _, h => absurd (List.cons.inj h).1.symm hc
  | x :: xs, y :: ys, c, s, t, hc, hx, hy, h => by
    rw [tl_cons, tl_cons] at h
    have h2 := (heads (heads h).2).2
    rw [List.append_assoc, List.append_assoc] at h2
    obtain ⟨e1, h3⟩ := sC_pre x y _ _ (hx x (List.mem_cons_self ..)) (hy y (List.mem_cons_self ..)) h2
    obtain ⟨e2, h4⟩ := sC_all xs ys c s t hc (fun q m => hx q (List.mem_cons_of_mem _ m)) (fun q m => hy q (List.mem_cons_of_mem _ m)) h3
    exact ⟨by rw [e1, e2], h4⟩
  termination_by xs => sizeOf xs
end
theorem shown_inj {d e : PyData} (n1 : Nm d) (n2 : Nm e) (h : d.shown = e.shown) : d = e := (sC_pre d e [] [] n1 n2 (by rw [List.append_nil, List.append_nil]; exact congrArg cs h)).1
theorem nm_words {ws : List Str} (h : ∀ x ∈ ws, IsW x) : Nm (.list (ws.map .str)) := .lst fun d m => by
  obtain ⟨x, hx, rfl⟩ := List.mem_map.mp m
  exact .str (h x hx).low
theorem nm_part {ws fs : List Str} {r : Str} {d : PyData} (hw : ∀ x ∈ ws, IsW x) (hf : ∀ x ∈ fs, IsW x) (h : PartOk ws fs r d) (n : ¬ r = "rows") : Nm d := by
  cases h with
  | @var x h => exact .str (hw _ h).low
  | @field x h => exact .str (hf _ h).low
  | @kind x h => rcases h with rfl | rfl <;> exact .str (by unfold Low; decide +kernel)
  | depth h0 h1 => exact .int h0 h1
  | reader h => exact .str h.low
  | rows => exact absurd rfl n
theorem nm_parts {ws fs : List Str} (hw : ∀ x ∈ ws, IsW x) (hf : ∀ x ∈ fs, IsW x) : ∀ {rs : List Str} {ds : List PyData}, PartsOk ws fs rs ds → ("rows" : Str) ∉ rs → ∀ d ∈ ds, Nm d
  | _, _, .nil, _ => fun d m => nomatch m
  | _, _, .cons h a, n => fun d m => (List.mem_cons.mp m).elim (fun e => by rw [e]; exact nm_part hw hf h fun z => n (by rw [z]; exact List.mem_cons_self ..)) (nm_parts hw hf a (fun z => n (List.mem_cons_of_mem _ z)) d)
theorem nm_kind {k : Str} {rs : List Str} (h : formsT.lookup k = some rs) : Nm (.str k) := by
  rcases forms_cases h with ⟨rfl, _⟩ | ⟨rfl, _⟩ | ⟨rfl, _⟩ | ⟨rfl, _⟩ | ⟨rfl, _⟩ | ⟨rfl, _⟩ | ⟨rfl, _⟩ | ⟨rfl, _⟩ | ⟨rfl, _⟩ <;> exact .str (by unfold Low; decide +kernel)
theorem nm_one {ws fs : List Str} (hw : ∀ x ∈ ws, IsW x) (hf : ∀ x ∈ fs, IsW x) (n : Nat) (below : ∀ m, n = m + 1 → ∀ {d : PyData}, RowD m d → (∀ e ∈ rowsD m [d], OkR ws fs e) → Nm d) {d : PyData} (rd : RowD n d) (ok : ∀ e ∈ rowsD n [d], OkR ws fs e) : Nm d := by
  obtain ⟨k, ps, rs, ed, hl, hp⟩ := ok d (by rw [rowsD_one]; exact List.mem_cons_self ..)
  have l1 := (forms_len hl).1
  have lp := hp.len
  cases rd with
  | @plain _ x ps0 n1 n2 fl l5 =>
    cases ed
    refine .tup (fun e m => ?_) (by rw [List.length_cons]; omega)
    rcases List.mem_cons.mp m with rfl | m
    · exact nm_kind hl
    · exact nm_parts hw hf hp (forms_plain hl n1 n2) e m
  | @br m x ps0 as bs hk fl l2 ra rb la lb =>
    cases ed
    have z : inner (.tuple (.str k :: (ps0 ++ [.list as, .list bs]))) = (as, bs) := inner_br
    rw [rows_br z] at ok
    have low : ∀ {cs : List PyData}, (∀ d ∈ cs, RowD m d) → (∀ e ∈ rowsD m cs, OkR ws fs e) → Nm (.list cs) := fun {cs} h1 h2 => .lst fun e me => below m rfl (h1 e me) fun q mq => h2 q (by
      obtain ⟨c1, c2, rfl⟩ := List.append_of_mem me
      have e1 : rowsD m (c1 ++ e :: c2) = rowsD m c1 ++ (rowsD m [e] ++ rowsD m c2) := by rw [rowsD_append, show e :: c2 = [e] ++ c2 from rfl, rowsD_append]
      rw [e1]
      exact List.mem_append_right _ (List.mem_append_left _ mq))
    have A := low ra fun x hx => ok x (List.mem_cons_of_mem _ (List.mem_append_left _ hx))
    have B := low rb fun x hx => ok x (List.mem_cons_of_mem _ (List.mem_append_right _ hx))
    obtain ⟨qs, rfl, hn⟩ := forms_br hl hk
    have hlen := hp.len
    rw [List.length_append, List.length_append] at hlen
    have hq : qs.length = ps0.length := by simpa using hlen
    have p0 := nm_parts hw hf (PartsOk.left hq hp) hn
    refine .tup (fun e me => ?_) (by rw [List.length_cons, List.length_append]; simp)
    rcases List.mem_cons.mp me with rfl | me
    · exact nm_kind hl
    · rcases List.mem_append.mp me with me | me
      · exact p0 e me
      · simp only [List.mem_cons, List.not_mem_nil, or_false] at me
        rcases me with rfl | rfl
        · exact A
        · exact B
theorem nm_row {ws fs : List Str} (hw : ∀ x ∈ ws, IsW x) (hf : ∀ x ∈ fs, IsW x) : ∀ (n : Nat) {d : PyData}, RowD n d → (∀ e ∈ rowsD n [d], OkR ws fs e) → Nm d := by
  intro n
  induction n with
  | zero => intro d rd ok; exact nm_one hw hf 0 (fun m h => nomatch h) rd ok
  | succ n ih => intro d rd ok; exact nm_one hw hf (n + 1) (fun m h => by obtain rfl := Nat.succ.inj h; exact fun {d} => ih) rd ok
theorem nm_rows {ws fs : List Str} {ds : List PyData} {n : Nat} (hw : ∀ x ∈ ws, IsW x) (hf : ∀ x ∈ fs, IsW x) (rd : ∀ d ∈ ds, RowD n d) (ok : ∀ d ∈ rowsD n ds, OkR ws fs d) : Nm (.list ds) := .lst fun e me => nm_row hw hf n (rd e me) fun q mq => ok q (by
  obtain ⟨c1, c2, rfl⟩ := List.append_of_mem me
  have e1 : rowsD n (c1 ++ e :: c2) = rowsD n c1 ++ (rowsD n [e] ++ rowsD n c2) := by rw [rowsD_append, show e :: c2 = [e] ++ c2 from rfl, rowsD_append]
  rw [e1]
  exact List.mem_append_right _ (List.mem_append_left _ mq))
end TW
set_option Elab.async false
set_option linter.all false
set_option maxRecDepth 100000
namespace L2
open PySem PySem.Spec PyProof.Rows
section
variable {X : Cx}
/-- o == y by the own rule of o's class, with either answer -/
def rEqO (K : PySem.W.Frag) (C : Addr) (sp : Sp) (E : XK) : R2 := fun x y H Q => ∃ a dx fs t, x = .ref a ∧ H a = some (.ins C dx fs) ∧ TyX K H y t ∧ PySem.W.notFirst K C t = true ∧ sp [.ref a, y] H (fun v H' => ∃ b : Bool, v = .bl b ∧ Q (.bl b) H') E
theorem op_eqO {CX : CXT} {k : Nat} {C f : Addr} {fd : FuncData} {ps : List Str} {sp : Sp} {E : XK} (F : FnOk X.prog X.w X.K X.mg X.base CX k f fd ps sp) (hr : Room k X.A) (hu : X.A.units < cLine) (hs : PySem.W.findIn X.K (.ref C) "__eq__" = some (some (.ref f))) (hf : PySem.W.isFn X.K (.ref f) = true)
    (hb : Binds X.K fd ps []) (hx : Passes CX X E) : OpR X (compareOp .Eq) (rEqO X.K C sp E) := by
  intro pins s σ H x y v u Q I rx ry h
  obtain ⟨a, dx, fs, t, rfl, ea, ty, nf, h⟩ := h
  cases rx
  obtain ⟨mA, J, _⟩ := ins_get I.hok ea
  obtain ⟨od, J, _⟩ := J.look
  obtain ⟨m, hF⟩ := I.fr
  obtain ⟨P, Z, p, _⟩ := kit_of I ry ty
  show wpAny (model X.prog X.w) X.A (richCompare .Eq (.ref a) u) (EP X pins σ Q) X.xe s
  refine PySem.W.cmp_K (op := .Eq) (tb := t) hu hF I.ok.mod.kin J (Z.ty _ _ I.kIn p) nf hs hf ?_
  refine wpAny_mono (run_fn (us := [.ref a, u]) (vs := [.ref a, y]) (dvs := []) F hr hb .nil hx I (.cons rfl (.cons ry .nil)) h) (fun r s' z => ?_) fun _ _ e => e
  obtain ⟨z, H', I', rz, b, ez, q⟩ := z
  subst ez
  cases rz
  exact ⟨.bl b, H', I', rfl, q⟩
end
end L2
namespace TW
open PySem PySem.Spec PyProof.Rows L2 TL
/-- what == with other values asks of the class -/
structure HC5 (K : PySem.W.Frag) (C : Addr) : Prop where
  iC : PySem.W.isClsIn K C = true
  tC : PySem.W.typeIn K (.ref C) = some (.type "type")
  sN : PySem.W.subIn K (.type "NoneType") (.ref C) = some false
  sS : PySem.W.subIn K (.type "str") (.ref C) = some false
  sI : PySem.W.subIn K (.type "int") (.ref C) = some false
  sL : PySem.W.subIn K (.type "list") (.ref C) = some false
  sD : PySem.W.subIn K (.type "dict") (.ref C) = some false
theorem nf_ty {K : PySem.W.Frag} {C : Addr} {T : String} (h : PySem.W.subIn K (.type T) (.ref C) = some false) : PySem.W.notFirst K C (.type T) = true := by
  unfold PySem.W.notFirst
  rw [h]
  simp
theorem nf_self {K : PySem.W.Frag} {C : Addr} : PySem.W.notFirst K C (.ref C) = true := by
  unfold PySem.W.notFirst
  rw [beq_self_eq_true]
  rfl
theorem kit_ty5 {K : PySem.W.Frag} {C : Addr} {T : String} (T5 : HC5 K C) (h : PySem.W.subIn K (.type T) (.ref C) = some false) : PySem.W.kitOne K (.type T) (.ref C) = some false := by
  have e1 : ((PySem.W.clsIn K C).isSome && PySem.W.typeIn K (.ref C) == some (.type "type")) = true := by
    have h2 : (PySem.W.clsIn K C).isSome = true := T5.iC
    rw [h2, T5.tC] <;> rfl
  show (if (Value.type T == Value.ref C) = true then some true else (if ((PySem.W.clsIn K C).isSome && PySem.W.typeIn K (.ref C) == some (.type "type")) = true then PySem.W.subIn K (.type T) (.ref C) else none)) = some false
  rw [if_neg (by intro e; exact nomatch (eq_of_beq e)), if_pos e1]
  exact h
/-- what == and isinstance ask of the class -/
structure HC4 (K : PySem.W.Frag) (C fE : Addr) : Prop where
  ha : PySem.W.findIn K (.ref C) "__class__" = some (some (.builtin "object.__class__"))
  hn : PySem.W.specialIn K (.builtin "object.__class__") "__get__" = some (some (.builtin "getset_descriptor.__get__"))
  ht : PySem.W.takesIn K (.builtin "object.__class__") = some true
  hm : PySem.W.mroIn K C (.type "object") = some true
  es : PySem.W.findIn K (.ref C) "__eq__" = some (some (.ref fE))
  ef : PySem.W.isFn K (.ref fE) = true
theorem HC4.ty {K : PySem.W.Frag} {C fE : Addr} (T : HC4 K C fE) (cl : Cls K C) {H : Hp} {a dx : Addr} {fs : List (Str × V)} (e : H a = some (.ins C dx fs)) : TyX K H (.ref a) (.ref C) := .base (.ins e cl T.ha T.hn T.ht T.hm)
theorem kit_self {K : PySem.W.Frag} {C : Addr} : PySem.W.kitOne K (.ref C) (.ref C) = some true := if_pos (beq_self_eq_true _)
mutual
theorem eqv_nm : ∀ (d e : PyData), Nm d → Nm e → PyData.eqv d e = true → d = e
  | .none, _, n, _, _ => nomatch n
  | .bool _, _, n, _, _ => nomatch n
  | .dict _, _, n, _, _ => nomatch n
  | .str x, e, _, n2, h => by
    cases n2 with
    | @str y _ => rw [PyData.eqv] at h; rw [eq_of_beq h]
    | int _ _ => simp [PyData.eqv] at h
    | lst _ => simp [PyData.eqv] at h
    | tup _ _ => simp [PyData.eqv] at h
  | .int i, e, _, n2, h => by
    cases n2 with
    | str _ => simp [PyData.eqv] at h
    | @int j _ _ => rw [PyData.eqv] at h; rw [eq_of_beq h]
    | lst _ => simp [PyData.eqv] at h
    | tup _ _ => simp [PyData.eqv] at h
  | .list xs, e, n1, n2, h => by
    cases n1 with
    | @lst _ hx =>
    cases n2 with
    | str _ => simp [PyData.eqv] at h
    | int _ _ => simp [PyData.eqv] at h
    | @lst ys hy => rw [PyData.eqv] at h; rw [eqv_nm_all xs ys hx hy h]
    | tup _ _ => simp [PyData.eqv] at h
  | .tuple xs, e, n1, n2, h => by
    cases n1 with
    | @tup _ hx _ =>
    cases n2 with
    | str _ => simp [PyData.eqv] at h
    | int _ _ => simp [PyData.eqv] at h
    | lst _ => simp [PyData.eqv] at h
    | @tup ys hy _ => rw [PyData.eqv] at h; rw [eqv_nm_all xs ys hx hy h]
  termination_by d => sizeOf d
theorem eqv_nm_all : ∀ (xs ys : List PyData), (∀ d ∈ xs, Nm d) → (∀ d ∈ ys, Nm d) → PyData.eqvAll xs ys = true → xs = ys
  | [], [], _, _, _ => rfl
  | [], _ :: _, _, _, h => by simp [PyData.eqvAll] at h
  | _ :: _, [], _, _, h => by simp [PyData.eqvAll] at h
  | x :: xs, y :: ys, hx, hy, h => by
    rw [PyData.eqvAll] at h
    obtain ⟨h1, h2⟩ := Bool.and_eq_true_iff.mp h
    rw [eqv_nm x y (hx x (List.mem_cons_self ..)) (hy y (List.mem_cons_self ..)) h1, eqv_nm_all xs ys (fun q m => hx q (List.mem_cons_of_mem _ m)) (fun q m => hy q (List.mem_cons_of_mem _ m)) h2]
  termination_by xs => sizeOf xs
end
theorem eqv_nm_iff {d e : PyData} (n1 : Nm d) (n2 : Nm e) (c : d.canLay0 = true) : PyData.eqv d e = true ↔ d = e := ⟨eqv_nm d e n1 n2, fun h => by rw [← h]; exact SeqAt.eqv_refl d c⟩
theorem eqv_ws (a b : List Str) : PyData.eqvAll (a.map PyData.str) (b.map PyData.str) = true ↔ a = b := by
  induction a generalizing b with
  | nil => cases b with
    | nil => simp [PyData.eqvAll]
    | cons y b => simp [PyData.eqvAll]
  | cons x a ih => cases b with
    | nil => simp [PyData.eqvAll]
    | cons y b =>
      rw [List.map_cons, List.map_cons, PyData.eqvAll, Bool.and_eq_true, ih b, PyData.eqv, beq_iff_eq, List.cons.injEq]
theorem eqv_tw (a b : List Str) : PyData.eqv (.tuple (a.map PyData.str)) (.tuple (b.map PyData.str)) = true ↔ a = b := by
  rw [PyData.eqv]
  exact eqv_ws a b
end TW
set_option Elab.async false
set_option linter.all false
set_option maxRecDepth 100000
namespace TW
open PySem PySem.Spec PyProof.Rows L2 TL
def spEqP (K : PySem.W.Frag) (C : Addr) : Sp := fun vs H Q _ => ∃ (a : Addr) (y : V) (t : Value) (is fs os : List Str) (n : Nat) (ds : List PyData) (ws : List Str) (p : PP), vs = [.ref a, y] ∧ ProgAt K C H a is fs os n ds ws p ∧ TyX K H y t ∧
  ((PySem.W.kitOne K t (.ref C) = some false ∧ Q (.bl false) H) ∨
   ∃ (b : Addr) (is2 fs2 os2 : List Str) (n2 : Nat) (ds2 : List PyData) (ws2 : List Str) (p2 : PP), y = .ref b ∧ t = .ref C ∧ ProgAt K C H b is2 fs2 os2 n2 ds2 ws2 p2 ∧ ∀ r : Bool, (r = true ↔ is = is2 ∧ fs = fs2 ∧ os = os2 ∧ ds = ds2) → Q (.bl r) H)
abbrev S_Program___eq__ : Stmt := inClass (topS 43) 1
abbrev N_Program___eq__ : List Str := ["self", "other"]
abbrev P_Program___eq__ : List Str := ["self", "other"]
theorem sc_Program___eq__ : FnScope N_Program___eq__ P_Program___eq__ (defScope S_Program___eq__) := ⟨rfl, rfl, rfl, by decide +kernel, rfl, by decide +kernel, by decide +kernel⟩
theorem shp_tup {ws : List Str} (h : ∀ x ∈ ws, IsW x) : SeqAt.shaped (.tuple (ws.map .str)) = true := by
  have X := Shw.tup (Shw.words h)
  exact Bool.and_eq_true_iff.mpr ⟨X.sC, decide_eq_true (Nat.le_trans X.sD (by decide))⟩
section
variable {P : Program} {w : World} {K : PySem.W.Frag} {mg : Str → Option Value} {base : Heap}
set_option maxHeartbeats 8000000 in
theorem ok_eqP {f fE C : Addr} {fd : FuncData} (F : Fun K "__eq__" "Program.__eq__" S_Program___eq__ f fd) (B : Bl mg) (T0 : HCP K mg C) (T4 : HC4 K C fE) : FnOk P w K mg base CX0 2 f fd P_Program___eq__ (spEqP K C) := by
  refine F.ok sc_Program___eq__ (fun vs H Q E h => ?_) (fun cdv A outer s H vs Q E hr h => ?_)
  · obtain ⟨a, y, t, is, fs, os, n, ds, ws, p, rfl, _⟩ := h
    rfl
  · obtain ⟨a, y, t, is, fs, os, n, ds, ws, p, rfl, A1, ty, k⟩ := h
    have hu64 : (A.deeper (envOfC "Program.__eq__" (defScope S_Program___eq__) s.heap.objs.size f cdv)).units + 64 < cLine := by have := hr.un; omega
    refine ⟨_, (pss_one (ps_ret (pe_and (pe_callB call_isi (by rfl) B.m_isinstance (by decide +kernel) (pa_cons (pv 1) (pa_cons (pe_glob (v := .ref C) rfl T0.g rfl) pa_nil))) (pe_and (pe_cmpR (op_eqD hu64) (pe_fld (pv 0) rfl) (pe_fld (pv 1) rfl) (nomark _)) (pe_and (pe_cmpR (op_eqD hu64) (pe_fld (pv 0) rfl) (pe_fld (pv 1) rfl) (nomark _)) (pe_and (pe_cmpR (op_eqD hu64) (pe_fld (pv 0) rfl) (pe_fld (pv 1) rfl) (nomark _)) (pe_one (pe_cmpR (op_eqD hu64) (pe_fld (pv 0) rfl) (pe_fld (pv 1) rfl) (nomark _))))))))), ?_⟩
    rcases k with ⟨hf, k⟩ | ⟨b, is2, fs2, os2, n2, ds2, ws2, p2, rfl, rfl, A2, k⟩
    · refine ⟨_, rfl, _, _, _, _, _, rfl, .own C, ty, hf, _, rfl, iteF ?_⟩
      exact k
    · refine ⟨_, rfl, _, _, _, _, _, rfl, .own C, ty, kit_self, _, rfl, iteT ?_⟩
      have g := A1.g
      have g2 := A2.g
      refine ⟨_, rfl, a, C, _, _, _, rfl, A1.ob, T0.cl, T0.nI, pfl_inputs p, _, rfl, b, C, _, _, _, rfl, A2.ob, T0.cl, T0.nI, pfl_inputs p2, _, _, dp_wt A1.i, dp_wt A2.i, shp_tup g.iw, shp_tup g2.iw, _, rfl, ite_dec (fun hi => ?_) (fun hi => ?_)⟩
      · have no : ∀ {d e : PyData}, PyData.eqv d e = false → (is = is2 ∧ fs = fs2 ∧ os = os2 ∧ ds = ds2 → PyData.eqv d e = true) → Q (.bl false) H := fun {d e} h1 h2 => by
          exact k false ⟨fun z => (nomatch z), fun z => absurd (h2 z) (by rw [h1]; exact Bool.noConfusion)⟩
        refine ⟨_, rfl, a, C, _, _, _, rfl, A1.ob, T0.cl, T0.nF, pfl_fields p, _, rfl, b, C, _, _, _, rfl, A2.ob, T0.cl, T0.nF, pfl_fields p2, _, _, dp_wt A1.f, dp_wt A2.f, shp_tup g.fw, shp_tup g2.fw, _, rfl, ite_dec (fun hf => ?_) (fun hf => no hf fun z => (eqv_tw _ _).mpr z.2.1)⟩
        refine ⟨_, rfl, a, C, _, _, _, rfl, A1.ob, T0.cl, T0.nO, pfl_outputs p, _, rfl, b, C, _, _, _, rfl, A2.ob, T0.cl, T0.nO, pfl_outputs p2, _, _, dp_wt A1.o, dp_wt A2.o, shp_tup g.ow, shp_tup g2.ow, _, rfl, ite_dec (fun ho => ?_) (fun ho => no ho fun z => (eqv_tw _ _).mpr z.2.2.1)⟩
        have e1 := (eqv_tw _ _).mp hi
        have e2 := (eqv_tw _ _).mp hf
        have e3 := (eqv_tw _ _).mp ho
        obtain ⟨s1, _⟩ := shaped_rows g.ww g.fw g.n3 g.rd g.ok
        obtain ⟨s2, _⟩ := shaped_rows g2.ww g2.fw g2.n3 g2.rd g2.ok
        have c1 : (PyData.list ds).canLay0 = true := (Bool.and_eq_true_iff.mp s1).1
        have ir := eqv_nm_iff (nm_rows g.ww g.fw g.rd g.ok) (nm_rows g2.ww g2.fw g2.rd g2.ok) c1
        refine ⟨_, rfl, a, C, _, _, _, rfl, A1.ob, T0.cl, T0.nR, pfl_rows p, _, rfl, b, C, _, _, _, rfl, A2.ob, T0.cl, T0.nR, pfl_rows p2, _, _, A1.r.dp, A2.r.dp, s1, s2, ?_⟩
        exact k _ (ir.trans ⟨fun z => ⟨e1, e2, e3, by injection z⟩, fun z => by rw [z.2.2.2]⟩)
      · exact k false ⟨fun z => (nomatch z), fun z => absurd ((eqv_tw is is2).mpr z.1) (by rw [hi]; exact Bool.noConfusion)⟩
end
end TW
set_option Elab.async false
set_option linter.all false
set_option maxRecDepth 100000
namespace TW
open PySem PySem.Spec PyProof.Rows L2 TL
/-! a row replaced at a place -/
inductive Rep (d0 d1 : PyData) : Nat → List Int → List PyData → List PyData → Prop
  | one {n : Nat} {a b : List PyData} : Rep d0 d1 n [(a.length : Int)] (a ++ d0 :: b) (a ++ d1 :: b)
  | fst {n : Nat} {a b as as2 bs ps : List PyData} {x : Str} {pl : List Int} : (x = "same" ∨ x = "empty") → (∀ d ∈ ps, FlatD d) → ps.length ≤ 2 → (∀ d ∈ as, RowD n d) → (∀ d ∈ bs, RowD n d) → as.length ≤ 100 → bs.length ≤ 100 → Rep d0 d1 n pl as as2 →
      Rep d0 d1 (n + 1) ((a.length : Int) :: 0 :: pl) (a ++ .tuple (.str x :: (ps ++ [.list as, .list bs])) :: b) (a ++ .tuple (.str x :: (ps ++ [.list as2, .list bs])) :: b)
  | snd {n : Nat} {a b as bs bs2 ps : List PyData} {x : Str} {pl : List Int} : (x = "same" ∨ x = "empty") → (∀ d ∈ ps, FlatD d) → ps.length ≤ 2 → (∀ d ∈ as, RowD n d) → (∀ d ∈ bs, RowD n d) → as.length ≤ 100 → bs.length ≤ 100 → Rep d0 d1 n pl bs bs2 →
      Rep d0 d1 (n + 1) ((a.length : Int) :: 1 :: pl) (a ++ .tuple (.str x :: (ps ++ [.list as, .list bs])) :: b) (a ++ .tuple (.str x :: (ps ++ [.list as, .list bs2])) :: b)
theorem split_at {ds : List PyData} {i : Nat} {d : PyData} (h : ds[i]? = some d) : ∃ a b, ds = a ++ d :: b ∧ a.length = i := by
  have hi := (List.getElem?_eq_some_iff.mp h).1
  refine ⟨ds.take i, ds.drop (i + 1), ?_, by rw [List.length_take]; omega⟩
  have e : ds.drop i = d :: ds.drop (i + 1) := by
    rw [List.drop_eq_getElem_cons hi]
    rw [List.getElem?_eq_getElem hi] at h
    rw [Option.some.inj h]
  rw [← e, List.take_append_drop]
theorem walk_rep {d0 d1 : PyData} : ∀ (n : Nat) (base : List Int) (ds : List PyData) (pl : List Int), (∀ d ∈ ds, RowD n d) → (pl, d0) ∈ walkD n base ds → ∃ rel ds2, pl = base ++ rel ∧ Rep d0 d1 n rel ds ds2 := by
  intro n
  induction n with
  | zero =>
    intro base ds pl rd m
    rw [walkD_lvl] at m
    obtain ⟨q, mq, m⟩ := List.mem_flatMap.mp m
    obtain ⟨d, i⟩ := q
    have h := List.mk_mem_zipIdx_iff_getElem?.mp mq
    obtain ⟨a, b, rfl, rfl⟩ := split_at h
    rcases List.mem_cons.mp m with e | m
    · cases e
      exact ⟨_, _, rfl, .one⟩
    · rcases List.mem_append.mp m with m | m <;> cases m
  | succ n ih =>
    intro base ds pl rd m
    rw [walkD_lvl] at m
    obtain ⟨q, mq, m⟩ := List.mem_flatMap.mp m
    obtain ⟨d, i⟩ := q
    have h := List.mk_mem_zipIdx_iff_getElem?.mp mq
    obtain ⟨a, b, rfl, rfl⟩ := split_at h
    rcases List.mem_cons.mp m with e | m
    · cases e
      exact ⟨_, _, rfl, .one⟩
    · have rw0 := rd d (List.mem_append_right _ (List.mem_cons_self ..))
      cases rw0 with
      | plain n1 n2 fl l5 =>
        rw [inner_plain fl] at m
        rcases List.mem_append.mp m with m | m
        · have m2 : _ ∈ walkD n _ [] := m
          rw [walkD_nil] at m2
          cases m2
        · have m2 : _ ∈ walkD n _ [] := m
          rw [walkD_nil] at m2
          cases m2
      | @br _ x ps as bs hx fl l2 ra rb la lb =>
        rw [inner_br] at m
        rcases List.mem_append.mp m with m | m
        · obtain ⟨rel, as2, e, R⟩ := ih _ _ _ ra m
          exact ⟨_, _, by rw [e]; simp, .fst hx fl l2 ra rb la lb R⟩
        · obtain ⟨rel, bs2, e, R⟩ := ih _ _ _ rb m
          exact ⟨_, _, by rw [e]; simp, .snd hx fl l2 ra rb la lb R⟩
section
variable {d0 d1 : PyData} {ws fs : List Str}
theorem Rep.len {n : Nat} {pl : List Int} {ds ds2 : List PyData} (R : Rep d0 d1 n pl ds ds2) : ds2.length = ds.length := by
  cases R <;> simp
theorem Rep.rowD {n : Nat} {pl : List Int} {ds ds2 : List PyData} (R : Rep d0 d1 n pl ds ds2) (h1 : ∀ n, RowD n d1) : (∀ d ∈ ds, RowD n d) → ∀ d ∈ ds2, RowD n d := by
  induction R with
  | one =>
    intro rd d m
    rcases List.mem_append.mp m with m | m
    · exact rd d (List.mem_append_left _ m)
    · rcases List.mem_cons.mp m with rfl | m
      · exact h1 _
      · exact rd d (List.mem_append_right _ (List.mem_cons_of_mem _ m))
  | fst hx fl l2 ra rb la lb R ih =>
    intro rd d m
    rcases List.mem_append.mp m with m | m
    · exact rd d (List.mem_append_left _ m)
    · rcases List.mem_cons.mp m with rfl | m
      · exact .br hx fl l2 (ih ra) rb (by rw [R.len]; exact la) lb
      · exact rd d (List.mem_append_right _ (List.mem_cons_of_mem _ m))
  | snd hx fl l2 ra rb la lb R ih =>
    intro rd d m
    rcases List.mem_append.mp m with m | m
    · exact rd d (List.mem_append_left _ m)
    · rcases List.mem_cons.mp m with rfl | m
      · exact .br hx fl l2 ra (ih rb) la (by rw [R.len]; exact lb)
      · exact rd d (List.mem_append_right _ (List.mem_cons_of_mem _ m))
/-- readers and copies of a row -/
def kyR (d : PyData) : List Str × Nat := (readersOf d, copiesOf d)
theorem ky_br {x : Str} {r : List PyData} (h : x = "same" ∨ x = "empty") : kyR (.tuple (.str x :: r)) = ([], 0) := by
  have n1 : ¬ x = "watch" := by rcases h with rfl | rfl <;> decide +kernel
  have n2 : ¬ x = "copy" := by rcases h with rfl | rfl <;> decide +kernel
  have e1 : readersOf (.tuple (.str x :: r)) = [] := if_neg n1
  have e2 : copiesOf (.tuple (.str x :: r)) = 0 := if_neg n2
  unfold kyR
  rw [e1, e2]
theorem parts_swap {as bs as2 bs2 : List PyData} : ∀ {ps : List PyData} {rs : List Str}, PartsOk ws fs rs (ps ++ [.list as, .list bs]) → PartsOk ws fs rs (ps ++ [.list as2, .list bs2])
  | [], _, .cons a (.cons b .nil) => by
    cases a
    cases b
    exact .cons .rows (.cons .rows .nil)
  | _ :: _, _, .cons a h => .cons a (parts_swap h)
theorem ok_swap {x : Str} {ps as bs as2 bs2 : List PyData} (h : OkR ws fs (.tuple (.str x :: (ps ++ [.list as, .list bs])))) : OkR ws fs (.tuple (.str x :: (ps ++ [.list as2, .list bs2]))) := by
  obtain ⟨k, qs, rs, e, hl, hp⟩ := h
  cases e
  exact ⟨_, _, rs, rfl, hl, parts_swap hp⟩
/-- what is left of the rows -/
def Left (ws fs : List Str) (d0 d1 : PyData) (R R2 : List PyData) : Prop := ∃ A A2 I B, R = A ++ d0 :: (I ++ B) ∧ R2 = A2 ++ d1 :: B ∧ A.map kyR = A2.map kyR ∧ ((∀ e ∈ A, OkR ws fs e) → ∀ e ∈ A2, OkR ws fs e)
theorem rows_mid (n : Nat) (a b : List PyData) (d : PyData) : rowsD n (a ++ d :: b) = rowsD n a ++ (rowsD n [d] ++ rowsD n b) := by
  rw [rowsD_append, show d :: b = [d] ++ b from rfl, rowsD_append]
theorem Rep.left {n : Nat} {pl : List Int} {ds ds2 : List PyData} (R : Rep d0 d1 n pl ds ds2) (pi : inner d1 = ([], [])) : Left ws fs d0 d1 (rowsD n ds) (rowsD n ds2) := by
  induction R with
  | @one n a b =>
    refine ⟨rowsD n a, rowsD n a, Rn n (inner d0).1 ++ Rn n (inner d0).2, rowsD n b, ?_, ?_, rfl, fun h => h⟩
    · rw [rows_mid, rowsD_one]
      simp
    · rw [rows_mid, (pl_nums pi).1]
      rfl
  | @fst n a b as as2 bs ps x pl hx fl l2 ra rb la lb R ih =>
    obtain ⟨A, A2, I, B, e1, e2, hk, ho⟩ := ih
    refine ⟨rowsD (n + 1) a ++ (.tuple (.str x :: (ps ++ [.list as, .list bs])) :: A), rowsD (n + 1) a ++ (.tuple (.str x :: (ps ++ [.list as2, .list bs])) :: A2), I, B ++ (rowsD n bs ++ rowsD (n + 1) b), ?_, ?_, ?_, ?_⟩
    · rw [rows_mid, rows_br inner_br, e1]
      simp
    · rw [rows_mid, rows_br inner_br, e2]
      simp
    · rw [List.map_append, List.map_append, List.map_cons, List.map_cons, hk, ky_br hx, ky_br hx]
    · intro h e m
      rcases List.mem_append.mp m with m | m
      · exact h e (List.mem_append_left _ m)
      · rcases List.mem_cons.mp m with rfl | m
        · exact ok_swap (h _ (List.mem_append_right _ (List.mem_cons_self ..)))
        · exact ho (fun e m => h e (List.mem_append_right _ (List.mem_cons_of_mem _ m))) e m
  | @snd n a b as bs bs2 ps x pl hx fl l2 ra rb la lb R ih =>
    obtain ⟨A, A2, I, B, e1, e2, hk, ho⟩ := ih
    refine ⟨rowsD (n + 1) a ++ (.tuple (.str x :: (ps ++ [.list as, .list bs])) :: (rowsD n as ++ A)), rowsD (n + 1) a ++ (.tuple (.str x :: (ps ++ [.list as, .list bs2])) :: (rowsD n as ++ A2)), I, B ++ rowsD (n + 1) b, ?_, ?_, ?_, ?_⟩
    · rw [rows_mid, rows_br inner_br, e1]
      simp
    · rw [rows_mid, rows_br inner_br, e2]
      simp
    · rw [List.map_append, List.map_append, List.map_cons, List.map_cons, List.map_append, List.map_append, hk, ky_br hx, ky_br hx]
    · intro h e m
      rcases List.mem_append.mp m with m | m
      · exact h e (List.mem_append_left _ m)
      · rcases List.mem_cons.mp m with rfl | m
        · exact ok_swap (h _ (List.mem_append_right _ (List.mem_cons_self ..)))
        · rcases List.mem_append.mp m with m | m
          · exact h e (List.mem_append_right _ (List.mem_cons_of_mem _ (List.mem_append_left _ m)))
          · exact ho (fun e m => h e (List.mem_append_right _ (List.mem_cons_of_mem _ (List.mem_append_right _ m)))) e m
/-- rows that make a program -/
structure GR (ws fs : List Str) (n : Nat) (ds : List PyData) : Prop where
  rd : ∀ d ∈ ds, RowD n d
  ok : ∀ d ∈ rowsD n ds, OkR ws fs d
  r20 : (rowsD n ds).length ≤ 20
  c4 : cps n ds ≤ 4
  w3 : (rds n ds).length ≤ 3
  wN : (rds n ds).Nodup
theorem ky_flat {A A2 : List PyData} (h : A.map kyR = A2.map kyR) : A.flatMap readersOf = A2.flatMap readersOf ∧ (A.map copiesOf) = (A2.map copiesOf) ∧ A.length = A2.length := by
  have f1 : ∀ L : List PyData, L.flatMap readersOf = (L.map kyR).flatMap (·.1) := fun L => by rw [List.flatMap_map]; rfl
  have f2 : ∀ L : List PyData, L.map copiesOf = (L.map kyR).map (·.2) := fun L => by rw [List.map_map]; rfl
  have f3 := congrArg List.length h
  rw [List.length_map, List.length_map] at f3
  exact ⟨by rw [f1, f1, h], by rw [f2, f2, h], f3⟩
theorem Rep.good {n : Nat} {pl : List Int} {ds ds2 : List PyData} (R : Rep d0 d1 n pl ds ds2) (h1 : ∀ n, RowD n d1) (pi : inner d1 = ([], [])) (ok1 : OkR ws fs d1) (c1 : copiesOf d1 ≤ copiesOf d0) (r1 : readersOf d1 = [] ∨ readersOf d1 = readersOf d0) (g : GR ws fs n ds) : GR ws fs n ds2 := by
  obtain ⟨A, A2, I, B, e1, e2, hk, ho⟩ := R.left (ws := ws) (fs := fs) pi
  obtain ⟨k1, k2, k3⟩ := ky_flat hk
  have ok := g.ok
  rw [e1] at ok
  have sub : (rds n ds2).Sublist (rds n ds) := by
    unfold rds
    rw [e1, e2, List.flatMap_append, List.flatMap_append, List.flatMap_cons, List.flatMap_cons, List.flatMap_append, k1]
    refine List.Sublist.append (List.Sublist.refl _) ?_
    refine List.Sublist.append ?_ (List.sublist_append_right _ _)
    rcases r1 with r | r
    · rw [r]; exact List.nil_sublist _
    · rw [r]; exact List.Sublist.refl _
  refine ⟨R.rowD h1 g.rd, fun e m => ?_, ?_, ?_, Nat.le_trans sub.length_le g.w3, g.wN.sublist sub⟩
  · rw [e2] at m
    rcases List.mem_append.mp m with m | m
    · exact ho (fun e m => ok e (List.mem_append_left _ m)) e m
    · rcases List.mem_cons.mp m with rfl | m
      · exact ok1
      · exact ok e (List.mem_append_right _ (List.mem_cons_of_mem _ (List.mem_append_right _ m)))
  · have := g.r20
    rw [e1] at this
    rw [e2]
    simp only [List.length_append, List.length_cons] at this ⊢
    omega
  · have := g.c4
    unfold cps at this ⊢
    rw [e1] at this
    rw [e2]
    simp only [List.map_append, List.map_cons, List.sum_append, List.sum_cons] at this ⊢
    rw [← k2]
    omega
end
end TW
set_option Elab.async false
set_option linter.all false
set_option maxRecDepth 100000
namespace TW
open PySem PySem.Spec PyProof.Rows L2 TL
def spRep (K : PySem.W.Frag) (n : Nat) : Sp := fun vs H Q _ => ∃ (a q : Addr) (v : V) (ds ds2 : List PyData) (L Lv : List Addr) (pl : List Int) (d0 d1 : PyData), vs = [.ref a, .ref q, v] ∧ Dq H (.ref a) (.list ds) L ∧ SqT K H q (pl.map V.int) ∧ Dq H v d1 Lv ∧ Rep d0 d1 n pl ds ds2 ∧ ds.length ≤ 100 ∧ pl.length ≤ 100 ∧
  ∀ (b : Addr) (M : List Addr) (H' : Hp), Same H H' → H b = none → Dq H' (.ref b) (.list ds2) M → (∀ x ∈ M, x ∈ L ∨ x ∈ Lv ∨ H x = none) → Q (.ref b) H'
def spRepI (K : PySem.W.Frag) : Nat → Sp
  | 0 => fun _ _ _ _ => False
  | n + 1 => spRep K n
theorem set_mid {α : Type} {x y : α} {b : List α} : ∀ a : List α, (a ++ x :: b).set a.length y = a ++ y :: b
  | [] => rfl
  | u :: a => congrArg (u :: ·) (set_mid a)
theorem none_back {H G : Hp} {x : Addr} (s : Same H G) (e : G x = none) : H x = none := Decidable.byContradiction fun n => by
  cases h : H x with
  | none => exact n h
  | some u => rw [s _ _ h] at e; cases e
theorem keep_new {L : List Addr} {H' : Hp} {r : Addr} {o : HO} (hr : ∀ u, H' r = some u → ∃ xs, u = .lst xs) (hL : ∀ b ∈ L, b ≠ r) : KeepL L H' (upd H' r o) := ⟨fun b m => upd_ne (hL b m), fun b us e => (upd_ne fun z : b = r => by
    rw [z] at e
    obtain ⟨xs, e2⟩ := hr _ e
    cases e2).trans e⟩
theorem sIx_lo2 {n : Nat} (h : 2 ≤ n) : HT.sIx n 0 (some 2) = 2 := by
  show (if ((2 : Int) < 0) then ((2 : Int) + (n : Int)).toNat else min (2 : Int).toNat n) = 2
  rw [if_neg (by omega)]
  show min 2 n = 2
  omega
theorem cutV_lo2 {u v : V} {xs : List V} : cutV (u :: v :: xs) (some 2) none = xs := by
  unfold cutV
  rw [sIx_lo2 (by rw [List.length_cons, List.length_cons]; omega)]
  show ((u :: v :: xs).drop 2).take ((u :: v :: xs).length - 2) = xs
  show xs.take (xs.length + 1 + 1 - 2) = xs
  rw [List.take_of_length_le (by omega)]
section
variable {P : Program} {w : World} {K : PySem.W.Frag} {mg : Str → Option Value} {base : Heap}
end
end TW
set_option Elab.async false
set_option linter.all false
set_option maxRecDepth 100000
namespace TW
open PySem PySem.Spec PyProof.Rows L2 TL
theorem Rep.plen {d0 d1 : PyData} {n : Nat} {pl : List Int} {ds ds2 : List PyData} (R : Rep d0 d1 n pl ds ds2) : pl.length ≤ 2 * n + 1 := by
  induction R with
  | one => simp
  | fst _ _ _ _ _ _ _ _ ih => simp only [List.length_cons]; omega
  | snd _ _ _ _ _ _ _ _ ih => simp only [List.length_cons]; omega
theorem fr_tup {p c r : Addr} {H H' : Hp} {xs : List V} (P : Pool p c H) (f : Fr p c H H') (h : H r = some (.tup xs)) : H' r = some (.tup xs) := by
  obtain ⟨ys, i, j, h1, h2, _⟩ := P.ex
  exact f _ _ (fun e => by rw [e, h1] at h; cases h) (fun e => by rw [e, h2] at h; cases h) h
theorem Dq.fr {p c : Addr} {H H' : Hp} {v : V} {d : PyData} {L : List Addr} (q : Dq H v d L) (P : Pool p c H) (f : Fr p c H H') (off : ∀ x ∈ L, x ≠ p ∧ x ≠ c) : Dq H' v d L := q.keep ⟨fun b m => by
    obtain ⟨xs, e⟩ := q.there b m
    rw [e]
    exact f _ _ (off b m).1 (off b m).2 e, fun b xs e => fr_tup P f e⟩
theorem ints_vals {H : Hp} : ∀ {pl : List Int} {us : List V} {L : List Addr}, DqAll H us (pl.map .int) L → us = pl.map V.int
  | [], _, _, .nil => rfl
  | i :: pl, _, _, .cons h t => by
    cases h with
    | int _ => rw [ints_vals t]; rfl
theorem pd_at {H : Hp} {v : V} {pl : List Int} {d : PyData} {L : List Addr} (q : Dq H v (pd (pl, d)) L) : ∃ (r pp : Addr) (vr : V) (M : List Addr), v = .ref r ∧ H r = some (.tup [.ref pp, vr]) ∧ H pp = some (.tup (pl.map V.int)) ∧ Dq H vr d M ∧ ∀ x ∈ M, x ∈ L := by
  unfold pd at q
  cases q with
  | @tup r us _ _ hr da =>
  cases da with
  | @cons v1 _ _ _ L1 L2 h1 t =>
  cases t with
  | @cons v2 _ _ _ L3 L4 h2 t2 =>
  cases t2
  cases h1 with
  | @tup pp us1 _ _ hp d1 =>
  rw [ints_vals d1] at hp
  exact ⟨r, pp, v2, L3, rfl, hr, hp, h2, fun x m => by simp [m]⟩
theorem GR.add {ws fs : List Str} {n : Nat} {ds : List PyData} {d1 : PyData} (g : GR ws fs n ds) (rd1 : ∀ n, RowD n d1) (pi : inner d1 = ([], [])) (ok1 : OkR ws fs d1) (c0 : copiesOf d1 = 0) (r0 : readersOf d1 = []) (lt : (rowsD n ds).length < 20) : GR ws fs n (ds ++ [d1]) := by
  obtain ⟨e1, _, e3, e4⟩ := pl_nums (n := n) pi
  refine ⟨fun d m => ?_, fun d m => ?_, ?_, ?_, ?_, ?_⟩
  · rcases List.mem_append.mp m with m | m
    · exact g.rd d m
    · rw [List.mem_singleton.mp m]; exact rd1 n
  · rw [rowsD_append, e1] at m
    rcases List.mem_append.mp m with m | m
    · exact g.ok d m
    · rw [List.mem_singleton.mp m]; exact ok1
  · rw [rowsD_append, e1, List.length_append, List.length_singleton]; omega
  · rw [cps_append, e3, c0]; exact g.c4
  · rw [rds_append, e4, r0, List.append_nil]; exact g.w3
  · rw [rds_append, e4, r0, List.append_nil]; exact g.wN
def noneD (x : Str) : PyData := .tuple [.str "none", .str x]
theorem noneD_ok {ws fs : List Str} {x : Str} (h : x ∈ ws) : (∀ n, RowD n (noneD x)) ∧ inner (noneD x) = ([], []) ∧ OkR ws fs (noneD x) ∧ copiesOf (noneD x) = 0 ∧ readersOf (noneD x) = [] := by
  have fl : ∀ d ∈ [PyData.str x], FlatD d := fun d m => by rw [List.mem_singleton.mp m]; exact .str x
  exact ⟨fun n => .plain (by decide +kernel) (by decide +kernel) fl (by show 1 ≤ 5; decide), inner_plain fl, ⟨"none", [.str x], ["variable"], rfl, by decide +kernel, .cons (.var h) .nil⟩, if_neg (show ¬ (("none" : Str) = "copy") by decide +kernel), if_neg (show ¬ (("none" : Str) = "watch") by decide +kernel)⟩
theorem sIx_last {xs : List V} {u : V} : HT.sIx (xs ++ [u]).length (xs ++ [u]).length (some (-1)) = xs.length := by
  show (if (-1 : Int) < 0 then ((-1 : Int) + ((xs ++ [u]).length : Int)).toNat else min (-1 : Int).toNat (xs ++ [u]).length) = _
  rw [if_pos (by omega), List.length_append]
  show ((-1 : Int) + ((xs.length + 1 : Nat) : Int)).toNat = _
  omega
theorem cutV_last {xs : List V} {u : V} : cutV (xs ++ [u]) none (some (-1)) = xs := by
  unfold cutV
  have e0 : HT.sIx (xs ++ [u]).length 0 none = 0 := rfl
  rw [sIx_last, e0, List.drop_zero, Nat.sub_zero, List.take_left']
  rfl
/-- a row whose last part is a depth -/
structure DepthRow (ws fs : List Str) (d0 : PyData) (k : Str) (a : List PyData) (i : Int) : Prop where
  e : d0 = .tuple (.str k :: (a ++ [.int i]))
  n1 : k ≠ "same"
  n2 : k ≠ "empty"
  l : a.length ≤ 3
  fl : ∀ d ∈ a, FlatD d
  ok : ∀ r : Int, 0 ≤ r → r ≤ 4 → OkR ws fs (.tuple (.str k :: (a ++ [.int r])))
  a0 : 1 ≤ a.length
theorem depth_row {ws fs : List Str} {d0 : PyData} (ok : OkR ws fs d0) (kd : kindOf d0 = "copy" ∨ kindOf d0 = "watch") : ∃ k a i, DepthRow ws fs d0 k a i := by
  obtain ⟨k, ps, rs, rfl, hl, hp⟩ := ok
  rcases kd with e | e
  · have e' : k = "copy" := e
    subst e'
    have er : formsT.lookup ("copy" : Str) = some (["variable", "variable", "kind", "depth"] : List Str) := by decide +kernel
    cases hl.symm.trans er
    cases hp with
    | @cons _ _ q1 _ h1 hp =>
    cases hp with
    | @cons _ _ q2 _ h2 hp =>
    cases hp with
    | @cons _ _ q3 _ h3 hp =>
    cases hp with
    | @cons _ _ q4 _ h4 hp =>
    cases hp
    cases h4 with
    | @depth i0 h0 h5 =>
    refine ⟨"copy", [q1, q2, q3], i0, rfl, by decide +kernel, by decide +kernel, by show 3 ≤ 3; decide, fun d m => ?_, fun r r0 r4 => ⟨_, _, _, rfl, er, .cons h1 (.cons h2 (.cons h3 (.cons (.depth r0 r4) .nil)))⟩, by show 1 ≤ 3; decide⟩
    simp only [List.mem_cons, List.not_mem_nil, or_false] at m
    rcases m with rfl | rfl | rfl
    · cases h1; exact .str _
    · cases h2; exact .str _
    · cases h3; exact .str _
  · have e' : k = "watch" := e
    subst e'
    have er : formsT.lookup ("watch" : Str) = some (["reader", "variable", "depth"] : List Str) := by decide +kernel
    cases hl.symm.trans er
    cases hp with
    | @cons _ _ q1 _ h1 hp =>
    cases hp with
    | @cons _ _ q2 _ h2 hp =>
    cases hp with
    | @cons _ _ q4 _ h4 hp =>
    cases hp
    cases h4 with
    | @depth i0 h0 h5 =>
    refine ⟨"watch", [q1, q2], i0, rfl, by decide +kernel, by decide +kernel, by show 2 ≤ 3; decide, fun d m => ?_, fun r r0 r4 => ⟨_, _, _, rfl, er, .cons h1 (.cons h2 (.cons (.depth r0 r4) .nil))⟩, by show 1 ≤ 2; decide⟩
    simp only [List.mem_cons, List.not_mem_nil, or_false] at m
    rcases m with rfl | rfl
    · cases h1; exact .str _
    · cases h2; exact .str _
theorem DepthRow.nums {ws fs : List Str} {d0 : PyData} {k : Str} {a : List PyData} {i : Int} (R : DepthRow ws fs d0 k a i) (r : Int) : (∀ n, RowD n (.tuple (.str k :: (a ++ [.int r])))) ∧ inner (.tuple (.str k :: (a ++ [.int r]))) = ([], []) ∧ copiesOf (.tuple (.str k :: (a ++ [.int r]))) = copiesOf d0 ∧ readersOf (.tuple (.str k :: (a ++ [.int r]))) = readersOf d0 := by
  have fl : ∀ d ∈ a ++ [PyData.int r], FlatD d := fun d m => (List.mem_append.mp m).elim (R.fl d) fun m => by rw [List.mem_singleton.mp m]; exact .int r
  refine ⟨fun n => .plain R.n1 R.n2 fl (by rw [List.length_append, List.length_singleton]; have := R.l; omega), inner_plain fl, by rw [R.e]; rfl, ?_⟩
  rw [R.e]
  have g : ∀ j : PyData, (a ++ [j]).getD 0 .none = a.getD 0 .none := fun j => by
    have := R.a0
    cases a with
    | nil => simp at this
    | cons x a => rfl
  show (if k = "watch" then [strD ((a ++ [PyData.int r]).getD 0 .none)] else []) = (if k = "watch" then [strD ((a ++ [PyData.int i]).getD 0 .none)] else [])
  rw [g, g]
theorem in_cw {x : Str} : inV (.str x) [.str (Str.ofString "copy"), .str (Str.ofString "watch")] = decide (x = Str.ofString "copy" ∨ x = Str.ofString "watch") := by
  show ((Str.ofString "copy" == x) || ((Str.ofString "watch" == x) || false)) = _
  by_cases h1 : x = Str.ofString "copy"
  · subst h1; simp
  · by_cases h2 : x = Str.ofString "watch"
    · subst h2; simp
    · rw [decide_eq_false (fun h => h.elim h1 h2), beq_eq_false_iff_ne.mpr (Ne.symm h1), beq_eq_false_iff_ne.mpr (Ne.symm h2)]
      rfl
def spSecR (K : PySem.W.Frag) : Sp := fun vs H Q _ => ∃ (p c aW aF aR : Addr) (ch : Int) (ws fs : List Str) (ds : List PyData) (L : List Addr), vs = [.ref p, .int ch, .ref aW, .ref aF, .ref aR] ∧ Pool p c H ∧ (aW ≠ p ∧ aW ≠ c) ∧ (aF ≠ p ∧ aF ≠ c) ∧ H aW = some (.lst (ws.map V.str)) ∧ H aF = some (.lst (fs.map V.str)) ∧
  Dq H (.ref aR) (.list ds) L ∧ (∀ x ∈ L, x ≠ p ∧ x ≠ c) ∧ ds.length ≤ 20 ∧ GR ws fs 3 ds ∧ ws ≠ [] ∧ fs ≠ [] ∧ ws.length ≤ 6 ∧ fs.length ≤ 2 ∧
  ∀ (b : Addr) (ds2 : List PyData) (M : List Addr) (H' : Hp), Dq H' (.ref b) (.list ds2) M → GR ws fs 3 ds2 → ds2.length ≤ 21 → (∀ x ∈ M, x ≠ p ∧ x ≠ c) → Pool p c H' → Fr p c H H' → Q (.ref b) H'
section
variable {P : Program} {w : World} {K : PySem.W.Frag} {mg : Str → Option Value} {base : Heap}
end
end TW
set_option Elab.async false
set_option linter.all false
set_option maxRecDepth 100000
namespace TW
open PySem PySem.Spec PyProof.Rows L2 TL
theorem cut_ints (ns : List Int) (lo hi : Option Int) : ∃ ms : List Int, cutV (ns.map V.int) lo hi = ms.map V.int ∧ ms.length ≤ ns.length := by
  refine ⟨(ns.drop (HT.sIx (ns.map V.int).length 0 lo)).take (HT.sIx (ns.map V.int).length (ns.map V.int).length hi - HT.sIx (ns.map V.int).length 0 lo), ?_, ?_⟩
  · unfold cutV
    rw [List.map_take, List.map_drop]
  · rw [List.length_take, List.length_drop]
    omega
theorem made_pre {H : Hp} {x dx : Addr} {o : HO} (nx : H x = none) (nd : H dx = none) : Same H (upd (upd H dx (.own x)) x o) := fun b u e => (upd_ne (ne_of_none e nx)).trans ((upd_ne (ne_of_none e nd)).trans e)
def spLaw (K : PySem.W.Frag) : Sp := fun vs H Q _ => ∃ (a : Addr) (ns : List Int), vs = [.ref a] ∧ SqL K H a (ns.map V.int) ∧ ns.length ≤ 63 ∧ ∀ H', Q (.bl true) H'
theorem gr_good {ws fs is os : List Str} {ds : List PyData} (g : GR ws fs 3 ds) (ww : ∀ x ∈ ws, IsW x) (w6 : ws.length ≤ 6) (fw : ∀ x ∈ fs, IsW x) (fN : fs.Nodup) (f1 : 1 ≤ fs.length) (f2 : fs.length ≤ 2) (iN : is.Nodup) (i1 : 1 ≤ is.length) (i3 : is.length ≤ 3) (iS : ∀ x ∈ is, x ∈ ws) (oN : os.Nodup) (o3 : os.length ≤ 3) (oS : ∀ x ∈ os, x ∈ ws) : GoodP is fs os 3 ds ws := by
  have vs : ∀ x ∈ is ++ (rowsD 3 ds).flatMap varsOf ++ os, x ∈ ws := fun x m => by
    rcases List.mem_append.mp m with m | m
    · rcases List.mem_append.mp m with m | m
      · exact iS x m
      · obtain ⟨d, hd, hx⟩ := List.mem_flatMap.mp m
        exact vars_in (g.ok d hd) x hx
    · exact oS x m
  have dn : (dedupF (is ++ (rowsD 3 ds).flatMap varsOf ++ os)).Nodup := dedupN_nodup (Nat.le_refl _)
  exact ⟨fun x m => ww x (iS x m), iN, i1, i3, fw, fN, f1, f2, fun x m => ww x (oS x m), oN, o3, ww, by decide, g.rd, g.ok, g.r20, g.c4, g.w3, g.wN, Nat.le_trans (len_le_of_sub _ _ dn fun x m => vs x (dedupF_sub m)) w6⟩
theorem OnlyL.of_fr {p c : Addr} {H H' : Hp} (f : Fr p c H H') : OnlyL [p, c] H H' := fun b o e n => f _ _ (fun z => n (by simp [z])) (fun z => n (by simp [z])) e
theorem Pool.lists {p c : Addr} {H : Hp} (P : Pool p c H) : ∀ y ∈ [p, c], ∃ xs, H y = some (.lst xs) := fun y m => by
  obtain ⟨xs, i, j, h1, h2, _⟩ := P.ex
  simp only [List.mem_cons, List.not_mem_nil, or_false] at m
  rcases m with rfl | rfl
  · exact ⟨_, h1⟩
  · exact ⟨_, h2⟩
theorem ProgAt.frP {K : PySem.W.Frag} {C h p c : Addr} {H H' : Hp} {is fs os ws : List Str} {n : Nat} {ds : List PyData} {q : PP} (A : ProgAt K C H h is fs os n ds ws q) (P : Pool p c H) (f : Fr p c H H') (off : ∀ y ∈ q.own, y ≠ p ∧ y ≠ c) : ProgAt K C H' h is fs os n ds ws q :=
  A.only (.of_fr f) P.lists fun y m z => by
    simp only [List.mem_cons, List.not_mem_nil, or_false] at m
    rcases m with rfl | rfl
    · exact (off _ z).1 rfl
    · exact (off _ z).2 rfl
theorem DqAll.frP {p c : Addr} {H H' : Hp} {vs : List V} {ds : List PyData} {L : List Addr} (q : DqAll H vs ds L) (P : Pool p c H) (f : Fr p c H H') (off : ∀ x ∈ L, x ≠ p ∧ x ≠ c) : DqAll H' vs ds L := q.keep ⟨fun b m => by
    obtain ⟨xs, e⟩ := q.there b m
    rw [e]
    exact f _ _ (off b m).1 (off b m).2 e, fun b xs e => fr_tup P f e⟩
theorem Shw.int100 {i : Int} (h0 : 0 ≤ i) (h1 : i < 100) : Shw (.int i) 0 100 := by
  have key : ∀ n : Fin 100, ((PyData.int ((n : Nat) : Int)).leavesShort 8 && decide ((PyData.int ((n : Nat) : Int)).weight ≤ 100) && decide ((PyData.int ((n : Nat) : Int)).depth ≤ 0) && (PyData.int ((n : Nat) : Int)).showable) = true := by decide +kernel
  obtain ⟨n, rfl⟩ : ∃ n : Nat, i = (n : Int) := ⟨i.toNat, by omega⟩
  have h := key ⟨n, by omega⟩
  rw [Bool.and_eq_true, Bool.and_eq_true, Bool.and_eq_true] at h
  exact ⟨h.2, rfl, of_decide_eq_true h.1.2, h.1.1.1, of_decide_eq_true h.1.1.2, rfl⟩
theorem Shw.ints : ∀ {pl : List Int}, (∀ i ∈ pl, 0 ≤ i ∧ i < 100) → ShwA (pl.map .int) 0 (101 * pl.length)
  | [], _ => .nil
  | i :: pl, h => (ShwA.cons (.int100 (h i (List.mem_cons_self ..)).1 (h i (List.mem_cons_self ..)).2) (Shw.ints fun x m => h x (List.mem_cons_of_mem _ m))).up (Nat.le_refl _) (by rw [List.length_cons]; omega)
theorem walk_small : ∀ (n : Nat) (bs : List Int) (ds : List PyData), (∀ i ∈ bs, 0 ≤ i ∧ i < 100) → ds.length ≤ 100 → (∀ d ∈ ds, Sm d) → ∀ e ∈ walkD n bs ds, (∀ i ∈ e.1, 0 ≤ i ∧ i < 100) ∧ e.1.length ≤ bs.length + 1 + 2 * n
  | n, bs, ds, hb, l, sm, e, m => by
    rw [walk_placed] at m
    obtain ⟨p, hp, m⟩ := List.mem_flatMap.mp m
    have ps := placed_small hp hb l
    obtain ⟨pm, pl⟩ := placed_mem hp
    unfold wf at m
    rcases List.mem_cons.mp m with rfl | m
    · exact ⟨ps, by omega⟩
    · obtain ⟨s1, s2, l1, l2⟩ := sm_inner (sm _ pm)
      have step : ∀ (b : Int) (cs : List PyData), (b = 0 ∨ b = 1) → cs.length ≤ 100 → (∀ d ∈ cs, Sm d) → e ∈ Wn n (p.1 ++ [b]) cs → (∀ i ∈ e.1, 0 ≤ i ∧ i < 100) ∧ e.1.length ≤ bs.length + 1 + 2 * n := fun b cs hb2 lc sc mc => by
        cases n with
        | zero => cases mc
        | succ n =>
          have := walk_small n (p.1 ++ [b]) cs (fun i hi => by
            rcases List.mem_append.mp hi with hi | hi
            · exact ps i hi
            · rw [List.mem_singleton.mp hi]
              omega) lc sc e mc
          rw [List.length_append] at this
          simp only [List.length_singleton] at this
          exact ⟨this.1, by omega⟩
      rcases List.mem_append.mp m with m | m
      · exact step 0 _ (.inl rfl) l1 s1 m
      · exact step 1 _ (.inr rfl) l2 s2 m
theorem faultOf_part {fs seen : List Str} {e : List Int × PyData} {p : Str} (h : faultOf fs seen e = some p) : p = "deep" ∨ p = "form" ∨ p = "name" ∨ p = "reader" := by
  unfold faultOf at h
  split at h
  · exact .inl (Option.some.inj h).symm
  split at h
  · exact .inr (.inl (Option.some.inj h).symm)
  split at h
  · exact .inr (.inr (.inl (Option.some.inj h).symm))
  split at h
  · exact .inr (.inr (.inr (Option.some.inj h).symm))
  · cases h
theorem faultW_mem {fs : List Str} : ∀ {l : List (List Int × PyData)} {seen : List Str} {p : Str × List Int}, faultW fs seen l = some p → (∃ e ∈ l, p.2 = e.1) ∧ (p.1 = "deep" ∨ p.1 = "form" ∨ p.1 = "name" ∨ p.1 = "reader")
  | [], _, _, h => nomatch h
  | e :: l, seen, p, h => by
    cases hf : faultOf fs seen e with
    | some q =>
      rw [faultW_some hf] at h
      cases h
      exact ⟨⟨e, List.mem_cons_self .., rfl⟩, faultOf_part hf⟩
    | none =>
      rw [faultW_none hf] at h
      obtain ⟨⟨e', m, q⟩, r⟩ := faultW_mem h
      exact ⟨⟨e', List.mem_cons_of_mem _ m, q⟩, r⟩
theorem shw_part {p : Str} (h : p = "deep" ∨ p = "form" ∨ p = "name" ∨ p = "reader") : Shw (.str p) 0 100 := by
  rcases h with rfl | rfl | rfl | rfl <;> exact .str (by decide +kernel) (by decide +kernel)
theorem shw_fault {fs : List Str} {ds : List PyData} {p : Str × List Int} (l : ds.length ≤ 100) (sm : ∀ d ∈ ds, Sm d) (h : faultW fs [] (walkD 4 [] ds) = some p) : Shw (faultD p) 2 2000 := by
  obtain ⟨⟨e, m, q⟩, r⟩ := faultW_mem h
  obtain ⟨s1, s2⟩ := walk_small 4 [] ds (fun i m => nomatch m) l sm e m
  have x := Shw.tup (ShwA.cons ((shw_part r).up (Nat.zero_le 1) (Nat.le_refl _)) (ShwA.cons (Shw.tup (Shw.ints (q ▸ s1))) (ShwA.nil.up (Nat.zero_le 1) (Nat.le_refl _))))
  refine x.up (Nat.le_refl _) ?_
  rw [q]
  have : e.1.length ≤ 9 := s2
  omega
theorem shw_many : Shw manyD 2 2000 := (Shw.tup (ShwA.cons ((Shw.str (z := "many") (by decide +kernel) (by decide +kernel)).up (Nat.zero_le 1) (Nat.le_refl _)) (ShwA.cons (Shw.tup ShwA.nil) (ShwA.nil.up (Nat.zero_le 1) (Nat.le_refl _))))).up (Nat.le_refl _) (by decide)
theorem sm_part {ws fs : List Str} {r : Str} {d : PyData} (hw : ∀ x ∈ ws, IsW x) (hf : ∀ x ∈ fs, IsW x) (h : PartOk ws fs r d) (n : ¬ r = "rows") : Sm d := by
  cases h with
  | var h => exact .str (by have := (hw _ h).2.1; omega)
  | field h => exact .str (by have := (hf _ h).2.1; omega)
  | kind h => rcases h with rfl | rfl <;> exact .str (by decide +kernel)
  | depth _ _ => exact .int _
  | reader h => exact .str (by have := h.2.1; omega)
  | rows => exact absurd rfl n
theorem sm_parts {ws fs : List Str} (hw : ∀ x ∈ ws, IsW x) (hf : ∀ x ∈ fs, IsW x) : ∀ {rs : List Str} {ps : List PyData}, PartsOk ws fs rs ps → ("rows" : Str) ∉ rs → ∀ d ∈ ps, Sm d
  | _, _, .nil, _, d, m => nomatch m
  | _, _, .cons (r := r) h a, n, d, m => by
    rcases List.mem_cons.mp m with rfl | m
    · exact sm_part hw hf h fun e => n (by rw [e]; exact List.mem_cons_self ..)
    · exact sm_parts hw hf a (fun m => n (List.mem_cons_of_mem _ m)) d m
theorem sm_rows {ws fs : List Str} (hw : ∀ x ∈ ws, IsW x) (hf : ∀ x ∈ fs, IsW x) : ∀ (n : Nat) (ds : List PyData), (∀ d ∈ ds, RowD n d) → (∀ d ∈ rowsD n ds, OkR ws fs d) → ∀ d ∈ ds, Sm d := by
  intro n
  induction n with
  | zero =>
    intro ds rd ok d m
    have okd : OkR ws fs d := ok d (by rw [rowsD_lvl]; exact List.mem_flatMap.mpr ⟨d, m, List.mem_cons_self ..⟩)
    have r := rd d m
    obtain ⟨k, ps, rs, e, hl, hp⟩ := okd
    have k1 : k.length ≤ 1000 := by
      rcases forms_cases hl with ⟨rfl, _⟩ | ⟨rfl, _⟩ | ⟨rfl, _⟩ | ⟨rfl, _⟩ | ⟨rfl, _⟩ | ⟨rfl, _⟩ | ⟨rfl, _⟩ | ⟨rfl, _⟩ | ⟨rfl, _⟩ <;> decide +kernel
    cases r with
    | plain n1 n2 fl l5 =>
      cases e
      refine .tup (by rw [List.length_cons]; omega) fun d m => ?_
      rcases List.mem_cons.mp m with rfl | m
      · exact .str k1
      · exact sm_parts hw hf hp (forms_plain hl n1 n2) d m
  | succ n ih =>
    intro ds rd ok d m
    have okd : OkR ws fs d := ok d (by rw [rowsD_lvl]; exact List.mem_flatMap.mpr ⟨d, m, List.mem_cons_self ..⟩)
    have r := rd d m
    obtain ⟨k, ps, rs, e, hl, hp⟩ := okd
    have k1 : k.length ≤ 1000 := by
      rcases forms_cases hl with ⟨rfl, _⟩ | ⟨rfl, _⟩ | ⟨rfl, _⟩ | ⟨rfl, _⟩ | ⟨rfl, _⟩ | ⟨rfl, _⟩ | ⟨rfl, _⟩ | ⟨rfl, _⟩ | ⟨rfl, _⟩ <;> decide +kernel
    cases r with
    | plain n1 n2 fl l5 =>
      cases e
      refine .tup (by rw [List.length_cons]; omega) fun d m => ?_
      rcases List.mem_cons.mp m with rfl | m
      · exact .str k1
      · exact sm_parts hw hf hp (forms_plain hl n1 n2) d m
    | @br _ w0 ds0 as bs hk fl l2 ra rb la lb =>
      cases e
      have sub : ∀ x ∈ rowsD n as ++ rowsD n bs, OkR ws fs x := fun x mx => ok x (by
        rw [rowsD_lvl]
        refine List.mem_flatMap.mpr ⟨_, m, List.mem_cons_of_mem _ ?_⟩
        rw [inner_br]
        exact mx)
      have sa := ih as ra fun x mx => sub x (List.mem_append_left _ mx)
      have sb := ih bs rb fun x mx => sub x (List.mem_append_right _ mx)
      obtain ⟨qs, eq, hn⟩ := forms_br hl hk
      have hp2 := hp
      rw [eq] at hp2
      obtain ⟨p1, p2, e2, h1, h2⟩ := hp2.split
      have l2' : p2.length = 2 := h2.len.symm
      have := List.append_inj' e2 (by rw [l2']; rfl)
      have sp := sm_parts hw hf h1 hn
      rw [← this.1] at sp
      refine .tup (by rw [List.length_cons, List.length_append]; show ds0.length + 2 + 1 ≤ 100; omega) fun d m => ?_
      rcases List.mem_cons.mp m with rfl | m
      · exact .str k1
      rcases List.mem_append.mp m with m | m
      · exact sp d m
      rcases List.mem_cons.mp m with rfl | m
      · exact .lst la sa
      · rw [List.mem_singleton.mp m]
        exact .lst lb sb
/-- lists for the rows to be drawn -/
theorem rst_new {p c aW aF rr rn ro : Addr} {ws fs rs is : List Str} {H : Hp} {k cc : Nat} (P : Pool p c H) (hW : H aW = some (.lst (ws.map V.str))) (Wp : aW ≠ p ∧ aW ≠ c) (hF : H aF = some (.lst (fs.map V.str))) (Fp : aF ≠ p ∧ aF ≠ c) (hr : H rr = some (.lst (rs.map V.str))) (Rp : rr ≠ p ∧ rr ≠ c) (d3 : aW ≠ rr) (d4 : aF ≠ rr)
    (nrn : H rn = none) (nro : (upd H rn (.lst (is.map V.str))) ro = none) : RSt p c aW aF ro rr rn ws fs k cc rs is (upd (upd H rn (.lst (is.map V.str))) ro (.lst [.int (k : Int), .int (cc : Int), .ref rr, .ref rn])) (upd (upd H rn (.lst (is.map V.str))) ro (.lst [.int (k : Int), .int (cc : Int), .ref rr, .ref rn])) := by
  have sA := same_new (o := .lst (is.map V.str)) nrn
  have sC := sA.trans (same_new (o := .lst [.int (k : Int), .int (cc : Int), .ref rr, .ref rn]) nro)
  have nB := P.np nrn
  have nO' := (P.same sA).np nro
  have rnro : rn ≠ ro := ne_of_none upd_same nro
  have d1 : ∀ {b : Addr} {o : HO}, H b = some o → b ≠ rn := fun {b o} e => ne_of_none e nrn
  have d2 : ∀ {b : Addr} {o : HO}, H b = some o → b ≠ ro := fun {b o} e => ne_of_none (sA _ _ e) nro
  exact ⟨⟨⟨Wp.1, Wp.2, d2 hW, d3, d1 hW⟩, ⟨Fp.1, Fp.2, d2 hF, d4, d1 hF⟩, nO', ⟨Rp.1, Rp.2, d2 hr⟩, ⟨nB.1, nB.2, rnro, (d1 hr).symm⟩⟩, P.same sC, sC _ _ hW, sC _ _ hF, ⟨upd_same, sC _ _ hr, (upd_ne rnro).trans upd_same⟩, fun b o _ _ _ _ _ e => e⟩
theorem gr_of {ws fs rs rs' : List Str} {ds : List PyData} {k k' cc cc' : Nat} (rd : ∀ d ∈ ds, RowD 3 d) (ok : ∀ d ∈ rowsD 3 ds, OkR ws fs d) (ek : cnt' 3 ds + k' = k) (ec : cps 3 ds + cc' = cc) (er : rs = rs' ++ (rds 3 ds).reverse) (rnd : rs.Nodup) (r3 : rs.length ≤ 3) (k20 : k ≤ 20) (c4 : cc ≤ 4) : GR ws fs 3 ds := by
  have nd2 : (rs' ++ (rds 3 ds).reverse).Nodup := by rw [← er]; exact rnd
  have l2 := congrArg List.length er
  rw [List.length_append, List.length_reverse] at l2
  exact ⟨rd, ok, (by unfold cnt' at ek; omega), by omega, by omega, (List.reverse_perm _).nodup_iff.mp (List.nodup_append.mp nd2).2.1⟩
end TW
set_option Elab.async false
set_option linter.all false
set_option maxRecDepth 100000
namespace TW
open PySem PySem.Spec PyProof.Rows L2 TL
structure LO (p c aW aF aI o1 o2 : Addr) : Prop where
  w : aW ≠ p ∧ aW ≠ c
  f : aF ≠ p ∧ aF ≠ c
  i : aI ≠ p ∧ aI ≠ c
  a : o1 ≠ p ∧ o1 ≠ c
  b : o2 ≠ p ∧ o2 ≠ c
/-- the words that the law holds -/
structure LJ (p c aW aF aI o1 o2 : Addr) (ws fs is q1 q2 : List Str) (G : Hp) : Prop where
  P : Pool p c G
  W : G aW = some (.lst (ws.map V.str))
  F : G aF = some (.lst (fs.map V.str))
  I : G aI = some (.lst (is.map V.str))
  A : G o1 = some (.lst (q1.map V.str))
  B : G o2 = some (.lst (q2.map V.str))
section
variable {p c aW aF aI o1 o2 : Addr} {ws fs is q1 q2 : List Str} {G G' : Hp}
theorem LJ.same (J : LJ p c aW aF aI o1 o2 ws fs is q1 q2 G) (s : Same G G') : LJ p c aW aF aI o1 o2 ws fs is q1 q2 G' := ⟨J.P.same s, s _ _ J.W, s _ _ J.F, s _ _ J.I, s _ _ J.A, s _ _ J.B⟩
theorem LJ.fr (J : LJ p c aW aF aI o1 o2 ws fs is q1 q2 G) (O : LO p c aW aF aI o1 o2) (P : Pool p c G') (f : Fr p c G G') : LJ p c aW aF aI o1 o2 ws fs is q1 q2 G' := ⟨P, f _ _ O.w.1 O.w.2 J.W, f _ _ O.f.1 O.f.2 J.F, f _ _ O.i.1 O.i.2 J.I, f _ _ O.a.1 O.a.2 J.A, f _ _ O.b.1 O.b.2 J.B⟩
theorem LJ.ne (J : LJ p c aW aF aI o1 o2 ws fs is q1 q2 G) {x : Addr} (h : G x = none) : aW ≠ x ∧ aF ≠ x ∧ aI ≠ x ∧ o1 ≠ x ∧ o2 ≠ x := ⟨ne_of_none J.W h, ne_of_none J.F h, ne_of_none J.I h, ne_of_none J.A h, ne_of_none J.B h⟩
/-- behind rows that were drawn -/
theorem LJ.rows (J : LJ p c aW aF aI o1 o2 ws fs is q1 q2 G) (O : LO p c aW aF aI o1 o2) {rk rn ro : Addr} {H0 : Hp} {k cc : Nat} {rs ns : List Str} (hk : aW ≠ rk ∧ aF ≠ rk ∧ aI ≠ rk ∧ o1 ≠ rk ∧ o2 ≠ rk) (hn : G rn = none) {v : HO} (ho : (upd G rn v) ro = none) (s : Same G H0) (R : RSt p c aW aF ro rk rn ws fs k cc rs ns H0 G') : LJ p c aW aF aI o1 o2 ws fs is q1 q2 G' := by
  have sv : Same G (upd G rn v) := same_new hn
  obtain ⟨n1, n2, n3, n4, n5⟩ := J.ne hn
  obtain ⟨m1, m2, m3, m4, m5⟩ := (J.same sv).ne ho
  exact ⟨R.P, R.fr _ _ O.w.1 O.w.2 m1 hk.1 n1 (s _ _ J.W), R.fr _ _ O.f.1 O.f.2 m2 hk.2.1 n2 (s _ _ J.F), R.fr _ _ O.i.1 O.i.2 m3 hk.2.2.1 n3 (s _ _ J.I), R.fr _ _ O.a.1 O.a.2 m4 hk.2.2.2.1 n4 (s _ _ J.A), R.fr _ _ O.b.1 O.b.2 m5 hk.2.2.2.2 n5 (s _ _ J.B)⟩
end
theorem fn_ex {α : Type} {P : Program} {w : World} {K : PySem.W.Frag} {mg : Str → Option Value} {base : Heap} {CX : CXT} {k : Nat} {f : Addr} {fd : FuncData} {ps : List Str} {sp : α → Sp} (G : ∀ a, FnOk P w K mg base CX k f fd ps (sp a)) : FnOk P w K mg base CX k f fd ps (fun vs H Q E => ∃ a, sp a vs H Q E) :=
  ⟨fun vs H Q E ⟨a, h⟩ => (G a).len vs H Q E h, fun _ _ _ _ _ _ _ _ _ hr he hb r ⟨a, h⟩ => (G a).run _ _ _ _ _ _ _ _ _ hr he hb r h⟩
mutual
theorem Dp.same' {K : PySem.W.Frag} {H H' : Hp} (s : Same H H') : ∀ {v : V} {d : PyData}, Dp K H v d → Dp K H' v d
  | _, _, .non => .non
  | _, _, .bl b => .bl b
  | _, _, .int i => .int i
  | _, _, .str x => .str x
  | _, _, .lst h a => .lst (s.seq h) (DpAll.same' s a)
  | _, _, .tup h a => .tup (sqt_same s h) (DpAll.same' s a)
theorem DpAll.same' {K : PySem.W.Frag} {H H' : Hp} (s : Same H H') : ∀ {vs : List V} {ds : List PyData}, DpAll K H vs ds → DpAll K H' vs ds
  | _, _, .nil => .nil
  | _, _, .cons h a => .cons (Dp.same' s h) (DpAll.same' s a)
end
/-- what is written to is none of what is held -/
structure OffJ (x p c aW aF aI o1 o2 x1 : Addr) (M1 M2 own : List Addr) : Prop where
  n : p ≠ x ∧ c ≠ x ∧ aW ≠ x ∧ aF ≠ x ∧ aI ≠ x ∧ o1 ≠ x ∧ o2 ≠ x
  m1 : x ∉ M1
  m2 : x ∉ M2
  w : x ∉ own
/-- all that the law holds behind its first program -/
structure LK (K : PySem.W.Frag) (C p c aW aF aI o1 o2 aR aR2 x1 : Addr) (ws fs is q1 q2 : List Str) (ds1 ds2 : List PyData) (M1 M2 : List Addr) (p1 : PP) (G : Hp) : Prop where
  j : LJ p c aW aF aI o1 o2 ws fs is q1 q2 G
  r1 : Dq G (.ref aR) (.list ds1) M1
  r2 : Dq G (.ref aR2) (.list ds2) M2
  a : ProgAt K C G x1 is fs q1 3 ds1 ws p1
section
variable {K : PySem.W.Frag} {C p c aW aF aI o1 o2 aR aR2 x1 : Addr} {ws fs is q1 q2 : List Str} {ds1 ds2 : List PyData} {M1 M2 : List Addr} {p1 : PP} {G G' : Hp}
theorem LK.same (L : LK K C p c aW aF aI o1 o2 aR aR2 x1 ws fs is q1 q2 ds1 ds2 M1 M2 p1 G) (s : Same G G') : LK K C p c aW aF aI o1 o2 aR aR2 x1 ws fs is q1 q2 ds1 ds2 M1 M2 p1 G' := ⟨L.j.same s, L.r1.same s, L.r2.same s, L.a.same s⟩
theorem LK.off (L : LK K C p c aW aF aI o1 o2 aR aR2 x1 ws fs is q1 q2 ds1 ds2 M1 M2 p1 G) {x : Addr} (h : G x = none) : OffJ x p c aW aF aI o1 o2 x1 M1 M2 p1.own := by
  obtain ⟨n1, n2, n3, n4, n5⟩ := L.j.ne h
  have np := L.j.P.np h
  have no : ∀ {M : List Addr}, (∀ b ∈ M, ∃ xs, G b = some (.lst xs)) → x ∉ M := fun hM m => by
    obtain ⟨xs, e⟩ := hM x m
    rw [h] at e
    cases e
  exact ⟨⟨np.1.symm, np.2.symm, n1, n2, n3, n4, n5⟩, no L.r1.there, no L.r2.there, no L.a.there⟩
theorem LK.write (L : LK K C p c aW aF aI o1 o2 aR aR2 x1 ws fs is q1 q2 ds1 ds2 M1 M2 p1 G) {x : Addr} {zs ys : List V} (O : OffJ x p c aW aF aI o1 o2 x1 M1 M2 p1.own) (hx : G x = some (.lst zs)) : LK K C p c aW aF aI o1 o2 aR aR2 x1 ws fs is q1 q2 ds1 ds2 M1 M2 p1 (upd G x (.lst ys)) := by
  obtain ⟨np, nc, n1, n2, n3, n4, n5⟩ := O.n
  have oL : OnlyL [x] G (upd G x (.lst ys)) := fun b o e n => (upd_ne fun z => n (by rw [z]; exact List.mem_singleton_self _)).trans e
  exact ⟨⟨L.j.P.upd2 ⟨np.symm, nc.symm⟩ _, (upd_ne n1).trans L.j.W, (upd_ne n2).trans L.j.F, (upd_ne n3).trans L.j.I, (upd_ne n4).trans L.j.A, (upd_ne n5).trans L.j.B⟩, L.r1.keep (keep1 oL hx L.r1.there O.m1), L.r2.keep (keep1 oL hx L.r2.there O.m2), L.a.only oL (fun y m => ⟨zs, by rw [List.mem_singleton.mp m]; exact hx⟩) fun y m => by rw [List.mem_singleton.mp m]; exact O.w⟩
theorem LK.fr (L : LK K C p c aW aF aI o1 o2 aR aR2 x1 ws fs is q1 q2 ds1 ds2 M1 M2 p1 G) (O : LO p c aW aF aI o1 o2) (o1' : ∀ x ∈ M1, x ≠ p ∧ x ≠ c) (o2' : ∀ x ∈ M2, x ≠ p ∧ x ≠ c) (o3' : ∀ x ∈ p1.own, x ≠ p ∧ x ≠ c) (P : Pool p c G') (f : Fr p c G G') : LK K C p c aW aF aI o1 o2 aR aR2 x1 ws fs is q1 q2 ds1 ds2 M1 M2 p1 G' :=
  ⟨L.j.fr O P f, L.r1.fr L.j.P f o1', L.r2.fr L.j.P f o2', L.a.frP L.j.P f o3'⟩
end
theorem part_mono {ws fs gs : List Str} (h : ∀ x ∈ fs, x ∈ gs) {r : Str} {d : PyData} (q : PartOk ws fs r d) : PartOk ws gs r d := by
  cases q with
  | var h => exact .var h
  | field z => exact .field (h _ z)
  | kind h => exact .kind h
  | depth h1 h2 => exact .depth h1 h2
  | reader h => exact .reader h
  | rows => exact .rows
theorem parts_mono {ws fs gs : List Str} (h : ∀ x ∈ fs, x ∈ gs) : ∀ {rs : List Str} {ds : List PyData}, PartsOk ws fs rs ds → PartsOk ws gs rs ds
  | _, _, .nil => .nil
  | _, _, .cons q a => .cons (part_mono h q) (parts_mono h a)
theorem GR.mono {ws fs gs : List Str} {n : Nat} {ds : List PyData} (h : ∀ x ∈ fs, x ∈ gs) (g : GR ws fs n ds) : GR ws gs n ds := ⟨g.rd, fun d m => by
  obtain ⟨k, ps, rs, e, hl, hp⟩ := g.ok d m
  exact ⟨k, ps, rs, e, hl, parts_mono h hp⟩, g.r20, g.c4, g.w3, g.wN⟩
/-- words for the inputs of a program -/
structure InW (ws is : List Str) : Prop where
  w : ∀ x ∈ is, IsW x
  n : is.Nodup
  l1 : 1 ≤ is.length
  l3 : is.length ≤ 3
  s : ∀ x ∈ is, x ∈ ws
structure FdW (fs gs : List Str) : Prop where
  w : ∀ x ∈ gs, IsW x
  n : gs.Nodup
  l1 : 1 ≤ gs.length
  l2 : gs.length ≤ 2
  s : ∀ x ∈ fs, x ∈ gs
theorem InW.rev {ws is : List Str} (h : InW ws is) : InW ws is.reverse := ⟨fun x m => h.w x (List.mem_reverse.mp m), (List.reverse_perm _).nodup_iff.mpr h.n, by rw [List.length_reverse]; exact h.l1, by rw [List.length_reverse]; exact h.l3, fun x m => h.s x (List.mem_reverse.mp m)⟩
theorem FdW.rev {fs gs : List Str} (h : FdW fs gs) : FdW fs gs.reverse := ⟨fun x m => h.w x (List.mem_reverse.mp m), (List.reverse_perm _).nodup_iff.mpr h.n, by rw [List.length_reverse]; exact h.l1, by rw [List.length_reverse]; exact h.l2, fun x m => List.mem_reverse.mpr (h.s x m)⟩
theorem take_out {ws is : List Str} (nd : ws.Nodup) (e : is = ws.take is.length) {y : Str} (h : ws[is.length]? = some y) : y ∉ is := fun m => by
  rw [e] at m
  obtain ⟨i, hi, ei⟩ := List.mem_take_iff_getElem.mp m
  have hi2 : i < ws.length := by omega
  have a1 : ws[i]? = some y := by rw [List.getElem?_eq_getElem hi2, ei]
  have := (List.getElem?_inj hi2 nd).mp (a1.trans h.symm)
  omega
theorem InW.add {ws is : List Str} (h : InW ws is) {y : Str} (hy : IsW y) (m : y ∈ ws) (n : y ∉ is) (l : is.length < 3) : InW ws (is ++ [y]) := by
  refine ⟨fun x hx => ?_, ?_, by rw [List.length_append]; have := h.l1; show 1 ≤ is.length + 1; omega, by rw [List.length_append]; show is.length + 1 ≤ 3; omega, fun x hx => ?_⟩
  · rcases List.mem_append.mp hx with hx | hx
    · exact h.w x hx
    · rw [List.mem_singleton.mp hx]; exact hy
  · refine List.nodup_append.mpr ⟨h.n, by simp, fun x hx z hz e => n ?_⟩
    rw [← List.mem_singleton.mp hz, ← e]
    exact hx
  · rcases List.mem_append.mp hx with hx | hx
    · exact h.s x hx
    · rw [List.mem_singleton.mp hx]; exact m
theorem FdW.add {fs gs : List Str} (h : FdW fs gs) {y : Str} (hy : IsW y) (n : y ∉ gs) (l : gs.length < 2) : FdW fs (gs ++ [y]) := by
  refine ⟨fun x hx => ?_, ?_, by rw [List.length_append]; show 1 ≤ gs.length + 1; omega, by rw [List.length_append]; show gs.length + 1 ≤ 2; omega, fun x hx => List.mem_append_left _ (h.s x hx)⟩
  · rcases List.mem_append.mp hx with hx | hx
    · exact h.w x hx
    · rw [List.mem_singleton.mp hx]; exact hy
  · refine List.nodup_append.mpr ⟨h.n, by simp, fun x hx z hz e => n ?_⟩
    rw [← List.mem_singleton.mp hz, ← e]
    exact hx
/-- readers of one half, or all -/
theorem half_cut (rs : List Str) (lo hi : Option Int) : ∃ ks : List Str, cutV (rs.map V.str) lo hi = ks.map V.str ∧ ks.Sublist rs := by
  refine ⟨(rs.drop (HT.sIx (rs.map V.str).length 0 lo)).take (HT.sIx (rs.map V.str).length (rs.map V.str).length hi - HT.sIx (rs.map V.str).length 0 lo), ?_, ?_⟩
  · unfold cutV
    rw [List.map_take, List.map_drop]
  · exact (List.take_sublist _ _).trans (List.drop_sublist _ _)
end TW
set_option Elab.async false
set_option linter.all false
set_option maxRecDepth 100000
namespace TW
open PySem PySem.Spec PyProof.Rows L2 TL
/-- rows that a program is built of: on j levels, at most l of them -/
structure RowsL (j l : Nat) (ds : List PyData) : Prop where
  rd : ∀ d ∈ ds, RowD j d
  sm : ∀ d ∈ ds, Sm d
  ln : ds.length ≤ l
  ct : (rowsD j ds).length ≤ l
theorem rowsD_up {n : Nat} {ds : List PyData} (r : ∀ d ∈ ds, RowD n d) : rowsD (n + 1) ds = rowsD n ds := by
  rw [← walkD_rows (n + 1) [] ds, ← walkD_rows n [] ds, walk_le (Nat.le_succ n) r]
theorem rowsD_flat (ds : List PyData) : rowsD 0 ds = ds := by
  show lvlR (fun _ => []) ds = ds
  unfold lvlR
  induction ds with
  | nil => rfl
  | cons d ds ih => rw [List.flatMap_cons, ih]; rfl
theorem rows_flat {l : Nat} {ds : List PyData} (r : ∀ d ∈ ds, RowD 0 d ∧ Sm d) (h : ds.length ≤ l) : RowsL 0 l ds := ⟨fun d m => (r d m).1, fun d m => (r d m).2, h, by rw [rowsD_flat]; exact h⟩
theorem cut_four (ds : List PyData) {i m j : Nat} (im : i ≤ m) (mj : m ≤ j) : ds = ds.take i ++ ((ds.drop i).take (m - i) ++ ((ds.drop m).take (j - m) ++ ds.drop j)) := by
  have e1 : ds.drop m = (ds.drop m).take (j - m) ++ ds.drop j := by
    have := (List.take_append_drop (j - m) (ds.drop m)).symm
    rwa [List.drop_drop, show m + (j - m) = j by omega] at this
  have e2 : ds.drop i = (ds.drop i).take (m - i) ++ ds.drop m := by
    have := (List.take_append_drop (m - i) (ds.drop i)).symm
    rwa [List.drop_drop, show i + (m - i) = m by omega] at this
  rw [← e1, ← e2, List.take_append_drop]
theorem nest_rows {wd : Str} {n l i m j : Nat} {ds : List PyData} (hw : wd.length ≤ 1000) (R : RowsL n l ds) (l99 : l ≤ 99) (im : i ≤ m) (mj : m ≤ j) (hj : j ≤ ds.length) : RowsL (n + 1) (l + 1) (nestD wd ds i m j) := by
  obtain ⟨A, eA⟩ : ∃ A, A = ds.take i := ⟨_, rfl⟩
  obtain ⟨B, eB⟩ : ∃ B, B = (ds.drop i).take (m - i) := ⟨_, rfl⟩
  obtain ⟨C, eC⟩ : ∃ C, C = (ds.drop m).take (j - m) := ⟨_, rfl⟩
  obtain ⟨D, eD⟩ : ∃ D, D = ds.drop j := ⟨_, rfl⟩
  have e := cut_four ds im mj
  rw [← eA, ← eB, ← eC, ← eD] at e
  have eN : nestD wd ds i m j = A ++ [.tuple (.str "same" :: ([.str wd, .str wd] ++ [.list B, .list C]))] ++ D := by
    unfold nestD
    rw [← eA, ← eB, ← eC, ← eD]
    rfl
  have lA : ds.length = A.length + (B.length + (C.length + D.length)) := by
    have := congrArg List.length e
    simpa only [List.length_append] using this
  have sub : ∀ d, (d ∈ A ∨ d ∈ B ∨ d ∈ C ∨ d ∈ D) → d ∈ ds := fun d h => by
    rw [e]
    simpa only [List.mem_append] using h
  have h100 := R.ln
  rw [eN]
  have rdN : RowD (n + 1) (.tuple (.str "same" :: ([.str wd, .str wd] ++ [.list B, .list C]))) := .br (.inl rfl) (fun d md => by
    simp only [List.mem_cons, List.not_mem_nil, or_false, or_self] at md
    subst md
    exact .str _) (Nat.le_refl 2) (fun d md => R.rd d (sub d (.inr (.inl md)))) (fun d md => R.rd d (sub d (.inr (.inr (.inl md))))) (by omega) (by omega)
  have mem : ∀ d, d ∈ A ++ [PyData.tuple (.str "same" :: ([.str wd, .str wd] ++ [.list B, .list C]))] ++ D → (d ∈ A ∨ d ∈ D) ∨ d = .tuple (.str "same" :: ([.str wd, .str wd] ++ [.list B, .list C])) := fun d md => by
    rcases List.mem_append.mp md with md | md
    · rcases List.mem_append.mp md with md | md
      · exact .inl (.inl md)
      · exact .inr (List.mem_singleton.mp md)
    · exact .inl (.inr md)
  refine ⟨fun d md => ?_, fun d md => ?_, ?_, ?_⟩
  · rcases mem d md with (h | h) | rfl
    · exact (R.rd d (sub d (.inl h))).up
    · exact (R.rd d (sub d (.inr (.inr (.inr h))))).up
    · exact rdN
  · rcases mem d md with (h | h) | rfl
    · exact R.sm d (sub d (.inl h))
    · exact R.sm d (sub d (.inr (.inr (.inr h))))
    · refine .tup (by show 5 ≤ 100; decide) fun x mx => ?_
      simp only [List.cons_append, List.nil_append, List.mem_cons, List.not_mem_nil, or_false] at mx
      rcases mx with rfl | rfl | rfl | rfl | rfl
      · exact .str (by decide +kernel)
      · exact .str hw
      · exact .str hw
      · exact .lst (by omega) fun d md => R.sm d (sub d (.inr (.inl md)))
      · exact .lst (by omega) fun d md => R.sm d (sub d (.inr (.inr (.inl md))))
  · rw [List.length_append, List.length_append]
    show A.length + 1 + D.length ≤ l + 1
    omega
  · have rA := rowsD_up (n := n) (ds := A) fun d h => R.rd d (sub d (.inl h))
    have rD := rowsD_up (n := n) (ds := D) fun d h => R.rd d (sub d (.inr (.inr (.inr h))))
    rw [rowsD_append, rowsD_append, rowsD_one, inner_br, rA, rD]
    show ((rowsD n A) ++ _ :: (rowsD n B ++ rowsD n C) ++ rowsD n D).length ≤ l + 1
    have hc := R.ct
    rw [e, rowsD_append, rowsD_append, rowsD_append] at hc
    simp only [List.length_append, List.length_cons] at hc ⊢
    omega
theorem rows_perm {l : Nat} {ds es : List PyData} (R : RowsL 0 l ds) (h : es.Perm ds) : RowsL 0 l es := rows_flat (fun d m => ⟨R.rd d (h.mem_iff.mp m), R.sm d (h.mem_iff.mp m)⟩) (by rw [h.length_eq]; exact R.ln)
theorem rows_add {j l k : Nat} {ds : List PyData} {d : PyData} (R : RowsL j l ds) (r : RowD 0 d) (s : Sm d) (h : l + 1 = k) : RowsL j k (ds ++ [d]) := by
  subst h
  have rj : RowD j d := r.le (Nat.zero_le j)
  refine ⟨fun x m => ?_, fun x m => ?_, ?_, ?_⟩
  · rcases List.mem_append.mp m with m | m
    · exact R.rd x m
    · rw [List.mem_singleton.mp m]; exact rj
  · rcases List.mem_append.mp m with m | m
    · exact R.sm x m
    · rw [List.mem_singleton.mp m]; exact s
  · rw [List.length_append]
    exact Nat.succ_le_succ R.ln
  · have e : rowsD j [d] = [d] := by
      have : ∀ n, rowsD n [d] = [d] := fun n => by
        induction n with
        | zero => exact rowsD_flat _
        | succ n ih => rw [rowsD_up (fun x m => by rw [List.mem_singleton.mp m]; exact r.le (Nat.zero_le n)), ih]
      exact this j
    rw [rowsD_append, e, List.length_append]
    exact Nat.succ_le_succ R.ct
end TW
set_option Elab.async false
set_option linter.all false
set_option maxRecDepth 100000
namespace TW
open PySem PySem.Spec PyProof.Rows L2 TL
/-- values that are rows without rows inside, at most k of them -/
def Fl (G : Hp) (zs : List V) (k : Nat) : Prop := ∃ ds, DqAll G zs ds [] ∧ (∀ d ∈ ds, RowD 0 d ∧ Sm d) ∧ ds.length ≤ k
theorem Fl.nil {G : Hp} {k : Nat} : Fl G [] k := ⟨[], .nil, fun d m => (nomatch m), Nat.zero_le _⟩
theorem Fl.le {G : Hp} {zs : List V} {k : Nat} (f : Fl G zs k) : zs.length ≤ k := by
  obtain ⟨ds, q, _, l⟩ := f
  rw [q.len]
  exact l
theorem Fl.up {G : Hp} {zs : List V} {j k : Nat} (f : Fl G zs j) (h : j ≤ k) : Fl G zs k := by
  obtain ⟨ds, q, r, l⟩ := f
  exact ⟨ds, q, r, Nat.le_trans l h⟩
theorem Fl.tight {G : Hp} {zs : List V} {k : Nat} (f : Fl G zs k) : Fl G zs zs.length := by
  obtain ⟨ds, q, r, l⟩ := f
  exact ⟨ds, q, r, Nat.le_of_eq q.len.symm⟩
theorem insert_perm {zs : List V} {y : V} {i : Nat} : (zs.take i ++ [y] ++ zs.drop i).Perm (zs ++ [y]) := by
  rw [List.append_assoc, List.singleton_append]
  refine List.perm_middle.trans ?_
  rw [List.take_append_drop]
  exact (List.perm_append_singleton y zs).symm
theorem Fl.same {G G' : Hp} {zs : List V} {k : Nat} (f : Fl G zs k) (s : Same G G') : Fl G' zs k := by
  obtain ⟨ds, q, r, l⟩ := f
  exact ⟨ds, q.same s, r, l⟩
theorem Fl.tups {G G' : Hp} {zs : List V} {k : Nat} (f : Fl G zs k) (h : ∀ b xs, G b = some (.tup xs) → G' b = some (.tup xs)) : Fl G' zs k := by
  obtain ⟨ds, q, r, l⟩ := f
  exact ⟨ds, q.keep ⟨fun b m => (nomatch m), h⟩, r, l⟩
theorem Fl.fr {p c : Addr} {G G' : Hp} {zs : List V} {k : Nat} (h : Fl G zs k) (P : Pool p c G) (f : Fr p c G G') : Fl G' zs k := h.tups fun b xs e => fr_tupS P f e
theorem Fl.write {G : Hp} {zs xs ys : List V} {k : Nat} {a : Addr} (h : Fl G zs k) (e : G a = some (.lst xs)) : Fl (upd G a (.lst ys)) zs k := h.tups fun b us eb => (upd_ne fun z => by
  rw [z, e] at eb
  cases eb).trans eb
theorem Fl.append {G : Hp} {zs ys : List V} {j k : Nat} (f : Fl G zs j) (g : Fl G ys k) : Fl G (zs ++ ys) (j + k) := by
  obtain ⟨ds, q, r, l⟩ := f
  obtain ⟨es, q2, r2, l2⟩ := g
  refine ⟨ds ++ es, q.append q2, fun d m => ?_, by rw [List.length_append]; omega⟩
  rcases List.mem_append.mp m with m | m
  · exact r d m
  · exact r2 d m
theorem Fl.one {G : Hp} {v : V} {d : PyData} (q : Dq G v d []) (r : RowD 0 d) (s : Sm d) : Fl G [v] 1 := ⟨[d], .cons q .nil, fun x m => by rw [List.mem_singleton.mp m]; exact ⟨r, s⟩, Nat.le_refl _⟩
theorem Fl.perm {G : Hp} {zs ys : List V} {k : Nat} (f : Fl G zs k) (h : ys.Perm zs) : Fl G ys k := by
  obtain ⟨ds, q, r, l⟩ := f
  obtain ⟨es, q2, p2⟩ := dq_perm h q
  exact ⟨es, q2, fun d m => r d (p2.mem_iff.mp m), by rw [p2.length_eq]; exact l⟩
/-- a row of words and numbers -/
theorem flat_row {k : Str} {ps : List PyData} (n1 : k ≠ "same") (n2 : k ≠ "empty") (hk : k.length ≤ 1000) (l : ps.length ≤ 5) (h : ∀ d ∈ ps, FlatD d ∧ Sm d) : RowD 0 (.tuple (.str k :: ps)) ∧ Sm (.tuple (.str k :: ps)) := by
  refine ⟨.plain n1 n2 (fun d m => (h d m).1) l, .tup (by rw [List.length_cons]; omega) fun d m => ?_⟩
  rcases List.mem_cons.mp m with rfl | m
  · exact .str hk
  · exact (h d m).2
theorem flat_wd {z : Str} (h : IsW z) : FlatD (.str z) ∧ Sm (.str z) := ⟨.str _, .str (by have := h.2.1; omega)⟩
section
variable {p c aW aF aI o1 o2 : Addr} {ws fs is q1 q2 : List Str} {G G' : Hp}
theorem LJ.write (J : LJ p c aW aF aI o1 o2 ws fs is q1 q2 G) {x : Addr} (np : x ≠ p ∧ x ≠ c) (n : aW ≠ x ∧ aF ≠ x ∧ aI ≠ x ∧ o1 ≠ x ∧ o2 ≠ x) (o : HO) : LJ p c aW aF aI o1 o2 ws fs is q1 q2 (upd G x o) :=
  ⟨J.P.upd2 np _, (upd_ne n.1).trans J.W, (upd_ne n.2.1).trans J.F, (upd_ne n.2.2.1).trans J.I, (upd_ne n.2.2.2.1).trans J.A, (upd_ne n.2.2.2.2).trans J.B⟩
end
/-- the words and the rows that the law holds -/
structure LQ (p c aW aF aI aB aO aR : Addr) (ws fs is bs os : List Str) (lv l : Nat) (G : Hp) : Prop where
  j : LJ p c aW aF aI aB aO ws fs is bs os G
  n : aW ≠ aR ∧ aF ≠ aR ∧ aI ≠ aR ∧ aB ≠ aR ∧ aO ≠ aR
  ex : ∃ ds M, Dq G (.ref aR) (.list ds) M ∧ (∀ x ∈ M, x ≠ p ∧ x ≠ c) ∧ RowsL lv l ds
theorem pick_nats {xs : List Nat} {i : Nat} {v : V} (h : (xs.map fun n : Nat => V.int (n : Int))[i]? = some v) : ∃ n ∈ xs, v = .int (n : Int) := by
  rw [List.getElem?_map] at h
  cases e : xs[i]? with
  | none => rw [e] at h; cases h
  | some n =>
    rw [e] at h
    exact ⟨n, List.mem_of_getElem? e, (Option.some.inj h).symm⟩
/-- what is due, and what a program that is built answers -/
def DueV (K : PySem.W.Frag) (is fs os : List Str) (n : Nat) (ds : List PyData) (G : Hp) (v : V) : Prop := (v = .non ∧ builtD is fs os n ds = none) ∨ ∃ t D, v = .ref t ∧ builtD is fs os n ds = some D ∧ Dp K G (.ref t) D
theorem DueV.same {K : PySem.W.Frag} {is fs os : List Str} {n : Nat} {ds : List PyData} {G G' : Hp} {v : V} (h : DueV K is fs os n ds G v) (s : Same G G') : DueV K is fs os n ds G' v := by
  rcases h with h | ⟨t, D, e, b, d⟩
  · exact .inl h
  · exact .inr ⟨t, D, e, b, Dp.same' s d⟩
theorem shw_due {is fs os : List Str} {n : Nat} {ds : List PyData} {D : PyData} (l : ds.length ≤ 100) (sm : ∀ d ∈ ds, Sm d) (h : builtD is fs os n ds = some D) : Shw D 2 2000 := by
  unfold builtD at h
  cases hf : faultW fs [] (walkD 4 [] ds) with
  | some pp =>
    rw [hf] at h
    rw [← Option.some.inj h]
    exact shw_fault l sm hf
  | none =>
    rw [hf] at h
    have h : (if FewP is os n ds then none else some manyD) = some D := h
    split at h
    · cases h
    · rw [← Option.some.inj h]
      exact shw_many
/-- two answers to the same have the same repr -/
theorem exact_due {K : PySem.W.Frag} {is fs os : List Str} {n : Nat} {ds : List PyData} {G : Hp} {u v : V} {Q : VK} {E : XK} (l : ds.length ≤ 100) (sm : ∀ d ∈ ds, Sm d) (h1 : DueV K is fs os n ds G u) (h2 : DueV K is fs os n ds G v) (k : Q (.bl true) G) : spExactV K [u, v] G Q E := by
  rcases h1 with ⟨rfl, e1⟩ | ⟨t, D, rfl, e1, d1⟩
  · rcases h2 with ⟨rfl, e2⟩ | ⟨t, D, rfl, e2, d2⟩
    · exact .inr ⟨rfl, k⟩
    · rw [e1] at e2
      cases e2
  · rcases h2 with ⟨rfl, e2⟩ | ⟨t2, D2, rfl, e2, d2⟩
    · rw [e1] at e2
      cases e2
    · rw [e1] at e2
      cases Option.some.inj e2
      have s := shw_due l sm e1
      exact .inl ⟨t, t2, D, rfl, d1, d2, s.sS, s.sH, Nat.le_trans s.sD (by decide), s.fits (by decide), k⟩
/-- due, asked of the def -/
theorem due_of {K : PySem.W.Frag} {aI aF aR aO : Addr} {is fs os : List Str} {n : Nat} {ds : List PyData} {M : List Addr} {G : Hp} {Q : VK} {E : XK} (hI : G aI = some (.lst (is.map V.str))) (hF : G aF = some (.lst (fs.map V.str))) (hR : Dq G (.ref aR) (.list ds) M) (hO : G aO = some (.lst (os.map V.str))) (n3 : n ≤ 3) (R : RowsL n 100 ds) (i10 : is.length ≤ 10) (o10 : os.length ≤ 10)
    (k : ∀ v G', Same G G' → DueV K is fs os n ds G' v → Q v G') : spDue fs [.ref aI, .ref aF, .ref aR, .ref aO] G Q E := by
  refine ⟨aI, aF, aR, aO, is, os, n, ds, M, rfl, hI, hF, hR, hO, n3, R.rd, R.sm, R.ln, R.ct, i10, o10, fun hn hf H' s => k .non H' s (.inl ⟨rfl, ?_⟩), fun hn nf t H' s d => k _ H' s (.inr ⟨t, manyD, rfl, ?_, d.dp⟩), fun part pl hs t H' s d => k _ H' s (.inr ⟨t, faultD (part, pl), rfl, ?_, d.dp⟩)⟩
  · unfold builtD
    rw [hn]
    exact if_pos hf
  · unfold builtD
    rw [hn]
    exact if_neg nf
  · unfold builtD
    rw [hs]
theorem built_of {K : PySem.W.Frag} {aI aF aR aO : Addr} {is fs os : List Str} {n : Nat} {ds : List PyData} {M : List Addr} {G : Hp} {Q : VK} {E : XK} (hI : G aI = some (.lst (is.map V.str))) (hF : G aF = some (.lst (fs.map V.str))) (hR : Dq G (.ref aR) (.list ds) M) (hO : G aO = some (.lst (os.map V.str))) (n3 : n ≤ 3) (R : RowsL n 100 ds) (gw : GoodW is fs os)
    (k : ∀ v G', Same G G' → DueV K is fs os n ds G' v → Q v G') : spBuilt K [.ref aI, .ref aF, .ref aR, .ref aO] G Q E :=
  ⟨aI, aF, aR, aO, is, fs, os, n, ds, M, rfl, .inl hI, .inl hF, hR, R.ln, .inl hO, gw, n3, R.rd, R.sm, R.ct, fun h H' s => k .non H' s (.inl ⟨rfl, h⟩), fun D h t H' s d => k _ H' s (.inr ⟨t, D, rfl, h, d⟩)⟩
theorem RowsL.up {n l m : Nat} {ds : List PyData} (R : RowsL n l ds) (h : l ≤ m) : RowsL n m ds := ⟨R.rd, R.sm, Nat.le_trans R.ln h, Nat.le_trans R.ct h⟩
theorem Fl.row {G : Hp} {T : Addr} {k : Str} {vs : List V} {ps : List PyData} (h : G T = some (.tup (.str k :: vs))) (q : DqAll G vs ps []) (r : RowD 0 (.tuple (.str k :: ps)) ∧ Sm (.tuple (.str k :: ps))) : Fl G [.ref T] 1 := .one (.tup h (.cons (L := []) (.str _) q)) r.1 r.2
theorem atI_last1 {α : Type} {xs : List α} {v : α} (h : xs[xs.length - 1]? = some v) : atI xs (-1) = some v := by
  have hl : 0 < xs.length := by
    have := (List.getElem?_eq_some_iff.mp h).1
    omega
  have e : ixN xs.length (-1) = some (xs.length - 1) := by
    unfold ixN
    rw [if_neg (by omega), if_pos (by omega)]
    congr 1
    omega
  unfold atI
  rw [e]
  exact h
/-- one row more in the list of a comprehension -/
theorem comp_step {G0 G : Hp} {D T : Addr} {zs : List V} {k : Str} {vs : List V} {ps : List PyData} {j : Nat} (hD : G0 D = none) (sG : Same G0 G) (hG : G D = some (.lst zs)) (fl : Fl G zs j) (nT : G T = none) (q : ∀ H, DqAll H vs ps []) (r : RowD 0 (.tuple (.str k :: ps)) ∧ Sm (.tuple (.str k :: ps))) (hj : j < 1000) :
    ∃ acc, (upd G T (.tup (.str k :: vs))) D = some (.lst acc) ∧ acc.length < sizeLine ∧ Same G0 (upd (upd G T (.tup (.str k :: vs))) D (.lst (acc ++ [.ref T]))) ∧ ∃ zs', (upd (upd G T (.tup (.str k :: vs))) D (.lst (acc ++ [.ref T]))) D = some (.lst zs') ∧ Fl (upd (upd G T (.tup (.str k :: vs))) D (.lst (acc ++ [.ref T]))) zs' (j + 1) := by
  have sT := same_new (o := .tup (.str k :: vs)) nT
  have hD2 := sT _ _ hG
  refine ⟨zs, hD2, small1000 (by have := fl.le; omega), fun b o e => (upd_ne (ne_of_none e hD)).trans (sT _ _ (sG _ _ e)), _, upd_same, ?_⟩
  exact ((fl.same sT).append (.row upd_same (q _) r)).write hD2
end TW
set_option Elab.async false
set_option linter.all false
set_option maxRecDepth 100000
namespace TW
open PySem PySem.Spec PyProof.Rows L2 TL
abbrev S_law : Stmt := topS 66
abbrev N_law : List Str := ["_law_script", "_law_pool", "_law_total_here", "_law_copies", "_law_watchers", "_law_least", "_law_wrong", "_law_words_here", "_law_fields", "_law_readers", "_law_inputs", "_law_results", "_law_rows", "_law_word_here", "_law_k", "_law_reader", "_law_due_here"]
abbrev P_law : List Str := ["_law_script"]
theorem sc_law : FnScope N_law P_law (defScope S_law) := ⟨rfl, rfl, rfl, by decide +kernel, rfl, by decide +kernel, by decide +kernel⟩
section
variable {P : Program} {w : World} {K : PySem.W.Frag} {mg : Str → Option Value} {base : Heap}
set_option maxHeartbeats 16000000 in
theorem ok_law {f fD fP fWs fSh fNe fDu fBu fX : Addr} {fd fdD fdP fdWs fdSh fdNe fdDu fdBu fdX : FuncData} (F : Fun K "law" "law" S_law f fd) (B : Bl mg) (mMax : mg "max" = none)
    (d_law_draw : Df K mg "_law_draw" S_law_draw fD fdD P_law_draw) (G_law_draw : FnOk P w K mg base CX0 1 fD fdD P_law_draw spDraw)
    (d_law_pick : Df K mg "_law_pick" S_law_pick fP fdP P_law_pick) (G_law_pick : FnOk P w K mg base CX0 2 fP fdP P_law_pick spPick)
    (d_law_words : Df K mg "_law_words" S_law_words fWs fdWs P_law_words) (G_law_words : FnOk P w K mg base CX0 3 fWs fdWs P_law_words spWords)
    (d_law_shuffled : Df K mg "_law_shuffled" S_law_shuffled fSh fdSh P_law_shuffled) (G_law_shuffled : FnOk P w K mg base CX0 2 fSh fdSh P_law_shuffled spShuf)
    (d_law_nested : Df K mg "_law_nested" S_law_nested fNe fdNe P_law_nested) (G_law_nested : FnOk P w K mg base CX0 2 fNe fdNe P_law_nested spNest)
    (d_law_due : Df K mg "_law_due" S_law_due fDu fdDu P_law_due) (G_law_due : FnOk P w K mg base CX0 9 fDu fdDu P_law_due (fun vs H Q E => ∃ fs, spDue fs vs H Q E))
    (d_law_built : Df K mg "_law_built" S_law_built fBu fdBu P_law_built) (G_law_built : FnOk P w K mg base CX0 12 fBu fdBu P_law_built (spBuilt K))
    (d_law_exact : Df K mg "_law_exact" S_law_exact fX fdX P_law_exact) (G_law_exact : FnG P w K mg base CX0 1 fX fdX P_law_exact (spExactV K)) : FnG P w K mg base CX0 14 f fd P_law (spLaw K) := by
  refine F.still sc_law (fun vs H Q E h => ?_) (fun cdv A outer s H vs Q E hg hr h => ?_)
  · obtain ⟨a, ns, rfl, _⟩ := h
    rfl
  · obtain ⟨a, ns, rfl, hS, hl, k⟩ := h
    have hr_law_draw : Room 1 _ := hr.mono (by decide)
    have hr_law_pick : Room 2 _ := hr.mono (by decide)
    have hr_law_words : Room 3 _ := hr.mono (by decide)
    have hr_law_shuffled : Room 2 _ := hr.mono (by decide)
    have hr_law_nested : Room 2 _ := hr.mono (by decide)
    have hr_law_due : Room 9 _ := hr.mono (by decide)
    have hr_law_built : Room 12 _ := hr.mono (by decide)
    have hr_law_exact : Room 1 _ := hr.mono (by decide)
    refine ⟨_, (pss_cons (ps_set (i := 1) sc_law.nd rfl (by first | exact Or.inl rfl | exact Or.inr rfl) (pe_lst (pa_cons (pe_callTy call_list_of (by rfl) B.m_list (by decide +kernel) (pa_cons (pe_slice sl_list (pv 0) po_none (po_some pe_int)) pa_nil)) (pa_cons pe_int (pa_cons pe_int pa_nil)))))
 (pss_cons (ps_set (i := 2) sc_law.nd rfl (by first | exact Or.inl rfl | exact Or.inr rfl) (pe_op op_add pe_int (pe_call G_law_draw hr_law_draw rfl d_law_draw.g d_law_draw.F.kp d_law_draw.b .nil pass0 (pa_cons (pv 1) (pa_cons pe_int pa_nil)))))
 (pss_cons (ps_set (i := 3) sc_law.nd rfl (by first | exact Or.inl rfl | exact Or.inr rfl) (pe_call G_law_pick hr_law_pick rfl d_law_pick.g d_law_pick.F.kp d_law_pick.b .nil pass0 (pa_cons (pv 1) (pa_cons (pe_lst (pa_cons pe_int (pa_cons pe_int (pa_cons pe_int (pa_cons pe_int (pa_cons pe_int (pa_cons pe_int pa_nil))))))) pa_nil))))
 (pss_cons (ps_set (i := 4) sc_law.nd rfl (by first | exact Or.inl rfl | exact Or.inr rfl) (pe_call G_law_pick hr_law_pick rfl d_law_pick.g d_law_pick.F.kp d_law_pick.b .nil pass0 (pa_cons (pv 1) (pa_cons (pe_lst (pa_cons pe_int (pa_cons pe_int (pa_cons pe_int (pa_cons pe_int (pa_cons pe_int (pa_cons pe_int pa_nil))))))) pa_nil))))
 (pss_cons (ps_set (i := 5) sc_law.nd rfl (by first | exact Or.inl rfl | exact Or.inr rfl) (pe_call G_law_pick hr_law_pick rfl d_law_pick.g d_law_pick.F.kp d_law_pick.b .nil pass0 (pa_cons (pv 1) (pa_cons (pe_lst (pa_cons pe_int (pa_cons pe_int (pa_cons pe_int (pa_cons pe_int (pa_cons pe_int (pa_cons pe_int pa_nil))))))) pa_nil))))
 (pss_cons (ps_cut (ps_set (i := 6) sc_law.nd rfl (by first | exact Or.inl rfl | exact Or.inr rfl) (pe_cmpR op_eq (pe_call G_law_draw hr_law_draw rfl d_law_draw.g d_law_draw.F.kp d_law_draw.b .nil pass0 (pa_cons (pv 1) (pa_cons pe_int pa_nil))) pe_int (nomark _))))
 (pss_cons (ps_set (i := 7) sc_law.nd rfl (by first | exact Or.inl rfl | exact Or.inr rfl) (pe_call G_law_words hr_law_words rfl d_law_words.g d_law_words.F.kp d_law_words.b .nil pass0 (pa_cons (pv 1) (pa_cons (pv 5) (pa_cons (pe_op op_add (pv 5) pe_int) pa_nil)))))
 (pss_cons (ps_set (i := 8) sc_law.nd rfl (by first | exact Or.inl rfl | exact Or.inr rfl) (pe_call G_law_words hr_law_words rfl d_law_words.g d_law_words.F.kp d_law_words.b .nil pass0 (pa_cons (pv 1) (pa_cons pe_int (pa_cons pe_int pa_nil)))))
 (pss_cons (ps_set (i := 9) sc_law.nd rfl (by first | exact Or.inl rfl | exact Or.inr rfl) (pe_call G_law_words hr_law_words rfl d_law_words.g d_law_words.F.kp d_law_words.b .nil pass0 (pa_cons (pv 1) (pa_cons (pv 4) (pa_cons (pv 4) pa_nil)))))
 (pss_cons (ps_set (i := 10) sc_law.nd rfl (by first | exact Or.inl rfl | exact Or.inr rfl) (pe_slice sl_list (pv 7) po_none (po_some (pe_op op_add pe_int (pe_call G_law_draw hr_law_draw rfl d_law_draw.g d_law_draw.F.kp d_law_draw.b .nil pass0 (pa_cons (pv 1) (pa_cons pe_int pa_nil)))))))
 (pss_cons (ps_cut (ps_set (i := 11) sc_law.nd rfl (by first | exact Or.inl rfl | exact Or.inr rfl) (pe_slice sl_list (pv 7) (po_some (pe_op op_sub (pe_callB call_len_seq (by rfl) B.m_len PySem.boot_len (pa_cons (pv 7) pa_nil)) (pe_callB (call_min2 rfl) (by rfl) B.m_min (by decide +kernel) (pa_cons (pe_callB call_len_seq (by rfl) B.m_len PySem.boot_len (pa_cons (pv 7) pa_nil)) (pa_cons (pe_call G_law_draw hr_law_draw rfl d_law_draw.g d_law_draw.F.kp d_law_draw.b .nil pass0 (pa_cons (pv 1) (pa_cons pe_int pa_nil))) pa_nil))))) po_none)))
 (pss_cons (ps_cut (ps_setLc (i := 12) (own := [("_law_word_here", 13)]) (g := gName 13)  rfl sc_law.nd rfl rfl (sw_true rfl rfl rfl (by decide +kernel)) (pi_list (pv 7)) (blkOk_by (own := [("_law_word_here", 13)]) (N := N_law) (sc := defScope S_law) (by decide +kernel)) (fun _ _ _ _ _ => (pg_name (i := 13) sc_law.nd rfl (by first | exact Or.inl rfl | exact Or.inr rfl))) (fun _ _ _ _ _ => pts_one (PW.pt (pw_and (pt_cmpR (op_notIn_seqK (K := K) rfl) (pv 13) (pv 10) (by rfl)) (pw_and1 (pt_cmpR (op_notIn_seqK (K := K) rfl) (pv 13) (pv 11) (by rfl)))))) (fun _ _ _ _ _ => (pe_tup (pa_cons pe_str (pa_cons (pv 13) pa_nil))))))
 (pss_cons (ps_cut (ps_set (i := 12) sc_law.nd rfl (by first | exact Or.inl rfl | exact Or.inr rfl) (pe_op op_cat (pv 12) (pe_lc (own := [("_law_k", 14)]) (g := gName 14) (tt := tYes) rfl sc_law.nd (pi_range1 (by rfl) B.m_range (pa_cons (pv 3) pa_nil)) (blkOk_by (own := [("_law_k", 14)]) (N := N_law) (sc := defScope S_law) (by decide +kernel)) (fun _ _ _ _ _ => (pg_name (i := 14) sc_law.nd rfl (by first | exact Or.inl rfl | exact Or.inr rfl))) (fun _ _ _ _ _ => pts_nil) (fun _ _ _ _ _ => (pe_tup (pa_cons pe_str (pa_cons (pe_ix (ix_listK (K := K) rfl) (pv 7) pe_int (fun _ _ => rfl)) (pa_cons (pe_ix (ix_listK (K := K) rfl) (pv 10) (pe_un un_neg pe_int) (fun _ _ => rfl)) (pa_cons pe_str (pa_cons (pe_op op_mod (pv 14) pe_int) pa_nil)))))))))))
 (pss_cons (ps_cut (ps_set (i := 12) sc_law.nd rfl (by first | exact Or.inl rfl | exact Or.inr rfl) (pe_op op_cat (pv 12) (pe_lc (own := [("_law_reader", 15)]) (g := gName 15) (tt := tYes) rfl sc_law.nd (pi_list (pv 9)) (blkOk_by (own := [("_law_reader", 15)]) (N := N_law) (sc := defScope S_law) (by decide +kernel)) (fun _ _ _ _ _ => (pg_name (i := 15) sc_law.nd rfl (by first | exact Or.inl rfl | exact Or.inr rfl))) (fun _ _ _ _ _ => pts_nil) (fun _ _ _ _ _ => (pe_tup (pa_cons pe_str (pa_cons (pv 15) (pa_cons (pe_ix (ix_listK (K := K) rfl) (pv 7) pe_int (fun _ _ => rfl)) (pa_cons pe_int pa_nil))))))))))
 (pss_cons (ps_for PassesOwn.never rfl (pi_range1 (by rfl) B.m_range (pa_cons (pe_callB (call_max2 rfl) (by rfl) mMax (by decide +kernel) (pa_cons pe_int (pa_cons (pe_op op_sub (pv 2) (pe_callB call_len_seq (by rfl) B.m_len PySem.boot_len (pa_cons (pv 12) pa_nil))) pa_nil))) pa_nil)) (pg_name (i := 14) sc_law.nd rfl (by first | exact Or.inl rfl | exact Or.inr rfl)) (pss_one (ps_expr (pe_bm PySem.F.plainAttrs_list PySem.F.slot_list_append PySem.F.type_list_append mt_append (pv 12) (pa_cons (pe_tup (pa_cons pe_str (pa_cons (pe_call G_law_pick hr_law_pick rfl d_law_pick.g d_law_pick.F.kp d_law_pick.b .nil pass0 (pa_cons (pv 1) (pa_cons (pv 10) pa_nil))) (pa_cons (pe_ix ix_list (pv 7) pe_int (fun _ _ => rfl)) (pa_cons (pe_call G_law_pick hr_law_pick rfl d_law_pick.g d_law_pick.F.kp d_law_pick.b .nil pass0 (pa_cons (pv 1) (pa_cons (pv 8) pa_nil))) pa_nil))))) pa_nil)))))
 (pss_cons (ps_set (i := 12) sc_law.nd rfl (by first | exact Or.inl rfl | exact Or.inr rfl) (pe_call G_law_shuffled hr_law_shuffled rfl d_law_shuffled.g d_law_shuffled.F.kp d_law_shuffled.b .nil pass0 (pa_cons (pv 1) (pa_cons (pv 12) pa_nil))))
 (pss_cons (ps_cut (ps_if (pt_val (pv 6)) (pss_one (ps_expr (pe_bm PySem.F.plainAttrs_list PySem.F.slot_list_insert PySem.F.type_list_insert mt_insert (pv 12) (pa_cons (pe_call G_law_draw hr_law_draw rfl d_law_draw.g d_law_draw.F.kp d_law_draw.b .nil pass0 (pa_cons (pv 1) (pa_cons (pe_op op_add (pe_callB call_len_seq (by rfl) B.m_len PySem.boot_len (pa_cons (pv 12) pa_nil)) pe_int) pa_nil))) (pa_cons (pe_tup (pa_cons pe_str (pa_cons (pe_ix ix_list (pv 7) pe_int (fun _ _ => rfl)) (pa_cons pe_str (pa_cons (pe_ix ix_list (pv 7) pe_int (fun _ _ => rfl)) pa_nil))))) pa_nil))))) pss_nil))
 (pss_cons (ps_for PassesOwn.never rfl (pi_range1 (by rfl) B.m_range (pa_cons (pe_call G_law_draw hr_law_draw rfl d_law_draw.g d_law_draw.F.kp d_law_draw.b .nil pass0 (pa_cons (pv 1) (pa_cons pe_int pa_nil))) pa_nil)) (pg_name (i := 14) sc_law.nd rfl (by first | exact Or.inl rfl | exact Or.inr rfl)) (pss_one (ps_set (i := 12) sc_law.nd rfl (by first | exact Or.inl rfl | exact Or.inr rfl) (pe_call G_law_nested hr_law_nested rfl d_law_nested.g d_law_nested.F.kp d_law_nested.b .nil pass0 (pa_cons (pv 1) (pa_cons (pv 12) (pa_cons (pe_ix ix_list (pv 7) pe_int (fun _ _ => rfl)) pa_nil)))))))
 (pss_cons (ps_cut (ps_set (i := 16) sc_law.nd rfl (by first | exact Or.inl rfl | exact Or.inr rfl) (pe_call G_law_due hr_law_due rfl d_law_due.g d_law_due.F.kp d_law_due.b .nil pass0 (pa_cons (pv 10) (pa_cons (pv 8) (pa_cons (pv 12) (pa_cons (pv 11) pa_nil)))))))
 (pss_cons (ps_if (pt_not (pt_val (pe_callG G_law_exact hg hr_law_exact rfl d_law_exact.g d_law_exact.F.kp d_law_exact.b .nil pass0 (pa_cons (pe_call G_law_built hr_law_built rfl d_law_built.g d_law_built.F.kp d_law_built.b .nil pass0 (pa_cons (pv 10) (pa_cons (pv 8) (pa_cons (pv 12) (pa_cons (pv 11) pa_nil))))) (pa_cons (pv 16) pa_nil))))) (pss_one (ps_ret pe_bl)) pss_nil)
 (pss_cons (ps_if (pt_cmpR op_isN (pv 16) pe_non (nomark _)) (pss_cons (ps_expr (pe_bm PySem.F.plainAttrs_list PySem.F.slot_list_append PySem.F.type_list_append mt_append (pv 12) (pa_cons (pe_call G_law_pick hr_law_pick rfl d_law_pick.g d_law_pick.F.kp d_law_pick.b .nil pass0 (pa_cons (pv 1) (pa_cons (pe_lst (pa_cons (pe_tup (pa_cons pe_str (pa_cons (pe_ix ix_list (pv 7) pe_int (fun _ _ => rfl)) pa_nil))) (pa_cons (pe_tup (pa_cons pe_str (pa_cons (pe_ix ix_list (pv 7) pe_int (fun _ _ => rfl)) (pa_cons (pe_ix ix_list (pv 7) pe_int (fun _ _ => rfl)) (pa_cons pe_str (pa_cons pe_int pa_nil)))))) pa_nil))) pa_nil))) pa_nil)))
 (pss_one (ps_ret (pe_callG G_law_exact hg hr_law_exact rfl d_law_exact.g d_law_exact.F.kp d_law_exact.b .nil pass0 (pa_cons (pe_call G_law_built hr_law_built rfl d_law_built.g d_law_built.F.kp d_law_built.b .nil pass0 (pa_cons (pv 10) (pa_cons (pv 8) (pa_cons (pv 12) (pa_cons (pv 11) pa_nil))))) (pa_cons (pe_call G_law_due hr_law_due rfl d_law_due.g d_law_due.F.kp d_law_due.b .nil pass0 (pa_cons (pv 10) (pa_cons (pv 8) (pa_cons (pv 12) (pa_cons (pv 11) pa_nil))))) pa_nil)))))) pss_nil)
 (pss_one (ps_ret pe_bl))))))))))))))))))))))), ?_⟩
    obtain ⟨ms, hms, lms⟩ := cut_ints ns none (some 63)
    refine ⟨_, rfl, _, rfl, a, _, rfl, hS, fun q1 hq1 => ?_⟩
    rw [hms]
    refine ⟨q1, _, rfl, .inl (SqL.of upd_same), fun c hc => ⟨by show 3 ≤ sizeLine; decide, fun p hp => ?_⟩⟩
    let H0 : Hp := upd (upd (upd H q1 (.lst (ms.map V.int))) c (.lst (ms.map V.int))) p (.lst [.ref c, .int 0, .int 0])
    have cp : c ≠ p := ne_of_none upd_same hp
    have P0 : Pool p c H0 := ⟨cp.symm, ms, 0, 0, upd_same, (upd_ne cp).trans upd_same, by omega⟩
    -- numbers
    refine ⟨_, rfl, p, c, _, rfl, P0, by decide, by decide, fun tt H1 t0 t1 P1 f1 => ⟨_, _, rfl, rfl, ?_⟩⟩
    refine ⟨_, rfl, (by show 6 ≤ sizeLine; decide), fun b1 nb1 => ⟨p, c, b1, [0, 1, 4, 4, 5, 6].map (fun n : Nat => V.int (n : Int)), rfl, P1.same (same_new nb1), ⟨(P1.np nb1).1, (P1.np nb1).2, .inl upd_same⟩, (fun z => nomatch z), by decide, fun vc ic H2 hvc P2 f2 => ?_⟩⟩
    obtain ⟨cc, mc, rfl⟩ := pick_nats hvc
    refine ⟨_, rfl, (by show 6 ≤ sizeLine; decide), fun b2 nb2 => ⟨p, c, b2, [0, 1, 3, 3, 4, 5].map (fun n : Nat => V.int (n : Int)), rfl, P2.same (same_new nb2), ⟨(P2.np nb2).1, (P2.np nb2).2, .inl upd_same⟩, (fun z => nomatch z), by decide, fun vw iw H3 hvw P3 f3 => ?_⟩⟩
    obtain ⟨wc, mw, rfl⟩ := pick_nats hvw
    refine ⟨_, rfl, (by show 6 ≤ sizeLine; decide), fun b3 nb3 => ⟨p, c, b3, [1, 2, 5, 6, 6, 7].map (fun n : Nat => V.int (n : Int)), rfl, P3.same (same_new nb3), ⟨(P3.np nb3).1, (P3.np nb3).2, .inl upd_same⟩, (fun z => nomatch z), by decide, fun vl il H4 hvl P4 f4 => ?_⟩⟩
    obtain ⟨lc, ml, rfl⟩ := pick_nats hvl
    have cc6 : cc ≤ 6 := by
      simp only [List.mem_cons, List.not_mem_nil, or_false] at mc
      omega
    have wc5 : wc ≤ 5 := by
      simp only [List.mem_cons, List.not_mem_nil, or_false] at mw
      omega
    have lc7 : 1 ≤ lc ∧ lc ≤ 7 := by
      simp only [List.mem_cons, List.not_mem_nil, or_false] at ml
      omega
    refine ⟨fun σ G => ∃ wrong : Bool, σ = [some (.ref a), some (.ref p), some (.int (15 + tt)), some (.int (cc : Int)), some (.int (wc : Int)), some (.int (lc : Int)), some (.bl wrong), none, none, none, none, none, none, none, none, none, none] ∧ Pool p c G, ?_, ?_⟩
    · exact ⟨_, rfl, p, c, _, rfl, P4, by decide, by decide, fun wr H5 wr0 wr1 P5 f5 => ⟨rfl, _, rfl, P5⟩⟩
    rintro σ H5 ⟨wrong, rfl, P5⟩
    -- words
    refine ⟨_, rfl, _, rfl, _, rfl, _, _, rfl, rfl, p, c, lc, lc + 2, rfl, P5, by omega, by omega, fun aW ws H6 nW hW wl1 wl2 wnd ww P6 f6 => ?_⟩
    have Wp := P5.np nW
    refine ⟨_, rfl, p, c, 1, 2, rfl, P6, by decide, by decide, fun aF fs H7 nF hF7 fe1 fe2 fnd fw P7 f7 => ?_⟩
    have Fp := P6.np nF
    have hW7 := f7 _ _ Wp.1 Wp.2 hW
    refine ⟨_, rfl, _, rfl, _, rfl, p, c, wc, wc, rfl, P7, by omega, by omega, fun aB bs H8 nB hB8 bl1 bl2 bnd bw P8 f8 => ?_⟩
    have Bp := P7.np nB
    have hW8 := f8 _ _ Wp.1 Wp.2 hW7
    have hF8 := f8 _ _ Fp.1 Fp.2 hF7
    -- inputs and outputs
    refine ⟨_, rfl, _, rfl, p, c, _, rfl, P8, by decide, by decide, fun j H9 j0 j1 P9 f9 => ?_⟩
    have hW9 := f9 _ _ Wp.1 Wp.2 hW8
    refine ⟨_, _, rfl, rfl, _, rfl, aW, _, rfl, SqL.of hW9, fun aI nI => ?_⟩
    obtain ⟨ji, rfl⟩ : ∃ n : Nat, j = (n : Int) := ⟨j.toNat, by omega⟩
    have ej : (1 : Int) + (ji : Int) = ((1 + ji : Nat) : Int) := by omega
    obtain ⟨is, ei, eis, iw, inN, i1, i3, isub⟩ : ∃ is : List Str, cutV (ws.map V.str) none (some ((1 : Int) + (ji : Int))) = is.map V.str ∧ is = ws.take is.length ∧ (∀ x ∈ is, IsW x) ∧ is.Nodup ∧ 1 ≤ is.length ∧ is.length ≤ 3 ∧ ∀ x ∈ is, x ∈ ws := by
      rw [ej]
      by_cases g : 1 + ji ≤ ws.length
      · refine ⟨ws.take (1 + ji), ?_, ?_, fun x m => ww x (List.mem_of_mem_take m), wnd.sublist (List.take_sublist _ _), ?_, ?_, fun x m => List.mem_of_mem_take m⟩
        · rw [cutV_to (by rw [List.length_map]; exact g), List.map_take]
        · rw [List.length_take, Nat.min_eq_left g]
        · rw [List.length_take]; omega
        · rw [List.length_take]; omega
      · refine ⟨ws, ?_, (List.take_length ..).symm, ww, wnd, by omega, by omega, fun x m => m⟩
        unfold cutV
        have e0 : HT.sIx (ws.map V.str).length 0 none = 0 := rfl
        have e1 : HT.sIx (ws.map V.str).length (ws.map V.str).length (some ((1 + ji : Nat) : Int)) = ws.length := by
          show (if (((1 + ji : Nat) : Int) < 0) then (((1 + ji : Nat) : Int) + ((ws.map V.str).length : Int)).toNat else min ((1 + ji : Nat) : Int).toNat (ws.map V.str).length) = _
          rw [if_neg (by omega), List.length_map]
          omega
        rw [e0, e1, List.drop_zero, Nat.sub_zero, List.take_of_length_le (by rw [List.length_map]; omega)]
    rw [ei]
    have sI := same_new (o := .lst (is.map V.str)) nI
    have PI := P9.same sI
    have hWI := sI _ _ hW9
    have hFI := sI _ _ (f9 _ _ Fp.1 Fp.2 hF8)
    have hBI := sI _ _ (f9 _ _ Bp.1 Bp.2 hB8)
    have hII : (upd H9 aI (.lst (is.map V.str))) aI = some (.lst (is.map V.str)) := upd_same
    have Ip := P9.np nI
    obtain ⟨HI, eI⟩ : ∃ T : Hp, T = upd H9 aI (.lst (is.map V.str)) := ⟨_, rfl⟩
    rw [← eI] at PI hWI hFI hBI hII sI ⊢
    refine ⟨fun σ G => ∃ (aO : Addr) (os : List Str), σ = [some (.ref a), some (.ref p), some (.int (15 + tt)), some (.int (cc : Int)), some (.int (wc : Int)), some (.int (lc : Int)), some (.bl wrong), some (.ref aW), some (.ref aF), some (.ref aB), some (.ref aI), some (.ref aO), none, none, none, none, none] ∧ LO p c aW aF aI aB aO ∧ LJ p c aW aF aI aB aO ws fs is bs os G ∧ os.Nodup ∧ os.length ≤ 3 ∧ ∀ x ∈ os, x ∈ ws, ?_, ?_⟩
    · refine ⟨_, rfl, _, rfl, aW, _, rfl, .inl (SqL.of hWI), _, rfl, aW, _, rfl, .inl (SqL.of hWI), _, rfl, p, c, _, rfl, PI, by decide, by decide, fun d H10 d0 d1 P10 f10 => ⟨_, _, rfl, _, _, rfl, rfl, ?_⟩⟩
      obtain ⟨X, eX⟩ : ∃ X : Int, X = ((ws.map V.str).length : Int) - (if d < ((ws.map V.str).length : Int) then d else ((ws.map V.str).length : Int)) := ⟨_, rfl⟩
      obtain ⟨os, eo, oN, o3, oS⟩ : ∃ os : List Str, cutV (ws.map V.str) (some X) none = os.map V.str ∧ os.Nodup ∧ os.length ≤ 3 ∧ ∀ x ∈ os, x ∈ ws := by
        rw [List.length_map] at eX
        obtain ⟨i, rfl, hi, hi2⟩ : ∃ i : Nat, X = (i : Int) ∧ i ≤ ws.length ∧ ws.length ≤ i + 3 := by
          refine ⟨X.toNat, ?_, ?_, ?_⟩ <;> split at eX <;> omega
        refine ⟨ws.drop i, ?_, wnd.sublist (List.drop_sublist _ _), by rw [List.length_drop]; omega, fun x m => List.mem_of_mem_drop m⟩
        rw [cut_from _ (by rw [List.length_map]; exact hi), List.map_drop]
      refine ⟨_, rfl, aW, _, rfl, SqL.of (f10 _ _ Wp.1 Wp.2 hWI), fun aO nO => ?_⟩
      rw [eX] at eo
      rw [eo]
      have Op := P10.np nO
      have sO := same_new (o := .lst (os.map V.str)) nO
      exact ⟨aO, os, rfl, ⟨Wp, Fp, Ip, Bp, Op⟩, ⟨P10.same sO, sO _ _ (f10 _ _ Wp.1 Wp.2 hWI), sO _ _ (f10 _ _ Fp.1 Fp.2 hFI), sO _ _ (f10 _ _ Ip.1 Ip.2 hII), sO _ _ (f10 _ _ Bp.1 Bp.2 hBI), upd_same⟩, oN, o3, oS⟩
    rintro σ G0 ⟨aO, os, rfl, LO0, J0, oN, o3, oS⟩
    obtain ⟨w0, hw0, iw0⟩ : ∃ w0, (ws.map V.str)[0]? = some (V.str w0) ∧ IsW w0 := by
      refine ⟨ws[0]'(by omega), ?_, ww _ (List.getElem_mem _)⟩
      rw [List.getElem?_map, List.getElem?_eq_getElem (by omega)]
      rfl
    -- rows of the words
    refine ⟨fun σ G => ∃ (aR : Addr) (zs : List V), σ = [some (.ref a), some (.ref p), some (.int (15 + tt)), some (.int (cc : Int)), some (.int (wc : Int)), some (.int (lc : Int)), some (.bl wrong), some (.ref aW), some (.ref aF), some (.ref aB), some (.ref aI), some (.ref aO), some (.ref aR), none, none, none, none] ∧ Same G0 G ∧ G0 aR = none ∧ G aR = some (.lst zs) ∧ Fl G zs 9, ?_, ?_⟩
    · refine ⟨_, rfl, aW, rfl, ⟨_, SqL.of J0.W⟩, fun D hD => ?_⟩
      refine lc_list (xs := ws.map V.str) (fun j G => Same G0 G ∧ ∃ zs, G D = some (.lst zs) ∧ Fl G zs j) ⟨same_new hD, [], upd_same, .nil⟩ (fun j G _ h => SqL.of (h.1 _ _ J0.W)) ?_ ?_
      · rintro j x G hx ⟨sG, zs, hG, fl⟩
        obtain ⟨z, hz, rfl⟩ := get_str hx
        refine ⟨rfl, ?_⟩
        have no : Same G0 G ∧ ∃ zs, G D = some (.lst zs) ∧ Fl G zs (j + 1) := ⟨sG, zs, hG, fl.up (Nat.le_succ j)⟩
        have jl : j < 1000 := by
          have := (List.getElem?_eq_some_iff.mp hz).1
          omega
        refine ⟨_, rfl, _, rfl, aI, _, rfl, .inl (SqL.of (sG _ _ J0.I)), rfl, flat_strs _, _, rfl, ite_dec (fun _ => ?_) (fun _ => iteF no)⟩
        refine ⟨_, rfl, _, rfl, aO, _, rfl, .inl (SqL.of (sG _ _ J0.B)), rfl, flat_strs _, _, rfl, ite_dec (fun _ => ?_) (fun _ => no)⟩
        refine ⟨_, rfl, (by show 2 ≤ sizeLine; decide), fun T nT => ?_⟩
        exact comp_step hD sG hG fl nT (ps := [.str z]) (fun H => .cons (L := []) (.str _) .nil) (flat_row (by decide +kernel) (by decide +kernel) (by decide +kernel) (by show 1 ≤ 5; decide) fun d m => by
          rw [List.mem_singleton.mp m]
          exact flat_wd (ww z (List.mem_of_getElem? hz))) jl
      · rintro G ⟨sG, zs, hG, fl⟩
        refine ⟨D, zs, rfl, sG, hD, hG, fl.up ?_⟩
        rw [List.length_map]
        omega
    rintro σ G1 ⟨aR1, zs1, rfl, s1, n1, h1, fl1⟩
    have J1 := J0.same s1
    obtain ⟨i9, hi9, ii9⟩ : ∃ i9, (is.map V.str)[is.length - 1]? = some (V.str i9) ∧ IsW i9 := by
      refine ⟨is[is.length - 1]'(by omega), ?_, iw _ (List.getElem_mem _)⟩
      rw [List.getElem?_map, List.getElem?_eq_getElem (by omega)]
      rfl
    -- rows that copy
    refine ⟨fun σ G => ∃ (aR : Addr) (zs : List V), σ = [some (.ref a), some (.ref p), some (.int (15 + tt)), some (.int (cc : Int)), some (.int (wc : Int)), some (.int (lc : Int)), some (.bl wrong), some (.ref aW), some (.ref aF), some (.ref aB), some (.ref aI), some (.ref aO), some (.ref aR), none, none, none, none] ∧ Same G1 G ∧ G1 aR = none ∧ G aR = some (.lst zs) ∧ Fl G zs 15, ?_, ?_⟩
    · refine ⟨_, rfl, _, rfl, (cc : Int), rfl, by omega, by omega, fun D hD => ?_⟩
      have w1 : Same G1 (upd G1 D (.lst [])) := same_new hD
      refine lc_range (lo := 0) (n := ((cc : Nat) : Int).toNat) (fun j G => Same G1 G ∧ ∃ zs, G D = some (.lst zs) ∧ Fl G zs j) ⟨w1, [], upd_same, .nil⟩ ?_ ?_
      · rintro j G hj ⟨sG, zs, hG, fl⟩
        have jl : j < 1000 := by omega
        have JG := J1.same sG
        have ej : (0 : Int) + (j : Int) = (j : Int) := Int.zero_add _
        rw [ej]
        refine ⟨rfl, yes_of ?_⟩
        refine ⟨_, rfl, aW, _, 0, _, rfl, rfl, SqL.of JG.W, atI_of (j := 0) rfl hw0, _, rfl, _, rfl, ?_⟩
        refine ⟨aI, _, -1, .str i9, rfl, rfl, SqL.of JG.I, atI_last1 (by rw [List.length_map]; exact hi9), _, rfl, _, _, rfl, rfl, (by show (0 : Int) < 5; decide), (by show 5 ≤ sizeLine; decide), fun T nT => ?_⟩
        exact comp_step hD sG hG fl nT (ps := [.str w0, .str i9, .str "thaw", .int ((j : Int) % 5)]) (fun H => .cons (L := []) (.str _) (.cons (L := []) (.str _) (.cons (L := []) (.str _) (.cons (L := []) (.int _) .nil)))) (flat_row (by decide +kernel) (by decide +kernel) (by decide +kernel) (by show 4 ≤ 5; decide) fun d m => by
          simp only [List.mem_cons, List.not_mem_nil, or_false] at m
          rcases m with rfl | rfl | rfl | rfl
          · exact flat_wd iw0
          · exact flat_wd ii9
          · exact ⟨.str _, .str (by decide +kernel)⟩
          · exact ⟨.int _, .int _⟩) jl
      · rintro G ⟨sG, zs, hG, fl⟩
        have h1G := sG _ _ h1
        have f1G := fl1.same sG
        have fc : Fl G zs 6 := fl.up (by omega)
        refine ⟨aR1, D, zs1, zs, rfl, rfl, h1G, hG, ?_, fun q nq => ?_⟩
        · have := f1G.le
          have := fc.le
          exact Nat.le_of_lt (small1000 (by omega))
        have sq := same_new (o := .lst (zs1 ++ zs)) nq
        exact ⟨q, _, rfl, sG.trans sq, sG.free nq, upd_same, (f1G.append fc).same sq⟩
    rintro σ G2 ⟨aR2, zs2, rfl, s2, n2, h2, fl2⟩
    have J2 := J1.same s2
    -- rows that watch
    refine ⟨fun σ G => ∃ (aR : Addr) (zs : List V), σ = [some (.ref a), some (.ref p), some (.int (15 + tt)), some (.int (cc : Int)), some (.int (wc : Int)), some (.int (lc : Int)), some (.bl wrong), some (.ref aW), some (.ref aF), some (.ref aB), some (.ref aI), some (.ref aO), some (.ref aR), none, none, none, none] ∧ Same G2 G ∧ G2 aR = none ∧ G aR = some (.lst zs) ∧ Fl G zs 20, ?_, ?_⟩
    · refine ⟨_, rfl, _, rfl, aB, rfl, ⟨_, SqL.of J2.A⟩, fun D hD => ?_⟩
      refine lc_list (xs := bs.map V.str) (fun j G => Same G2 G ∧ ∃ zs, G D = some (.lst zs) ∧ Fl G zs j) ⟨same_new hD, [], upd_same, .nil⟩ (fun j G _ h => SqL.of (h.1 _ _ J2.A)) ?_ ?_
      · rintro j x G hx ⟨sG, zs, hG, fl⟩
        obtain ⟨z, hz, rfl⟩ := get_str hx
        have jl : j < 1000 := by
          have := (List.getElem?_eq_some_iff.mp hz).1
          omega
        have JG := J2.same sG
        refine ⟨rfl, yes_of ?_⟩
        refine ⟨_, rfl, _, rfl, aW, _, 0, _, rfl, rfl, SqL.of JG.W, atI_of (j := 0) rfl hw0, (by show 4 ≤ sizeLine; decide), fun T nT => ?_⟩
        exact comp_step hD sG hG fl nT (ps := [.str z, .str w0, .int 4]) (fun H => .cons (L := []) (.str _) (.cons (L := []) (.str _) (.cons (L := []) (.int _) .nil))) (flat_row (by decide +kernel) (by decide +kernel) (by decide +kernel) (by show 3 ≤ 5; decide) fun d m => by
          simp only [List.mem_cons, List.not_mem_nil, or_false] at m
          rcases m with rfl | rfl | rfl
          · exact flat_wd (bw z (List.mem_of_getElem? hz))
          · exact flat_wd iw0
          · exact ⟨.int _, .int _⟩) jl
      · rintro G ⟨sG, zs, hG, fl⟩
        have h2G := sG _ _ h2
        have f2G := fl2.same sG
        have fc : Fl G zs 5 := fl.up (by rw [List.length_map]; omega)
        refine ⟨aR2, D, zs2, zs, rfl, rfl, h2G, hG, ?_, fun q nq => ?_⟩
        · have := f2G.le
          have := fc.le
          exact Nat.le_of_lt (small1000 (by omega))
        have sq := same_new (o := .lst (zs2 ++ zs)) nq
        exact ⟨q, _, rfl, sG.trans sq, sG.free nq, upd_same, (f2G.append fc).same sq⟩
    rintro σ G3 ⟨aR3, zs3, rfl, s3, n3, h3, fl3⟩
    have J3 := J2.same s3
    have R3p := J2.P.np n3
    have ne3 := J2.ne n3
    -- rows that look
    refine ⟨_, rfl, _, rfl, aR3, _, rfl, .inl (SqL.of h3), _, _, rfl, rfl, _, _, rfl, ?_⟩
    refine ⟨_, rfl, by split <;> omega, by split <;> omega, for_range (lo := 0) (n := (if 15 + tt - (zs3.length : Int) > 0 then 15 + tt - (zs3.length : Int) else 0).toNat) (fun j σ G => (∃ (z : Option V) (zs : List V), σ = [some (.ref a), some (.ref p), some (.int (15 + tt)), some (.int (cc : Int)), some (.int (wc : Int)), some (.int (lc : Int)), some (.bl wrong), some (.ref aW), some (.ref aF), some (.ref aB), some (.ref aI), some (.ref aO), some (.ref aR3), none, z, none, none] ∧ G aR3 = some (.lst zs) ∧ Fl G zs (zs3.length + j)) ∧ LJ p c aW aF aI aB aO ws fs is bs os G) ⟨⟨_, zs3, rfl, h3, fl3.tight⟩, J3⟩ ?_ ?_⟩
    · rintro j σ G hj ⟨⟨z, zs, rfl, hG, fl⟩, J⟩
      have j23 : zs3.length + j ≤ 22 := by
        have := fl3.le
        split at hj <;> omega
      refine ⟨_, rfl, .inl ⟨rfl, _, SqL.of hG⟩, _, rfl, _, rfl, p, c, aI, _, rfl, J.P, ⟨Ip.1, Ip.2, .inl J.I⟩, ?_, ?_, fun v1 i1' G' hv1 P' f' => ?_⟩
      · intro e
        have := congrArg List.length e
        rw [List.length_map, List.length_nil] at this
        omega
      · rw [List.length_map]
        omega
      have J' := J.fr LO0 P' f'
      obtain ⟨y1, hy1, rfl⟩ := get_str hv1
      refine ⟨_, rfl, aW, _, 0, _, rfl, rfl, SqL.of J'.W, atI_of (j := 0) rfl hw0, _, rfl, _, rfl, p, c, aF, _, rfl, J'.P, ⟨Fp.1, Fp.2, .inl J'.F⟩, ?_, ?_, fun v2 i2' G'' hv2 P'' f'' => ?_⟩
      · intro e
        have := congrArg List.length e
        rw [List.length_map, List.length_nil] at this
        omega
      · rw [List.length_map]
        omega
      have J'' := J'.fr LO0 P'' f''
      obtain ⟨y2, hy2, rfl⟩ := get_str hv2
      refine ⟨(by show 4 ≤ sizeLine; decide), fun T nT => ?_⟩
      have h'' := f'' _ _ R3p.1 R3p.2 (f' _ _ R3p.1 R3p.2 hG)
      have fl'' := (fl.fr J.P f').fr P' f''
      have sT := same_new (o := .tup [.str "look", .str y1, .str w0, .str y2]) nT
      refine ⟨aR3, zs, .ref T, rfl, rfl, sT _ _ h'', small1000 (by have := fl.le; omega), ⟨_, _, rfl, upd_same, ?_⟩, (J''.same sT).write R3p ne3 _⟩
      exact ((fl''.same sT).append (.row (ps := [.str y1, .str w0, .str y2]) upd_same (.cons (L := []) (.str _) (.cons (L := []) (.str _) (.cons (L := []) (.str _) .nil))) (flat_row (by decide +kernel) (by decide +kernel) (by decide +kernel) (by show 3 ≤ 5; decide) fun d m => by
          simp only [List.mem_cons, List.not_mem_nil, or_false] at m
          rcases m with rfl | rfl | rfl
          · exact flat_wd (iw y1 (List.mem_of_getElem? hy1))
          · exact flat_wd iw0
          · exact flat_wd (fw y2 (List.mem_of_getElem? hy2))))).write (sT _ _ h'')
    rintro σ G4 ⟨⟨z4, zs4, rfl, h4, fl4'⟩, J4⟩
    have fl4 : Fl G4 zs4 23 := fl4'.up (by
      have := fl3.le
      split <;> omega)
    -- in another order
    refine ⟨_, rfl, _, rfl, p, c, aR3, zs4, rfl, J4.P, R3p, h4, by have := fl4.le; omega, fun aR5 zs5 G5 n5 h5 pm5 P5' f5' => ?_⟩
    have J5 := J4.fr LO0 P5' f5'
    have R5p := J4.P.np n5
    have ne5 := J4.ne n5
    have fl5 := (fl4.perm pm5).fr J4.P f5'
    refine ⟨fun σ G => ∃ zs : List V, σ = [some (.ref a), some (.ref p), some (.int (15 + tt)), some (.int (cc : Int)), some (.int (wc : Int)), some (.int (lc : Int)), some (.bl wrong), some (.ref aW), some (.ref aF), some (.ref aB), some (.ref aI), some (.ref aO), some (.ref aR5), none, z4, none, none] ∧ G aR5 = some (.lst zs) ∧ Fl G zs 24 ∧ LJ p c aW aF aI aB aO ws fs is bs os G, ?_, ?_⟩
    · refine ⟨_, rfl, _, rfl, ite_dec (fun _ => ?_) (fun _ => ⟨zs5, rfl, h5, fl5.up (by decide), J5⟩)⟩
      refine ⟨_, rfl, .inl ⟨rfl, _, SqL.of h5⟩, _, rfl, _, rfl, aR5, _, rfl, .inl (SqL.of h5), _, _, rfl, rfl, p, c, _, rfl, J5.P, by omega, log_small (by omega) (by have := fl5.le; omega), fun r G' r0 r1 P' f' => ?_⟩
      have J' := J5.fr LO0 P' f'
      refine ⟨_, rfl, aW, _, 0, _, rfl, rfl, SqL.of J'.W, atI_of (j := 0) rfl hw0, _, rfl, aW, _, 0, _, rfl, rfl, SqL.of J'.W, atI_of (j := 0) rfl hw0, (by show 4 ≤ sizeLine; decide), fun T nT => ?_⟩
      have sT := same_new (o := .tup [.str "put", .str w0, .str "A", .str w0]) nT
      have h' := sT _ _ (f' _ _ R5p.1 R5p.2 h5)
      have fl' := (fl5.fr J5.P f').same sT
      have rl := fl5.le
      refine ⟨aR5, zs5, r, .ref T, rfl, rfl, h', small1000 (by omega), r0, by omega, ?_⟩
      refine ⟨zs5.take r.toNat ++ [.ref T] ++ zs5.drop r.toNat, rfl, upd_same, ?_, (J'.same sT).write R5p ne5 _⟩
      exact ((fl'.append (.row (ps := [.str w0, .str "A", .str w0]) upd_same (.cons (L := []) (.str _) (.cons (L := []) (.str _) (.cons (L := []) (.str _) .nil))) (flat_row (by decide +kernel) (by decide +kernel) (by decide +kernel) (by show 3 ≤ 5; decide) fun d m => by
          simp only [List.mem_cons, List.not_mem_nil, or_false] at m
          rcases m with rfl | rfl | rfl
          · exact flat_wd iw0
          · exact ⟨.str _, .str (by decide +kernel)⟩
          · exact flat_wd iw0))).perm insert_perm).write h'
    rintro σ G6 ⟨zs6, rfl, h6, fl6, J6⟩
    -- rows inside rows
    refine ⟨_, rfl, p, c, _, rfl, J6.P, by decide, by decide, fun d G7 d0 d1 P7' f7' => ⟨d, rfl, by omega, by omega, ?_⟩⟩
    have J7 := J6.fr LO0 P7' f7'
    have h7 := f7' _ _ R5p.1 R5p.2 h6
    have L7 : LQ p c aW aF aI aB aO aR5 ws fs is bs os 0 (24 + 0) G7 := by
      obtain ⟨ds, q, r, l⟩ := fl6.fr J6.P f7'
      exact ⟨J7, ne5, ds, [aR5], .lst h7 q, (fun x m => by rw [List.mem_singleton.mp m]; exact R5p), rows_flat r l⟩
    refine for_range (lo := 0) (n := d.toNat) (fun j σ G => ∃ (aR : Addr) (z : Option V), σ = [some (.ref a), some (.ref p), some (.int (15 + tt)), some (.int (cc : Int)), some (.int (wc : Int)), some (.int (lc : Int)), some (.bl wrong), some (.ref aW), some (.ref aF), some (.ref aB), some (.ref aI), some (.ref aO), some (.ref aR), none, z, none, none] ∧ LQ p c aW aF aI aB aO aR ws fs is bs os j (24 + j) G) ⟨aR5, _, rfl, L7⟩ ?_ ?_
    · rintro j σ G hj ⟨aR, z, rfl, J, ne, ds, M, q, o, R⟩
      have rl := R.ln
      have j2 : j ≤ 2 := by omega
      have l100 : ds.length ≤ 100 := by omega
      refine ⟨_, rfl, _, rfl, _, rfl, aW, _, 0, _, rfl, rfl, SqL.of J.W, atI_of (j := 0) rfl hw0, p, c, aR, w0, ds, M, rfl, J.P, q, o, l100, fun b i' m' j' M' G' nb im mj hj' q' o' P' f' => ?_⟩
      exact ⟨b, _, rfl, J.fr LO0 P' f', J.ne nb, _, M', q', o', nest_rows (l := 24 + j) (by have := iw0.2.1; omega) R (by omega) im mj hj'⟩
    rintro σ G8 ⟨aR, z8, rfl, J8, ne8, ds, M, q8, o8, R8⟩
    obtain ⟨n, en⟩ : ∃ n, n = d.toNat := ⟨_, rfl⟩
    rw [← en] at R8
    have n2 : n ≤ 2 := by omega
    have R26 : RowsL n 26 ds := R8.up (by omega)
    have gw : GoodW is fs os := ⟨iw, inN, i1, i3, fw, fnd, fe1, fe2, fun x m => ww x (oS x m), oN, o3⟩
    -- what is due, and what building gives
    refine ⟨fun σ G => ∃ v, σ = [some (.ref a), some (.ref p), some (.int (15 + tt)), some (.int (cc : Int)), some (.int (wc : Int)), some (.int (lc : Int)), some (.bl wrong), some (.ref aW), some (.ref aF), some (.ref aB), some (.ref aI), some (.ref aO), some (.ref aR), none, z8, none, some v] ∧ Same G8 G ∧ DueV K is fs os n ds G v, ?_, ?_⟩
    · exact ⟨_, rfl, _, rfl, _, rfl, _, rfl, fs, due_of (K := K) J8.I J8.F q8 J8.B (by omega) (R26.up (by decide)) (by omega) (by omega) fun v G' s dv => ⟨v, rfl, s, dv⟩⟩
    rintro σ G9 ⟨v, rfl, s9, dv⟩
    have J9 := J8.same s9
    have q9 := q8.same s9
    refine ⟨_, rfl, _, rfl, _, rfl, _, rfl, ?_⟩
    dsimp only [tNil, List.append_nil]
    refine built_of J9.I J9.F q9 J9.B (by omega) (R26.up (by decide)) gw fun u GA sA du => ⟨_, rfl, ?_⟩
    dsimp only [tNil, List.append_nil]
    refine exact_due (Nat.le_trans R26.ln (by decide)) R26.sm du (dv.same sA) ⟨_, rfl, iteF ?_⟩
    have JA := J9.same sA
    have qA := q9.same sA
    refine ⟨_, rfl, rfl, _, rfl, ite_dec (fun _ => ?_) (fun _ => k _)⟩
    -- one row more
    obtain ⟨L0, rfl, nL0, xs, hxs, daA⟩ := qA.own
    have lxs : xs.length ≤ 26 := by rw [daA.len]; exact R26.ln
    refine ⟨_, rfl, .inl ⟨rfl, _, SqL.of hxs⟩, _, rfl, _, rfl, aW, _, 0, _, rfl, rfl, SqL.of JA.W, atI_of (j := 0) rfl hw0, (by show 2 ≤ sizeLine; decide), fun T1 nT1 => ?_⟩
    have t1s := same_new (o := .tup [.str "new", .str w0]) nT1
    refine ⟨_, rfl, aW, _, 0, _, rfl, rfl, SqL.of (t1s _ _ JA.W), atI_of (j := 0) rfl hw0, _, rfl, aW, _, 0, _, rfl, rfl, SqL.of (t1s _ _ JA.W), atI_of (j := 0) rfl hw0, (by show 5 ≤ sizeLine; decide), fun T2 nT2 => ?_⟩
    have t2s := t1s.trans (same_new (o := .tup [.str "copy", .str w0, .str w0, .str "freeze", .int 1]) nT2)
    refine ⟨(by show 2 ≤ sizeLine; decide), fun L nL => ?_⟩
    have t3' := same_new (o := .lst [.ref T1, .ref T2]) nL
    have t3s := t2s.trans t3'
    have JL := JA.same t3s
    have hT1 := (same_new (o := .tup [.str "copy", .str w0, .str w0, .str "freeze", .int 1]) nT2).trans t3' _ _ (upd_same (H := GA) (a := T1) (o := .tup [.str "new", .str w0]))
    have hT2 := t3' _ _ (upd_same (H := upd GA T1 (.tup [.str "new", .str w0])) (a := T2) (o := .tup [.str "copy", .str w0, .str w0, .str "freeze", .int 1]))
    have Lp := (JA.same t2s).P.np nL
    refine ⟨p, c, L, [.ref T1, .ref T2], rfl, JL.P, ⟨Lp.1, Lp.2, .inl upd_same⟩, (fun z => nomatch z), (by show 2 ≤ 1000000; decide), fun x ix GB hx PB fB => ?_⟩
    have JB := JL.fr LO0 PB fB
    have oR := o8 aR (List.mem_cons_self ..)
    have hxB := fB _ _ oR.1 oR.2 (t3s _ _ hxs)
    have daB : DqAll GB xs ds L0 := (daA.same t3s).frP JL.P fB fun y m => o8 y (List.mem_cons_of_mem _ m)
    obtain ⟨dx, qx, rx, sx⟩ : ∃ dx, Dq GB x dx [] ∧ RowD 0 dx ∧ Sm dx := by
      have two : x = .ref T1 ∨ x = .ref T2 := by
        have m := List.mem_of_getElem? hx
        simp only [List.mem_cons, List.not_mem_nil, or_false] at m
        exact m
      rcases two with rfl | rfl
      · refine ⟨.tuple [.str "new", .str w0], .tup (fr_tupS JL.P fB hT1) (.cons (L := []) (.str _) (.cons (L := []) (.str _) .nil)), ?_⟩
        exact flat_row (by decide +kernel) (by decide +kernel) (by decide +kernel) (by show 1 ≤ 5; decide) fun d m => by
          rw [List.mem_singleton.mp m]
          exact flat_wd iw0
      · refine ⟨.tuple [.str "copy", .str w0, .str w0, .str "freeze", .int 1], .tup (fr_tupS JL.P fB hT2) (.cons (L := []) (.str _) (.cons (L := []) (.str _) (.cons (L := []) (.str _) (.cons (L := []) (.str _) (.cons (L := []) (.int _) .nil))))), ?_⟩
        exact flat_row (by decide +kernel) (by decide +kernel) (by decide +kernel) (by show 4 ≤ 5; decide) fun d m => by
          simp only [List.mem_cons, List.not_mem_nil, or_false] at m
          rcases m with rfl | rfl | rfl | rfl
          · exact flat_wd iw0
          · exact flat_wd iw0
          · exact ⟨.str _, .str (by decide +kernel)⟩
          · exact ⟨.int _, .int _⟩
    have R27 : RowsL n 27 (ds ++ [dx]) := rows_add R26 rx sx rfl
    have oL : OnlyL [aR] GB (upd GB aR (.lst (xs ++ [x]))) := fun b o e m => (upd_ne fun z => m (by rw [z]; exact List.mem_singleton_self _)).trans e
    have daC : DqAll (upd GB aR (.lst (xs ++ [x]))) xs ds L0 := daB.keep (keep1 oL hxB daB.there nL0)
    have qxC : Dq (upd GB aR (.lst (xs ++ [x]))) x dx [] := qx.keep (keep1 oL hxB qx.there fun m => nomatch m)
    have JC := JB.write oR ne8 (.lst (xs ++ [x]))
    have qC : Dq (upd GB aR (.lst (xs ++ [x]))) (.ref aR) (.list (ds ++ [dx])) (aR :: (L0 ++ [])) := .lst upd_same (daC.snoc qxC)
    refine ⟨aR, xs, x, rfl, rfl, hxB, small1000 (by omega), ?_⟩
    refine ⟨_, rfl, _, rfl, _, rfl, _, rfl, ?_⟩
    dsimp only [tNil, List.append_nil]
    refine built_of JC.I JC.F qC JC.B (by omega) (R27.up (by decide)) gw fun u2 GD sD du2 => ?_
    refine ⟨_, rfl, _, rfl, _, rfl, _, rfl, fs, ?_⟩
    dsimp only [tNil, List.append_nil]
    refine due_of (K := K) (JC.same sD).I (JC.same sD).F (qC.same sD) (JC.same sD).B (by omega) (R27.up (by decide)) (by omega) (by omega) fun v2 GE sE dv2 => ?_
    exact exact_due (Nat.le_trans R27.ln (by decide)) R27.sm (du2.same sE) dv2 (k _)
end
end TW
set_option Elab.async false
set_option linter.all false
set_option maxRecDepth 100000
namespace TW
open PySem PySem.Spec PyProof.Rows L2 TL
/-- an error of the class at S is what a clause that names S takes -/
theorem exm_self {K : PySem.W.Frag} {S : Addr} (h1 : PySem.W.subIn K (.ref S) (.type "BaseException") = some true) (h2 : PySem.W.isClsIn K S = true) (h3 : PySem.W.typeIn K (.ref S) = some (.type "type")) (h4 : PySem.W.subIn K (.ref S) (.ref S) = some true) :
    PySem.W.exmOne K (.ref S) (.ref S) = some true := by
  have e1 : (PySem.W.subIn K (.ref S) (.type "BaseException") == some true) = true := by rw [h1] <;> rfl
  have e2 : ((PySem.W.clsIn K S).isSome && PySem.W.typeIn K (.ref S) == some (.type "type")) = true := by
    have h2' : (PySem.W.clsIn K S).isSome = true := h2
    rw [h2', h3] <;> rfl
  show (if (PySem.W.subIn K (.ref S) (.type "BaseException") == some true) = true then (if ((PySem.W.clsIn K S).isSome && PySem.W.typeIn K (.ref S) == some (.type "type")) = true then PySem.W.subIn K (.ref S) (.ref S) else none) else none) = some true
  rw [if_pos e1, if_pos e2]
  exact h4
set_option maxHeartbeats 8000000 in
theorem all_mk {l : PySem.W.OpenLaw} {w : World} {K : PySem.W.Frag} {h : Heap} {mg : Str → Option Value} {fa C KD TE DF DK CP fJ cdP ccP DE c1 c2 c3 c4 c5 c6 f_is_integer f_is_between f_is_word f_is_one_of f_are_words f_are_fields f_has_form f_has_names f_is_right f_is_depth f_row_variables f_branches f_with_branches f_copied_rows f_copied_row f_placed_rows f_inner_rows f_checked_rows f_check_row f_all_variables f_check_many f_law_draw f_law_pick f_law_word f_law_words f_law_is_word f_law_shape f_law_is_good f_law_row_fault f_law_fault f_law_named f_law_built f_law_exact f_law_shuffled f_law_nested f_law_total f_law_due f_law m_init T_move T_none T_new T_look T_put T_copy T_watch T_same T_empty : Addr} (X : K.In h) (G : h.Ns mainGlobals mg) (hfa : mg "law" = some (.ref fa))
    {od_f_is_integer an_f_is_integer od_f_is_between an_f_is_between od_f_is_word an_f_is_word od_f_is_one_of an_f_is_one_of od_f_are_words an_f_are_words od_f_are_fields an_f_are_fields od_f_has_form an_f_has_form od_f_has_names an_f_has_names od_f_is_right an_f_is_right od_f_is_depth an_f_is_depth od_f_row_variables an_f_row_variables od_f_branches an_f_branches od_f_with_branches an_f_with_branches od_f_copied_rows an_f_copied_rows od_f_copied_row an_f_copied_row od_f_placed_rows an_f_placed_rows od_f_inner_rows an_f_inner_rows od_f_checked_rows an_f_checked_rows od_f_check_row an_f_check_row od_f_all_variables an_f_all_variables od_f_check_many an_f_check_many od_f_law_draw an_f_law_draw od_f_law_pick an_f_law_pick od_f_law_word an_f_law_word od_f_law_words an_f_law_words od_f_law_is_word an_f_law_is_word od_f_law_shape an_f_law_shape od_f_law_is_good an_f_law_is_good od_f_law_row_fault an_f_law_row_fault od_f_law_fault an_f_law_fault od_f_law_named an_f_law_named od_f_law_built an_f_law_built od_f_law_exact an_f_law_exact od_f_law_shuffled an_f_law_shuffled od_f_law_nested an_f_law_nested od_f_law_total an_f_law_total od_f_law_due an_f_law_due od_f_law an_f_law od_m_init an_m_init od_T_move od_T_none od_T_new od_T_look od_T_put od_T_copy od_T_watch od_T_same od_T_empty od_DK od_TE : Option Addr} {sl_f_is_integer sl_f_is_between sl_f_is_word sl_f_is_one_of sl_f_are_words sl_f_are_fields sl_f_has_form sl_f_has_names sl_f_is_right sl_f_is_depth sl_f_row_variables sl_f_branches sl_f_with_branches sl_f_copied_rows sl_f_copied_row sl_f_placed_rows sl_f_inner_rows sl_f_checked_rows sl_f_check_row sl_f_all_variables sl_f_check_many sl_f_law_draw sl_f_law_pick sl_f_law_word sl_f_law_words sl_f_law_is_word sl_f_law_shape sl_f_law_is_good sl_f_law_row_fault sl_f_law_fault sl_f_law_named sl_f_law_built sl_f_law_exact sl_f_law_shuffled sl_f_law_nested sl_f_law_total sl_f_law_due sl_f_law sl_m_init sl_T_move sl_T_none sl_T_new sl_T_look sl_T_put sl_T_copy sl_T_watch sl_T_same sl_T_empty sl_DK sl_TE : Array (Option Value)} {oc_f_is_integer kV_f_is_integer dc_f_is_integer pm_f_is_integer cd_f_is_integer ct_f_is_integer oc_f_is_between kV_f_is_between dc_f_is_between pm_f_is_between cd_f_is_between ct_f_is_between oc_f_is_word kV_f_is_word dc_f_is_word pm_f_is_word cd_f_is_word ct_f_is_word oc_f_is_one_of kV_f_is_one_of dc_f_is_one_of pm_f_is_one_of cd_f_is_one_of ct_f_is_one_of oc_f_are_words kV_f_are_words dc_f_are_words pm_f_are_words cd_f_are_words ct_f_are_words oc_f_are_fields kV_f_are_fields dc_f_are_fields pm_f_are_fields cd_f_are_fields ct_f_are_fields oc_f_has_form kV_f_has_form dc_f_has_form pm_f_has_form cd_f_has_form ct_f_has_form oc_f_has_names kV_f_has_names dc_f_has_names pm_f_has_names cd_f_has_names ct_f_has_names oc_f_is_right kV_f_is_right dc_f_is_right pm_f_is_right cd_f_is_right ct_f_is_right oc_f_is_depth kV_f_is_depth dc_f_is_depth pm_f_is_depth cd_f_is_depth ct_f_is_depth oc_f_row_variables kV_f_row_variables dc_f_row_variables pm_f_row_variables cd_f_row_variables ct_f_row_variables oc_f_branches kV_f_branches dc_f_branches pm_f_branches cd_f_branches ct_f_branches oc_f_with_branches kV_f_with_branches dc_f_with_branches pm_f_with_branches cd_f_with_branches ct_f_with_branches oc_f_copied_rows kV_f_copied_rows dc_f_copied_rows pm_f_copied_rows cd_f_copied_rows ct_f_copied_rows oc_f_copied_row kV_f_copied_row dc_f_copied_row pm_f_copied_row cd_f_copied_row ct_f_copied_row oc_f_placed_rows kV_f_placed_rows dc_f_placed_rows pm_f_placed_rows cd_f_placed_rows ct_f_placed_rows oc_f_inner_rows kV_f_inner_rows dc_f_inner_rows pm_f_inner_rows cd_f_inner_rows ct_f_inner_rows oc_f_checked_rows kV_f_checked_rows dc_f_checked_rows pm_f_checked_rows cd_f_checked_rows ct_f_checked_rows oc_f_check_row kV_f_check_row dc_f_check_row pm_f_check_row cd_f_check_row ct_f_check_row oc_f_all_variables kV_f_all_variables dc_f_all_variables pm_f_all_variables cd_f_all_variables ct_f_all_variables oc_f_check_many kV_f_check_many dc_f_check_many pm_f_check_many cd_f_check_many ct_f_check_many oc_f_law_draw kV_f_law_draw dc_f_law_draw pm_f_law_draw cd_f_law_draw ct_f_law_draw oc_f_law_pick kV_f_law_pick dc_f_law_pick pm_f_law_pick cd_f_law_pick ct_f_law_pick oc_f_law_word kV_f_law_word dc_f_law_word pm_f_law_word cd_f_law_word ct_f_law_word oc_f_law_words kV_f_law_words dc_f_law_words pm_f_law_words cd_f_law_words ct_f_law_words oc_f_law_is_word kV_f_law_is_word dc_f_law_is_word pm_f_law_is_word cd_f_law_is_word ct_f_law_is_word oc_f_law_shape kV_f_law_shape dc_f_law_shape pm_f_law_shape cd_f_law_shape ct_f_law_shape oc_f_law_is_good kV_f_law_is_good dc_f_law_is_good pm_f_law_is_good cd_f_law_is_good ct_f_law_is_good oc_f_law_row_fault kV_f_law_row_fault dc_f_law_row_fault pm_f_law_row_fault cd_f_law_row_fault ct_f_law_row_fault oc_f_law_fault kV_f_law_fault dc_f_law_fault pm_f_law_fault cd_f_law_fault ct_f_law_fault oc_f_law_named kV_f_law_named dc_f_law_named pm_f_law_named cd_f_law_named ct_f_law_named oc_f_law_built kV_f_law_built dc_f_law_built pm_f_law_built cd_f_law_built ct_f_law_built oc_f_law_exact kV_f_law_exact dc_f_law_exact pm_f_law_exact cd_f_law_exact ct_f_law_exact oc_f_law_shuffled kV_f_law_shuffled dc_f_law_shuffled pm_f_law_shuffled cd_f_law_shuffled ct_f_law_shuffled oc_f_law_nested kV_f_law_nested dc_f_law_nested pm_f_law_nested cd_f_law_nested ct_f_law_nested oc_f_law_total kV_f_law_total dc_f_law_total pm_f_law_total cd_f_law_total ct_f_law_total oc_f_law_due kV_f_law_due dc_f_law_due pm_f_law_due cd_f_law_due ct_f_law_due oc_f_law kV_f_law dc_f_law pm_f_law cd_f_law ct_f_law oc_m_init dc_m_init pm_m_init cd_m_init ct_m_init : Value} {n_T_move n_T_none n_T_new n_T_look n_T_put n_T_copy n_T_watch n_T_same n_T_empty n_DK n_TE : Nat}
    {t8 t2 tD tI tO tR tV tC tW tL t_move0 t_move1 t_none0 t_new0 t_look0 t_look1 t_look2 t_put0 t_put1 t_put2 t_copy0 t_copy1 t_copy2 t_copy3 t_watch0 t_watch1 t_watch2 t_same0 t_same1 t_same2 t_same3 t_empty0 t_empty1 t_empty2 t_K0 t_K1 : Tok}
    {nmP qP : Str} {NP : Addr} {bsP : List Value} {snP : List Str} {subP : List Value} {abP : Bool} {colP : Option Bool} {ddP : Option Addr} {m0P m1P m2P m3P m5P : Option Value} {cclP cllP : Value} {cddP cldP : Option Addr} {vsP : Array Value} {ccsP cslP : Array (Option Value)} {tfP : Tok} {od_eP an_eP : Option Addr} {sl_eP : Array (Option Value)} {oc_eP dc_eP pm_eP ct_eP : Value}
    (aC : PySem.W.nsIn K mainGlobals "Program" = some (some (.ref C)))
    (a_f_is_integer : PySem.W.nsIn K mainGlobals "is_integer" = some (some (.ref f_is_integer)))
    (l_f_is_integer : K.lookup f_is_integer = some ⟨oc_f_is_integer, od_f_is_integer, .func (PySem.W.fnOf "is_integer" "is_integer" (defArgs S_is_integer) (defBody S_is_integer) (defScope S_is_integer) .none kV_f_is_integer dc_f_is_integer pm_f_is_integer an_f_is_integer cd_f_is_integer ct_f_is_integer), sl_f_is_integer⟩)
    (c_f_is_integer : PySem.W.codeIn K cd_f_is_integer "is_integer" = true)
    (k_f_is_integer : PySem.W.keepIn K (.ref f_is_integer) = true)
    (a_f_is_between : PySem.W.nsIn K mainGlobals "is_between" = some (some (.ref f_is_between)))
    (l_f_is_between : K.lookup f_is_between = some ⟨oc_f_is_between, od_f_is_between, .func (PySem.W.fnOf "is_between" "is_between" (defArgs S_is_between) (defBody S_is_between) (defScope S_is_between) .none kV_f_is_between dc_f_is_between pm_f_is_between an_f_is_between cd_f_is_between ct_f_is_between), sl_f_is_between⟩)
    (c_f_is_between : PySem.W.codeIn K cd_f_is_between "is_between" = true)
    (k_f_is_between : PySem.W.keepIn K (.ref f_is_between) = true)
    (a_f_is_word : PySem.W.nsIn K mainGlobals "is_word" = some (some (.ref f_is_word)))
    (l_f_is_word : K.lookup f_is_word = some ⟨oc_f_is_word, od_f_is_word, .func (PySem.W.fnOf "is_word" "is_word" (defArgs S_is_word) (defBody S_is_word) (defScope S_is_word) .none kV_f_is_word dc_f_is_word pm_f_is_word an_f_is_word cd_f_is_word ct_f_is_word), sl_f_is_word⟩)
    (c_f_is_word : PySem.W.codeIn K cd_f_is_word "is_word" = true)
    (k_f_is_word : PySem.W.keepIn K (.ref f_is_word) = true)
    (a_f_is_one_of : PySem.W.nsIn K mainGlobals "is_one_of" = some (some (.ref f_is_one_of)))
    (l_f_is_one_of : K.lookup f_is_one_of = some ⟨oc_f_is_one_of, od_f_is_one_of, .func (PySem.W.fnOf "is_one_of" "is_one_of" (defArgs S_is_one_of) (defBody S_is_one_of) (defScope S_is_one_of) .none kV_f_is_one_of dc_f_is_one_of pm_f_is_one_of an_f_is_one_of cd_f_is_one_of ct_f_is_one_of), sl_f_is_one_of⟩)
    (c_f_is_one_of : PySem.W.codeIn K cd_f_is_one_of "is_one_of" = true)
    (k_f_is_one_of : PySem.W.keepIn K (.ref f_is_one_of) = true)
    (a_f_are_words : PySem.W.nsIn K mainGlobals "are_words" = some (some (.ref f_are_words)))
    (l_f_are_words : K.lookup f_are_words = some ⟨oc_f_are_words, od_f_are_words, .func (PySem.W.fnOf "are_words" "are_words" (defArgs S_are_words) (defBody S_are_words) (defScope S_are_words) .none kV_f_are_words dc_f_are_words pm_f_are_words an_f_are_words cd_f_are_words ct_f_are_words), sl_f_are_words⟩)
    (c_f_are_words : PySem.W.codeIn K cd_f_are_words "are_words" = true)
    (k_f_are_words : PySem.W.keepIn K (.ref f_are_words) = true)
    (a_f_are_fields : PySem.W.nsIn K mainGlobals "are_fields" = some (some (.ref f_are_fields)))
    (l_f_are_fields : K.lookup f_are_fields = some ⟨oc_f_are_fields, od_f_are_fields, .func (PySem.W.fnOf "are_fields" "are_fields" (defArgs S_are_fields) (defBody S_are_fields) (defScope S_are_fields) .none kV_f_are_fields dc_f_are_fields pm_f_are_fields an_f_are_fields cd_f_are_fields ct_f_are_fields), sl_f_are_fields⟩)
    (c_f_are_fields : PySem.W.codeIn K cd_f_are_fields "are_fields" = true)
    (k_f_are_fields : PySem.W.keepIn K (.ref f_are_fields) = true)
    (a_f_has_form : PySem.W.nsIn K mainGlobals "has_form" = some (some (.ref f_has_form)))
    (l_f_has_form : K.lookup f_has_form = some ⟨oc_f_has_form, od_f_has_form, .func (PySem.W.fnOf "has_form" "has_form" (defArgs S_has_form) (defBody S_has_form) (defScope S_has_form) .none kV_f_has_form dc_f_has_form pm_f_has_form an_f_has_form cd_f_has_form ct_f_has_form), sl_f_has_form⟩)
    (c_f_has_form : PySem.W.codeIn K cd_f_has_form "has_form" = true)
    (k_f_has_form : PySem.W.keepIn K (.ref f_has_form) = true)
    (a_f_has_names : PySem.W.nsIn K mainGlobals "has_names" = some (some (.ref f_has_names)))
    (l_f_has_names : K.lookup f_has_names = some ⟨oc_f_has_names, od_f_has_names, .func (PySem.W.fnOf "has_names" "has_names" (defArgs S_has_names) (defBody S_has_names) (defScope S_has_names) .none kV_f_has_names dc_f_has_names pm_f_has_names an_f_has_names cd_f_has_names ct_f_has_names), sl_f_has_names⟩)
    (c_f_has_names : PySem.W.codeIn K cd_f_has_names "has_names" = true)
    (k_f_has_names : PySem.W.keepIn K (.ref f_has_names) = true)
    (a_f_is_right : PySem.W.nsIn K mainGlobals "is_right" = some (some (.ref f_is_right)))
    (l_f_is_right : K.lookup f_is_right = some ⟨oc_f_is_right, od_f_is_right, .func (PySem.W.fnOf "is_right" "is_right" (defArgs S_is_right) (defBody S_is_right) (defScope S_is_right) .none kV_f_is_right dc_f_is_right pm_f_is_right an_f_is_right cd_f_is_right ct_f_is_right), sl_f_is_right⟩)
    (c_f_is_right : PySem.W.codeIn K cd_f_is_right "is_right" = true)
    (k_f_is_right : PySem.W.keepIn K (.ref f_is_right) = true)
    (a_f_is_depth : PySem.W.nsIn K mainGlobals "is_depth" = some (some (.ref f_is_depth)))
    (l_f_is_depth : K.lookup f_is_depth = some ⟨oc_f_is_depth, od_f_is_depth, .func (PySem.W.fnOf "is_depth" "is_depth" (defArgs S_is_depth) (defBody S_is_depth) (defScope S_is_depth) .none kV_f_is_depth dc_f_is_depth pm_f_is_depth an_f_is_depth cd_f_is_depth ct_f_is_depth), sl_f_is_depth⟩)
    (c_f_is_depth : PySem.W.codeIn K cd_f_is_depth "is_depth" = true)
    (k_f_is_depth : PySem.W.keepIn K (.ref f_is_depth) = true)
    (a_f_row_variables : PySem.W.nsIn K mainGlobals "row_variables" = some (some (.ref f_row_variables)))
    (l_f_row_variables : K.lookup f_row_variables = some ⟨oc_f_row_variables, od_f_row_variables, .func (PySem.W.fnOf "row_variables" "row_variables" (defArgs S_row_variables) (defBody S_row_variables) (defScope S_row_variables) .none kV_f_row_variables dc_f_row_variables pm_f_row_variables an_f_row_variables cd_f_row_variables ct_f_row_variables), sl_f_row_variables⟩)
    (c_f_row_variables : PySem.W.codeIn K cd_f_row_variables "row_variables" = true)
    (k_f_row_variables : PySem.W.keepIn K (.ref f_row_variables) = true)
    (a_f_branches : PySem.W.nsIn K mainGlobals "branches" = some (some (.ref f_branches)))
    (l_f_branches : K.lookup f_branches = some ⟨oc_f_branches, od_f_branches, .func (PySem.W.fnOf "branches" "branches" (defArgs S_branches) (defBody S_branches) (defScope S_branches) .none kV_f_branches dc_f_branches pm_f_branches an_f_branches cd_f_branches ct_f_branches), sl_f_branches⟩)
    (c_f_branches : PySem.W.codeIn K cd_f_branches "branches" = true)
    (k_f_branches : PySem.W.keepIn K (.ref f_branches) = true)
    (a_f_with_branches : PySem.W.nsIn K mainGlobals "with_branches" = some (some (.ref f_with_branches)))
    (l_f_with_branches : K.lookup f_with_branches = some ⟨oc_f_with_branches, od_f_with_branches, .func (PySem.W.fnOf "with_branches" "with_branches" (defArgs S_with_branches) (defBody S_with_branches) (defScope S_with_branches) .none kV_f_with_branches dc_f_with_branches pm_f_with_branches an_f_with_branches cd_f_with_branches ct_f_with_branches), sl_f_with_branches⟩)
    (c_f_with_branches : PySem.W.codeIn K cd_f_with_branches "with_branches" = true)
    (k_f_with_branches : PySem.W.keepIn K (.ref f_with_branches) = true)
    (a_f_copied_rows : PySem.W.nsIn K mainGlobals "copied_rows" = some (some (.ref f_copied_rows)))
    (l_f_copied_rows : K.lookup f_copied_rows = some ⟨oc_f_copied_rows, od_f_copied_rows, .func (PySem.W.fnOf "copied_rows" "copied_rows" (defArgs S_copied_rows) (defBody S_copied_rows) (defScope S_copied_rows) .none kV_f_copied_rows dc_f_copied_rows pm_f_copied_rows an_f_copied_rows cd_f_copied_rows ct_f_copied_rows), sl_f_copied_rows⟩)
    (c_f_copied_rows : PySem.W.codeIn K cd_f_copied_rows "copied_rows" = true)
    (k_f_copied_rows : PySem.W.keepIn K (.ref f_copied_rows) = true)
    (a_f_copied_row : PySem.W.nsIn K mainGlobals "copied_row" = some (some (.ref f_copied_row)))
    (l_f_copied_row : K.lookup f_copied_row = some ⟨oc_f_copied_row, od_f_copied_row, .func (PySem.W.fnOf "copied_row" "copied_row" (defArgs S_copied_row) (defBody S_copied_row) (defScope S_copied_row) .none kV_f_copied_row dc_f_copied_row pm_f_copied_row an_f_copied_row cd_f_copied_row ct_f_copied_row), sl_f_copied_row⟩)
    (c_f_copied_row : PySem.W.codeIn K cd_f_copied_row "copied_row" = true)
    (k_f_copied_row : PySem.W.keepIn K (.ref f_copied_row) = true)
    (a_f_placed_rows : PySem.W.nsIn K mainGlobals "placed_rows" = some (some (.ref f_placed_rows)))
    (l_f_placed_rows : K.lookup f_placed_rows = some ⟨oc_f_placed_rows, od_f_placed_rows, .func (PySem.W.fnOf "placed_rows" "placed_rows" (defArgs S_placed_rows) (defBody S_placed_rows) (defScope S_placed_rows) .none kV_f_placed_rows dc_f_placed_rows pm_f_placed_rows an_f_placed_rows cd_f_placed_rows ct_f_placed_rows), sl_f_placed_rows⟩)
    (c_f_placed_rows : PySem.W.codeIn K cd_f_placed_rows "placed_rows" = true)
    (k_f_placed_rows : PySem.W.keepIn K (.ref f_placed_rows) = true)
    (a_f_inner_rows : PySem.W.nsIn K mainGlobals "inner_rows" = some (some (.ref f_inner_rows)))
    (l_f_inner_rows : K.lookup f_inner_rows = some ⟨oc_f_inner_rows, od_f_inner_rows, .func (PySem.W.fnOf "inner_rows" "inner_rows" (defArgs S_inner_rows) (defBody S_inner_rows) (defScope S_inner_rows) .none kV_f_inner_rows dc_f_inner_rows pm_f_inner_rows an_f_inner_rows cd_f_inner_rows ct_f_inner_rows), sl_f_inner_rows⟩)
    (c_f_inner_rows : PySem.W.codeIn K cd_f_inner_rows "inner_rows" = true)
    (k_f_inner_rows : PySem.W.keepIn K (.ref f_inner_rows) = true)
    (a_f_checked_rows : PySem.W.nsIn K mainGlobals "checked_rows" = some (some (.ref f_checked_rows)))
    (l_f_checked_rows : K.lookup f_checked_rows = some ⟨oc_f_checked_rows, od_f_checked_rows, .func (PySem.W.fnOf "checked_rows" "checked_rows" (defArgs S_checked_rows) (defBody S_checked_rows) (defScope S_checked_rows) .none kV_f_checked_rows dc_f_checked_rows pm_f_checked_rows an_f_checked_rows cd_f_checked_rows ct_f_checked_rows), sl_f_checked_rows⟩)
    (c_f_checked_rows : PySem.W.codeIn K cd_f_checked_rows "checked_rows" = true)
    (k_f_checked_rows : PySem.W.keepIn K (.ref f_checked_rows) = true)
    (a_f_check_row : PySem.W.nsIn K mainGlobals "check_row" = some (some (.ref f_check_row)))
    (l_f_check_row : K.lookup f_check_row = some ⟨oc_f_check_row, od_f_check_row, .func (PySem.W.fnOf "check_row" "check_row" (defArgs S_check_row) (defBody S_check_row) (defScope S_check_row) .none kV_f_check_row dc_f_check_row pm_f_check_row an_f_check_row cd_f_check_row ct_f_check_row), sl_f_check_row⟩)
    (c_f_check_row : PySem.W.codeIn K cd_f_check_row "check_row" = true)
    (k_f_check_row : PySem.W.keepIn K (.ref f_check_row) = true)
    (a_f_all_variables : PySem.W.nsIn K mainGlobals "all_variables" = some (some (.ref f_all_variables)))
    (l_f_all_variables : K.lookup f_all_variables = some ⟨oc_f_all_variables, od_f_all_variables, .func (PySem.W.fnOf "all_variables" "all_variables" (defArgs S_all_variables) (defBody S_all_variables) (defScope S_all_variables) .none kV_f_all_variables dc_f_all_variables pm_f_all_variables an_f_all_variables cd_f_all_variables ct_f_all_variables), sl_f_all_variables⟩)
    (c_f_all_variables : PySem.W.codeIn K cd_f_all_variables "all_variables" = true)
    (k_f_all_variables : PySem.W.keepIn K (.ref f_all_variables) = true)
    (a_f_check_many : PySem.W.nsIn K mainGlobals "check_many" = some (some (.ref f_check_many)))
    (l_f_check_many : K.lookup f_check_many = some ⟨oc_f_check_many, od_f_check_many, .func (PySem.W.fnOf "check_many" "check_many" (defArgs S_check_many) (defBody S_check_many) (defScope S_check_many) .none kV_f_check_many dc_f_check_many pm_f_check_many an_f_check_many cd_f_check_many ct_f_check_many), sl_f_check_many⟩)
    (c_f_check_many : PySem.W.codeIn K cd_f_check_many "check_many" = true)
    (k_f_check_many : PySem.W.keepIn K (.ref f_check_many) = true)
    (a_f_law_draw : PySem.W.nsIn K mainGlobals "_law_draw" = some (some (.ref f_law_draw)))
    (l_f_law_draw : K.lookup f_law_draw = some ⟨oc_f_law_draw, od_f_law_draw, .func (PySem.W.fnOf "_law_draw" "_law_draw" (defArgs S_law_draw) (defBody S_law_draw) (defScope S_law_draw) .none kV_f_law_draw dc_f_law_draw pm_f_law_draw an_f_law_draw cd_f_law_draw ct_f_law_draw), sl_f_law_draw⟩)
    (c_f_law_draw : PySem.W.codeIn K cd_f_law_draw "_law_draw" = true)
    (k_f_law_draw : PySem.W.keepIn K (.ref f_law_draw) = true)
    (a_f_law_pick : PySem.W.nsIn K mainGlobals "_law_pick" = some (some (.ref f_law_pick)))
    (l_f_law_pick : K.lookup f_law_pick = some ⟨oc_f_law_pick, od_f_law_pick, .func (PySem.W.fnOf "_law_pick" "_law_pick" (defArgs S_law_pick) (defBody S_law_pick) (defScope S_law_pick) .none kV_f_law_pick dc_f_law_pick pm_f_law_pick an_f_law_pick cd_f_law_pick ct_f_law_pick), sl_f_law_pick⟩)
    (c_f_law_pick : PySem.W.codeIn K cd_f_law_pick "_law_pick" = true)
    (k_f_law_pick : PySem.W.keepIn K (.ref f_law_pick) = true)
    (a_f_law_word : PySem.W.nsIn K mainGlobals "_law_word" = some (some (.ref f_law_word)))
    (l_f_law_word : K.lookup f_law_word = some ⟨oc_f_law_word, od_f_law_word, .func (PySem.W.fnOf "_law_word" "_law_word" (defArgs S_law_word) (defBody S_law_word) (defScope S_law_word) .none kV_f_law_word dc_f_law_word pm_f_law_word an_f_law_word cd_f_law_word ct_f_law_word), sl_f_law_word⟩)
    (c_f_law_word : PySem.W.codeIn K cd_f_law_word "_law_word" = true)
    (k_f_law_word : PySem.W.keepIn K (.ref f_law_word) = true)
    (a_f_law_words : PySem.W.nsIn K mainGlobals "_law_words" = some (some (.ref f_law_words)))
    (l_f_law_words : K.lookup f_law_words = some ⟨oc_f_law_words, od_f_law_words, .func (PySem.W.fnOf "_law_words" "_law_words" (defArgs S_law_words) (defBody S_law_words) (defScope S_law_words) .none kV_f_law_words dc_f_law_words pm_f_law_words an_f_law_words cd_f_law_words ct_f_law_words), sl_f_law_words⟩)
    (c_f_law_words : PySem.W.codeIn K cd_f_law_words "_law_words" = true)
    (k_f_law_words : PySem.W.keepIn K (.ref f_law_words) = true)
    (a_f_law_is_word : PySem.W.nsIn K mainGlobals "_law_is_word" = some (some (.ref f_law_is_word)))
    (l_f_law_is_word : K.lookup f_law_is_word = some ⟨oc_f_law_is_word, od_f_law_is_word, .func (PySem.W.fnOf "_law_is_word" "_law_is_word" (defArgs S_law_is_word) (defBody S_law_is_word) (defScope S_law_is_word) .none kV_f_law_is_word dc_f_law_is_word pm_f_law_is_word an_f_law_is_word cd_f_law_is_word ct_f_law_is_word), sl_f_law_is_word⟩)
    (c_f_law_is_word : PySem.W.codeIn K cd_f_law_is_word "_law_is_word" = true)
    (k_f_law_is_word : PySem.W.keepIn K (.ref f_law_is_word) = true)
    (a_f_law_shape : PySem.W.nsIn K mainGlobals "_law_shape" = some (some (.ref f_law_shape)))
    (l_f_law_shape : K.lookup f_law_shape = some ⟨oc_f_law_shape, od_f_law_shape, .func (PySem.W.fnOf "_law_shape" "_law_shape" (defArgs S_law_shape) (defBody S_law_shape) (defScope S_law_shape) .none kV_f_law_shape dc_f_law_shape pm_f_law_shape an_f_law_shape cd_f_law_shape ct_f_law_shape), sl_f_law_shape⟩)
    (c_f_law_shape : PySem.W.codeIn K cd_f_law_shape "_law_shape" = true)
    (k_f_law_shape : PySem.W.keepIn K (.ref f_law_shape) = true)
    (a_f_law_is_good : PySem.W.nsIn K mainGlobals "_law_is_good" = some (some (.ref f_law_is_good)))
    (l_f_law_is_good : K.lookup f_law_is_good = some ⟨oc_f_law_is_good, od_f_law_is_good, .func (PySem.W.fnOf "_law_is_good" "_law_is_good" (defArgs S_law_is_good) (defBody S_law_is_good) (defScope S_law_is_good) .none kV_f_law_is_good dc_f_law_is_good pm_f_law_is_good an_f_law_is_good cd_f_law_is_good ct_f_law_is_good), sl_f_law_is_good⟩)
    (c_f_law_is_good : PySem.W.codeIn K cd_f_law_is_good "_law_is_good" = true)
    (k_f_law_is_good : PySem.W.keepIn K (.ref f_law_is_good) = true)
    (a_f_law_row_fault : PySem.W.nsIn K mainGlobals "_law_row_fault" = some (some (.ref f_law_row_fault)))
    (l_f_law_row_fault : K.lookup f_law_row_fault = some ⟨oc_f_law_row_fault, od_f_law_row_fault, .func (PySem.W.fnOf "_law_row_fault" "_law_row_fault" (defArgs S_law_row_fault) (defBody S_law_row_fault) (defScope S_law_row_fault) .none kV_f_law_row_fault dc_f_law_row_fault pm_f_law_row_fault an_f_law_row_fault cd_f_law_row_fault ct_f_law_row_fault), sl_f_law_row_fault⟩)
    (c_f_law_row_fault : PySem.W.codeIn K cd_f_law_row_fault "_law_row_fault" = true)
    (k_f_law_row_fault : PySem.W.keepIn K (.ref f_law_row_fault) = true)
    (a_f_law_fault : PySem.W.nsIn K mainGlobals "_law_fault" = some (some (.ref f_law_fault)))
    (l_f_law_fault : K.lookup f_law_fault = some ⟨oc_f_law_fault, od_f_law_fault, .func (PySem.W.fnOf "_law_fault" "_law_fault" (defArgs S_law_fault) (defBody S_law_fault) (defScope S_law_fault) .none kV_f_law_fault dc_f_law_fault pm_f_law_fault an_f_law_fault cd_f_law_fault ct_f_law_fault), sl_f_law_fault⟩)
    (c_f_law_fault : PySem.W.codeIn K cd_f_law_fault "_law_fault" = true)
    (k_f_law_fault : PySem.W.keepIn K (.ref f_law_fault) = true)
    (a_f_law_named : PySem.W.nsIn K mainGlobals "_law_named" = some (some (.ref f_law_named)))
    (l_f_law_named : K.lookup f_law_named = some ⟨oc_f_law_named, od_f_law_named, .func (PySem.W.fnOf "_law_named" "_law_named" (defArgs S_law_named) (defBody S_law_named) (defScope S_law_named) .none kV_f_law_named dc_f_law_named pm_f_law_named an_f_law_named cd_f_law_named ct_f_law_named), sl_f_law_named⟩)
    (c_f_law_named : PySem.W.codeIn K cd_f_law_named "_law_named" = true)
    (k_f_law_named : PySem.W.keepIn K (.ref f_law_named) = true)
    (a_f_law_built : PySem.W.nsIn K mainGlobals "_law_built" = some (some (.ref f_law_built)))
    (l_f_law_built : K.lookup f_law_built = some ⟨oc_f_law_built, od_f_law_built, .func (PySem.W.fnOf "_law_built" "_law_built" (defArgs S_law_built) (defBody S_law_built) (defScope S_law_built) .none kV_f_law_built dc_f_law_built pm_f_law_built an_f_law_built cd_f_law_built ct_f_law_built), sl_f_law_built⟩)
    (c_f_law_built : PySem.W.codeIn K cd_f_law_built "_law_built" = true)
    (k_f_law_built : PySem.W.keepIn K (.ref f_law_built) = true)
    (a_f_law_exact : PySem.W.nsIn K mainGlobals "_law_exact" = some (some (.ref f_law_exact)))
    (l_f_law_exact : K.lookup f_law_exact = some ⟨oc_f_law_exact, od_f_law_exact, .func (PySem.W.fnOf "_law_exact" "_law_exact" (defArgs S_law_exact) (defBody S_law_exact) (defScope S_law_exact) .none kV_f_law_exact dc_f_law_exact pm_f_law_exact an_f_law_exact cd_f_law_exact ct_f_law_exact), sl_f_law_exact⟩)
    (c_f_law_exact : PySem.W.codeIn K cd_f_law_exact "_law_exact" = true)
    (k_f_law_exact : PySem.W.keepIn K (.ref f_law_exact) = true)
    (a_f_law_shuffled : PySem.W.nsIn K mainGlobals "_law_shuffled" = some (some (.ref f_law_shuffled)))
    (l_f_law_shuffled : K.lookup f_law_shuffled = some ⟨oc_f_law_shuffled, od_f_law_shuffled, .func (PySem.W.fnOf "_law_shuffled" "_law_shuffled" (defArgs S_law_shuffled) (defBody S_law_shuffled) (defScope S_law_shuffled) .none kV_f_law_shuffled dc_f_law_shuffled pm_f_law_shuffled an_f_law_shuffled cd_f_law_shuffled ct_f_law_shuffled), sl_f_law_shuffled⟩)
    (c_f_law_shuffled : PySem.W.codeIn K cd_f_law_shuffled "_law_shuffled" = true)
    (k_f_law_shuffled : PySem.W.keepIn K (.ref f_law_shuffled) = true)
    (a_f_law_nested : PySem.W.nsIn K mainGlobals "_law_nested" = some (some (.ref f_law_nested)))
    (l_f_law_nested : K.lookup f_law_nested = some ⟨oc_f_law_nested, od_f_law_nested, .func (PySem.W.fnOf "_law_nested" "_law_nested" (defArgs S_law_nested) (defBody S_law_nested) (defScope S_law_nested) .none kV_f_law_nested dc_f_law_nested pm_f_law_nested an_f_law_nested cd_f_law_nested ct_f_law_nested), sl_f_law_nested⟩)
    (c_f_law_nested : PySem.W.codeIn K cd_f_law_nested "_law_nested" = true)
    (k_f_law_nested : PySem.W.keepIn K (.ref f_law_nested) = true)
    (a_f_law_total : PySem.W.nsIn K mainGlobals "_law_total" = some (some (.ref f_law_total)))
    (l_f_law_total : K.lookup f_law_total = some ⟨oc_f_law_total, od_f_law_total, .func (PySem.W.fnOf "_law_total" "_law_total" (defArgs S_law_total) (defBody S_law_total) (defScope S_law_total) .none kV_f_law_total dc_f_law_total pm_f_law_total an_f_law_total cd_f_law_total ct_f_law_total), sl_f_law_total⟩)
    (c_f_law_total : PySem.W.codeIn K cd_f_law_total "_law_total" = true)
    (k_f_law_total : PySem.W.keepIn K (.ref f_law_total) = true)
    (a_f_law_due : PySem.W.nsIn K mainGlobals "_law_due" = some (some (.ref f_law_due)))
    (l_f_law_due : K.lookup f_law_due = some ⟨oc_f_law_due, od_f_law_due, .func (PySem.W.fnOf "_law_due" "_law_due" (defArgs S_law_due) (defBody S_law_due) (defScope S_law_due) .none kV_f_law_due dc_f_law_due pm_f_law_due an_f_law_due cd_f_law_due ct_f_law_due), sl_f_law_due⟩)
    (c_f_law_due : PySem.W.codeIn K cd_f_law_due "_law_due" = true)
    (k_f_law_due : PySem.W.keepIn K (.ref f_law_due) = true)
    (a_f_law : PySem.W.nsIn K mainGlobals "law" = some (some (.ref f_law)))
    (l_f_law : K.lookup f_law = some ⟨oc_f_law, od_f_law, .func (PySem.W.fnOf "law" "law" (defArgs S_law) (defBody S_law) (defScope S_law) .none kV_f_law dc_f_law pm_f_law an_f_law cd_f_law ct_f_law), sl_f_law⟩)
    (c_f_law : PySem.W.codeIn K cd_f_law "law" = true)
    (k_f_law : PySem.W.keepIn K (.ref f_law) = true)
    (a_m_init : PySem.W.findIn K (.ref C) "__init__" = some (some (.ref m_init)))
    (i_m_init : PySem.W.isFn K (.ref m_init) = true)
    (l_m_init : K.lookup m_init = some ⟨oc_m_init, od_m_init, .func (PySem.W.fnOf "__init__" "Program.__init__" (defArgs S_Program___init__) (defBody S_Program___init__) (defScope S_Program___init__) .none (.ref KD) dc_m_init pm_m_init an_m_init cd_m_init ct_m_init), sl_m_init⟩)
    (c_m_init : PySem.W.codeIn K cd_m_init "Program.__init__" = true)
    (k_m_init : PySem.W.keepIn K (.ref m_init) = true)
    (pg : PySem.W.plainGet K C Str.empty = true)
    (hd : PySem.W.hasDictIn K C = true)
    (po : PySem.W.plainOver K C = true)
    (sa : PySem.W.findIn K (.ref C) "__setattr__" = some (some (.builtin "object.__setattr__")))
    (mk : PySem.W.makesIn K C = true)
    (kc : PySem.W.keepIn K (.ref C) = true)
    (nI : PySem.W.findIn K (.ref C) "inputs" = some none)
    (nF : PySem.W.findIn K (.ref C) "fields" = some none)
    (nO : PySem.W.findIn K (.ref C) "outputs" = some none)
    (nR : PySem.W.findIn K (.ref C) "_rows" = some none)
    (nT : PySem.W.findIn K (.ref C) "_table" = some none)
    (nV : PySem.W.findIn K (.ref C) "_variables" = some none)
    (z_len : PySem.W.nsIn K mainGlobals "len" = some none)
    (z_int : PySem.W.nsIn K mainGlobals "int" = some none)
    (z_list : PySem.W.nsIn K mainGlobals "list" = some none)
    (z_tuple : PySem.W.nsIn K mainGlobals "tuple" = some none)
    (z_dict : PySem.W.nsIn K mainGlobals "dict" = some none)
    (z_set : PySem.W.nsIn K mainGlobals "set" = some none)
    (z_all : PySem.W.nsIn K mainGlobals "all" = some none)
    (z_range : PySem.W.nsIn K mainGlobals "range" = some none)
    (z_enumerate : PySem.W.nsIn K mainGlobals "enumerate" = some none)
    (z_sorted : PySem.W.nsIn K mainGlobals "sorted" = some none)
    (z_min : PySem.W.nsIn K mainGlobals "min" = some none)
    (z_isinstance : PySem.W.nsIn K mainGlobals "isinstance" = some none)
    (z_bool : PySem.W.nsIn K mainGlobals "bool" = some none)
    (z_str : PySem.W.nsIn K mainGlobals "str" = some none)
    (z_zip : PySem.W.nsIn K mainGlobals "zip" = some none)
    (z_ValueError : PySem.W.nsIn K mainGlobals "ValueError" = some none)
    (z_super : PySem.W.nsIn K mainGlobals "super" = some none)
    (z_repr : PySem.W.nsIn K mainGlobals "repr" = some none)
    (v_MOST_LETTERS : PySem.W.nsIn K mainGlobals "MOST_LETTERS" = some (some (.int 8 t8)))
    (v_MOST_FIELDS : PySem.W.nsIn K mainGlobals "MOST_FIELDS" = some (some (.int 2 t2)))
    (v_MOST_DEPTH : PySem.W.nsIn K mainGlobals "MOST_DEPTH" = some (some (.int 4 tD)))
    (v_MOST_INPUTS : PySem.W.nsIn K mainGlobals "MOST_INPUTS" = some (some (.int 3 tI)))
    (v_MOST_OUTPUTS : PySem.W.nsIn K mainGlobals "MOST_OUTPUTS" = some (some (.int 3 tO)))
    (v_MOST_ROWS : PySem.W.nsIn K mainGlobals "MOST_ROWS" = some (some (.int 20 tR)))
    (v_MOST_VARIABLES : PySem.W.nsIn K mainGlobals "MOST_VARIABLES" = some (some (.int 6 tV)))
    (v_MOST_COPIES : PySem.W.nsIn K mainGlobals "MOST_COPIES" = some (some (.int 4 tC)))
    (v_MOST_WATCHES : PySem.W.nsIn K mainGlobals "MOST_WATCHES" = some (some (.int 3 tW)))
    (v_LONGEST_PLACE : PySem.W.nsIn K mainGlobals "LONGEST_PLACE" = some (some (.int 7 tL)))
    (kD : PySem.W.nsIn K KD "outputs" = some (some (.ref TE)))
    (lt_TE : K.lookup TE = some ⟨.type "tuple", od_TE, .seq #[] n_TE, sl_TE⟩)
    (aFM : PySem.W.nsIn K mainGlobals "FORMS" = some (some (.ref DF)))
    (dFM : He.dicW K DF = some (He.keysIn w.params ["move", "none", "new", "look", "put", "copy", "watch", "same", "empty"]))
    (f_at_move : PySem.W.nsIn K DF "move" = some (some (.ref T_move)))
    (lt_T_move : K.lookup T_move = some ⟨.type "tuple", od_T_move, .seq #[.str "variable" t_move0, .str "variable" t_move1] n_T_move, sl_T_move⟩)
    (f_at_none : PySem.W.nsIn K DF "none" = some (some (.ref T_none)))
    (lt_T_none : K.lookup T_none = some ⟨.type "tuple", od_T_none, .seq #[.str "variable" t_none0] n_T_none, sl_T_none⟩)
    (f_at_new : PySem.W.nsIn K DF "new" = some (some (.ref T_new)))
    (lt_T_new : K.lookup T_new = some ⟨.type "tuple", od_T_new, .seq #[.str "variable" t_new0] n_T_new, sl_T_new⟩)
    (f_at_look : PySem.W.nsIn K DF "look" = some (some (.ref T_look)))
    (lt_T_look : K.lookup T_look = some ⟨.type "tuple", od_T_look, .seq #[.str "variable" t_look0, .str "variable" t_look1, .str "field" t_look2] n_T_look, sl_T_look⟩)
    (f_at_put : PySem.W.nsIn K DF "put" = some (some (.ref T_put)))
    (lt_T_put : K.lookup T_put = some ⟨.type "tuple", od_T_put, .seq #[.str "variable" t_put0, .str "field" t_put1, .str "variable" t_put2] n_T_put, sl_T_put⟩)
    (f_at_copy : PySem.W.nsIn K DF "copy" = some (some (.ref T_copy)))
    (lt_T_copy : K.lookup T_copy = some ⟨.type "tuple", od_T_copy, .seq #[.str "variable" t_copy0, .str "variable" t_copy1, .str "kind" t_copy2, .str "depth" t_copy3] n_T_copy, sl_T_copy⟩)
    (f_at_watch : PySem.W.nsIn K DF "watch" = some (some (.ref T_watch)))
    (lt_T_watch : K.lookup T_watch = some ⟨.type "tuple", od_T_watch, .seq #[.str "reader" t_watch0, .str "variable" t_watch1, .str "depth" t_watch2] n_T_watch, sl_T_watch⟩)
    (f_at_same : PySem.W.nsIn K DF "same" = some (some (.ref T_same)))
    (lt_T_same : K.lookup T_same = some ⟨.type "tuple", od_T_same, .seq #[.str "variable" t_same0, .str "variable" t_same1, .str "rows" t_same2, .str "rows" t_same3] n_T_same, sl_T_same⟩)
    (f_at_empty : PySem.W.nsIn K DF "empty" = some (some (.ref T_empty)))
    (lt_T_empty : K.lookup T_empty = some ⟨.type "tuple", od_T_empty, .seq #[.str "variable" t_empty0, .str "rows" t_empty1, .str "rows" t_empty2] n_T_empty, sl_T_empty⟩)
    (z_max : PySem.W.nsIn K mainGlobals "max" = some none)
    (c_ha : PySem.W.findIn K (.ref C) "__class__" = some (some (.builtin "object.__class__")))
    (c_hn : PySem.W.specialIn K (.builtin "object.__class__") "__get__" = some (some (.builtin "getset_descriptor.__get__")))
    (c_ht : PySem.W.takesIn K (.builtin "object.__class__") = some true)
    (c_hm : PySem.W.mroIn K C (.type "object") = some true)
    (aKI : PySem.W.nsIn K mainGlobals "KINDS" = some (some (.ref DK)))
    (lt_DK : K.lookup DK = some ⟨.type "tuple", od_DK, .seq #[.str "freeze" t_K0, .str "thaw" t_K1] n_DK, sl_DK⟩)
    (aP : PySem.W.nsIn K mainGlobals "InvalidProgram" = some (some (.ref CP)))
    (xLP : K.lookup CP = some (excClassObj nmP qP CP NP bsP [.ref DE, .type "ValueError", .type "Exception", .type "BaseException", .type "object"] true snP subP abP colP ddP m0P m1P m2P m3P m5P "ValueError.__new__"))
    (esaP : PySem.W.findIn K (.ref CP) "__setattr__" = some (some (.builtin "object.__setattr__")))
    (egaP : PySem.W.findIn K (.ref CP) "__getattribute__" = some (some (.builtin "BaseException.__getattribute__")))
    (eggP : PySem.W.findIn K (.ref CP) "__getattr__" = some none)
    (enbP : PySem.W.findIn K (.ref CP) "part" = some none)
    (enmP : PySem.W.findIn K (.ref CP) "place" = some none)
    (eIP : PySem.W.findIn K (.ref CP) "__init__" = some (some (.ref fJ)))
    (etIP : PySem.W.typeIn K (.ref fJ) = some (.type "function"))
    (l_eP : K.lookup fJ = some ⟨oc_eP, od_eP, .func (PySem.W.ksFn "__init__" "InvalidProgram.__init__" (PySem.ErrW.eArgs2 ⟨15, 17, 15, 21⟩ ⟨15, 23, 15, 27⟩ ⟨15, 29, 15, 34⟩) (PySem.ErrW.eBody2 "no program: " " at " ⟨16, 8, 16, 13⟩ ⟨16, 8, 16, 15⟩ ⟨16, 8, 16, 24⟩ ⟨16, 27, 16, 39⟩ ⟨16, 40, 16, 44⟩ ⟨16, 39, 16, 45⟩ ⟨16, 45, 16, 49⟩ ⟨16, 50, 16, 55⟩ ⟨16, 49, 16, 56⟩ ⟨16, 25, 16, 57⟩ ⟨16, 8, 16, 58⟩ ⟨16, 8, 16, 58⟩ ⟨17, 8, 17, 12⟩ ⟨17, 8, 17, 17⟩ ⟨17, 20, 17, 24⟩ ⟨17, 8, 17, 24⟩ ⟨18, 8, 18, 12⟩ ⟨18, 8, 18, 18⟩ ⟨18, 21, 18, 26⟩ ⟨18, 8, 18, 26⟩) PySem.ErrW.eScope2 .none .none dc_eP pm_eP an_eP (.ref cdP) ct_eP ccP), sl_eP⟩)
    (c_eP : PySem.W.codeIn K (.ref cdP) "InvalidProgram.__init__" = true)
    (l_cdP : K.lookup cdP = some ⟨cclP, cddP, .fields vsP, ccsP⟩)
    (e_vsP : vsP[2]? = some (.str "/claim/cut.py" tfP))
    (l_ccP : K.lookup ccP = some ⟨cllP, cldP, .cell (some (.ref CP)), cslP⟩)
    (ekCP : PySem.W.keepIn K (.ref CP) = true)
    (eCP : PySem.W.subIn K (.ref CP) (.type "BaseException") = some true)
    (veCP : PySem.W.subIn K (.ref CP) (.type "ValueError") = some true)
    (tCP : PySem.W.typeIn K (.ref CP) = some (.type "type"))
    (hCP : PySem.W.hasDictIn K CP = true)
    (iCP : PySem.W.isClsIn K CP = true)
    (sCP : PySem.W.subIn K (.ref CP) (.ref CP) = some true)
    (opq : PySem.W.nsIn K cStatics "thirdparty.any" = some none)
    (htop : (l.prog.main.scope.names.lookup ("super" : Str)).isSome = false)
    (hfile : ((l.prog.main.file : Str) == ("/claim/cut.py" : Str)) = true)
    (supP : PySem.W.ks_superIn K CP CP "__init__" = some (some (.builtin "ValueError.__init__")))
    (smrP : PySem.W.mroIn K CP (.ref CP) = some true)
    (x_aD : PySem.W.nsIn K mainGlobals "ThawError" = some (some (.ref DE)))
    (x_a1 : PySem.W.nsIn K mainGlobals "InvalidHeap" = some (some (.ref c1)))
    (x_a2 : PySem.W.nsIn K mainGlobals "InvalidFacts" = some (some (.ref c2)))
    (x_a3 : PySem.W.nsIn K mainGlobals "InvalidArgument" = some (some (.ref c3)))
    (x_a4 : PySem.W.nsIn K mainGlobals "InvalidText" = some (some (.ref c4)))
    (x_a5 : PySem.W.nsIn K mainGlobals "LimitExceeded" = some (some (.ref c5)))
    (x_a6 : PySem.W.nsIn K mainGlobals "RunError" = some (some (.ref c6)))
    (x_kD : PySem.W.kitOne K (.ref CP) (.ref DE) = some true)
    (x_kV : PySem.W.kitOne K (.ref CP) (.type "ValueError") = some true)
    (x_k6 : PySem.W.kitAny K (.ref CP) [.ref c1, .ref c2, .ref c3, .ref c4, .ref c5, .ref c6] = some false)
    (x_ha : PySem.W.findIn K (.ref CP) "__class__" = some (some (.builtin "object.__class__")))
    (x_hm : PySem.W.mroIn K CP (.type "object") = some true) :
    ∃ fd : FuncData, (∀ (s : Shared) (v : Value), BindsTo s fd ⟨[v], []⟩ [("_law_script", v)]) ∧ ∀ base : Heap, K.In base → base.Ns mainGlobals mg → FnG l.prog w K mg base CX0 14 fa fd ["_law_script"] (spLaw K) := by
  have e := hfa.symm.trans (PySem.W.mg_of X G a_f_law)
  cases e
  have B : Bl mg := ⟨PySem.W.mg_none_of X G z_len, PySem.W.mg_none_of X G z_int, PySem.W.mg_none_of X G z_list, PySem.W.mg_none_of X G z_tuple, PySem.W.mg_none_of X G z_dict, PySem.W.mg_none_of X G z_set, PySem.W.mg_none_of X G z_all, PySem.W.mg_none_of X G z_range, PySem.W.mg_none_of X G z_enumerate, PySem.W.mg_none_of X G z_sorted, PySem.W.mg_none_of X G z_min, PySem.W.mg_none_of X G z_isinstance, PySem.W.mg_none_of X G z_bool, PySem.W.mg_none_of X G z_str, PySem.W.mg_none_of X G z_zip, PySem.W.mg_none_of X G z_ValueError, PySem.W.mg_none_of X G z_super, PySem.W.mg_none_of X G z_repr⟩
  have T0 : HCP K mg C := ⟨⟨pg, hd, po, sa⟩, nI, nF, nO, nR, nT, nV, PySem.W.mg_of X G aC⟩
  have q_T_move : ∀ H, SqT K H T_move (((["variable", "variable"] : List Str)).map V.str) := fun H => .inr ⟨_, _, _, lt_T_move, rfl, rfl, by show 2 ≤ sizeLine; decide, .cons ⟨_, rfl⟩ (.cons ⟨_, rfl⟩ .nil)⟩
  have q_T_none : ∀ H, SqT K H T_none (((["variable"] : List Str)).map V.str) := fun H => .inr ⟨_, _, _, lt_T_none, rfl, rfl, by show 1 ≤ sizeLine; decide, .cons ⟨_, rfl⟩ .nil⟩
  have q_T_new : ∀ H, SqT K H T_new (((["variable"] : List Str)).map V.str) := fun H => .inr ⟨_, _, _, lt_T_new, rfl, rfl, by show 1 ≤ sizeLine; decide, .cons ⟨_, rfl⟩ .nil⟩
  have q_T_look : ∀ H, SqT K H T_look (((["variable", "variable", "field"] : List Str)).map V.str) := fun H => .inr ⟨_, _, _, lt_T_look, rfl, rfl, by show 3 ≤ sizeLine; decide, .cons ⟨_, rfl⟩ (.cons ⟨_, rfl⟩ (.cons ⟨_, rfl⟩ .nil))⟩
  have q_T_put : ∀ H, SqT K H T_put (((["variable", "field", "variable"] : List Str)).map V.str) := fun H => .inr ⟨_, _, _, lt_T_put, rfl, rfl, by show 3 ≤ sizeLine; decide, .cons ⟨_, rfl⟩ (.cons ⟨_, rfl⟩ (.cons ⟨_, rfl⟩ .nil))⟩
  have q_T_copy : ∀ H, SqT K H T_copy (((["variable", "variable", "kind", "depth"] : List Str)).map V.str) := fun H => .inr ⟨_, _, _, lt_T_copy, rfl, rfl, by show 4 ≤ sizeLine; decide, .cons ⟨_, rfl⟩ (.cons ⟨_, rfl⟩ (.cons ⟨_, rfl⟩ (.cons ⟨_, rfl⟩ .nil)))⟩
  have q_T_watch : ∀ H, SqT K H T_watch (((["reader", "variable", "depth"] : List Str)).map V.str) := fun H => .inr ⟨_, _, _, lt_T_watch, rfl, rfl, by show 3 ≤ sizeLine; decide, .cons ⟨_, rfl⟩ (.cons ⟨_, rfl⟩ (.cons ⟨_, rfl⟩ .nil))⟩
  have q_T_same : ∀ H, SqT K H T_same (((["variable", "variable", "rows", "rows"] : List Str)).map V.str) := fun H => .inr ⟨_, _, _, lt_T_same, rfl, rfl, by show 4 ≤ sizeLine; decide, .cons ⟨_, rfl⟩ (.cons ⟨_, rfl⟩ (.cons ⟨_, rfl⟩ (.cons ⟨_, rfl⟩ .nil)))⟩
  have q_T_empty : ∀ H, SqT K H T_empty (((["variable", "rows", "rows"] : List Str)).map V.str) := fun H => .inr ⟨_, _, _, lt_T_empty, rfl, rfl, by show 3 ≤ sizeLine; decide, .cons ⟨_, rfl⟩ (.cons ⟨_, rfl⟩ (.cons ⟨_, rfl⟩ .nil))⟩
  have q_DK : ∀ H, SqT K H DK (((["freeze", "thaw"] : List Str)).map V.str) := fun H => .inr ⟨_, _, _, lt_DK, rfl, rfl, by show 2 ≤ sizeLine; decide, .cons ⟨_, rfl⟩ (.cons ⟨_, rfl⟩ .nil)⟩
  have q_TE : ∀ H, SqT K H TE ((([] : List Str)).map V.str) := fun H => .inr ⟨_, _, _, lt_TE, rfl, rfl, by show 0 ≤ sizeLine; decide, .nil⟩
  obtain ⟨es, nE, kdF⟩ := He.dicW_ok dFM
  have FM : FormsK K w mg DF es nE := ⟨PySem.W.mg_of X G aFM, kdF, fun {k rs} h => by
    rcases forms_cases h with ⟨rfl, rfl⟩ | ⟨rfl, rfl⟩ | ⟨rfl, rfl⟩ | ⟨rfl, rfl⟩ | ⟨rfl, rfl⟩ | ⟨rfl, rfl⟩ | ⟨rfl, rfl⟩ | ⟨rfl, rfl⟩ | ⟨rfl, rfl⟩
    · exact ⟨_, f_at_move, q_T_move⟩
    · exact ⟨_, f_at_none, q_T_none⟩
    · exact ⟨_, f_at_new, q_T_new⟩
    · exact ⟨_, f_at_look, q_T_look⟩
    · exact ⟨_, f_at_put, q_T_put⟩
    · exact ⟨_, f_at_copy, q_T_copy⟩
    · exact ⟨_, f_at_watch, q_T_watch⟩
    · exact ⟨_, f_at_same, q_T_same⟩
    · exact ⟨_, f_at_empty, q_T_empty⟩⟩
  have F_f_is_integer := fun_mk (st := S_is_integer) l_f_is_integer c_f_is_integer k_f_is_integer
  have b_f_is_integer := F_f_is_integer.binds (ps := P_is_integer) fun _ _ _ _ _ _ us hl => match us, hl with | [_], _ => rfl
  have d_f_is_integer : Df K mg "is_integer" S_is_integer f_is_integer _ P_is_integer := ⟨F_f_is_integer, PySem.W.mg_of X G a_f_is_integer, b_f_is_integer⟩
  have F_f_is_between := fun_mk (st := S_is_between) l_f_is_between c_f_is_between k_f_is_between
  have b_f_is_between := F_f_is_between.binds (ps := P_is_between) fun _ _ _ _ _ _ us hl => match us, hl with | [_, _, _], _ => rfl
  have d_f_is_between : Df K mg "is_between" S_is_between f_is_between _ P_is_between := ⟨F_f_is_between, PySem.W.mg_of X G a_f_is_between, b_f_is_between⟩
  have F_f_is_word := fun_mk (st := S_is_word) l_f_is_word c_f_is_word k_f_is_word
  have b_f_is_word := F_f_is_word.binds (ps := P_is_word) fun _ _ _ _ _ _ us hl => match us, hl with | [_], _ => rfl
  have d_f_is_word : Df K mg "is_word" S_is_word f_is_word _ P_is_word := ⟨F_f_is_word, PySem.W.mg_of X G a_f_is_word, b_f_is_word⟩
  have F_f_is_one_of := fun_mk (st := S_is_one_of) l_f_is_one_of c_f_is_one_of k_f_is_one_of
  have b_f_is_one_of := F_f_is_one_of.binds (ps := P_is_one_of) fun _ _ _ _ _ _ us hl => match us, hl with | [_, _], _ => rfl
  have d_f_is_one_of : Df K mg "is_one_of" S_is_one_of f_is_one_of _ P_is_one_of := ⟨F_f_is_one_of, PySem.W.mg_of X G a_f_is_one_of, b_f_is_one_of⟩
  have F_f_are_words := fun_mk (st := S_are_words) l_f_are_words c_f_are_words k_f_are_words
  have b_f_are_words := F_f_are_words.binds (ps := P_are_words) fun _ _ _ _ _ _ us hl => match us, hl with | [_, _, _], _ => rfl
  have d_f_are_words : Df K mg "are_words" S_are_words f_are_words _ P_are_words := ⟨F_f_are_words, PySem.W.mg_of X G a_f_are_words, b_f_are_words⟩
  have F_f_are_fields := fun_mk (st := S_are_fields) l_f_are_fields c_f_are_fields k_f_are_fields
  have b_f_are_fields := F_f_are_fields.binds (ps := P_are_fields) fun _ _ _ _ _ _ us hl => match us, hl with | [_], _ => rfl
  have d_f_are_fields : Df K mg "are_fields" S_are_fields f_are_fields _ P_are_fields := ⟨F_f_are_fields, PySem.W.mg_of X G a_f_are_fields, b_f_are_fields⟩
  have F_f_has_form := fun_mk (st := S_has_form) l_f_has_form c_f_has_form k_f_has_form
  have b_f_has_form := F_f_has_form.binds (ps := P_has_form) fun _ _ _ _ _ _ us hl => match us, hl with | [_], _ => rfl
  have d_f_has_form : Df K mg "has_form" S_has_form f_has_form _ P_has_form := ⟨F_f_has_form, PySem.W.mg_of X G a_f_has_form, b_f_has_form⟩
  have F_f_has_names := fun_mk (st := S_has_names) l_f_has_names c_f_has_names k_f_has_names
  have b_f_has_names := F_f_has_names.binds (ps := P_has_names) fun _ _ _ _ _ _ us hl => match us, hl with | [_, _], _ => rfl
  have d_f_has_names : Df K mg "has_names" S_has_names f_has_names _ P_has_names := ⟨F_f_has_names, PySem.W.mg_of X G a_f_has_names, b_f_has_names⟩
  have F_f_is_right := fun_mk (st := S_is_right) l_f_is_right c_f_is_right k_f_is_right
  have b_f_is_right := F_f_is_right.binds (ps := P_is_right) fun _ _ _ _ _ _ us hl => match us, hl with | [_, _, _], _ => rfl
  have d_f_is_right : Df K mg "is_right" S_is_right f_is_right _ P_is_right := ⟨F_f_is_right, PySem.W.mg_of X G a_f_is_right, b_f_is_right⟩
  have F_f_is_depth := fun_mk (st := S_is_depth) l_f_is_depth c_f_is_depth k_f_is_depth
  have b_f_is_depth := F_f_is_depth.binds (ps := P_is_depth) fun _ _ _ _ _ _ us hl => match us, hl with | [_], _ => rfl
  have d_f_is_depth : Df K mg "is_depth" S_is_depth f_is_depth _ P_is_depth := ⟨F_f_is_depth, PySem.W.mg_of X G a_f_is_depth, b_f_is_depth⟩
  have F_f_row_variables := fun_mk (st := S_row_variables) l_f_row_variables c_f_row_variables k_f_row_variables
  have b_f_row_variables := F_f_row_variables.binds (ps := P_row_variables) fun _ _ _ _ _ _ us hl => match us, hl with | [_], _ => rfl
  have d_f_row_variables : Df K mg "row_variables" S_row_variables f_row_variables _ P_row_variables := ⟨F_f_row_variables, PySem.W.mg_of X G a_f_row_variables, b_f_row_variables⟩
  have F_f_branches := fun_mk (st := S_branches) l_f_branches c_f_branches k_f_branches
  have b_f_branches := F_f_branches.binds (ps := P_branches) fun _ _ _ _ _ _ us hl => match us, hl with | [_], _ => rfl
  have d_f_branches : Df K mg "branches" S_branches f_branches _ P_branches := ⟨F_f_branches, PySem.W.mg_of X G a_f_branches, b_f_branches⟩
  have F_f_with_branches := fun_mk (st := S_with_branches) l_f_with_branches c_f_with_branches k_f_with_branches
  have b_f_with_branches := F_f_with_branches.binds (ps := P_with_branches) fun _ _ _ _ _ _ us hl => match us, hl with | [_, _], _ => rfl
  have d_f_with_branches : Df K mg "with_branches" S_with_branches f_with_branches _ P_with_branches := ⟨F_f_with_branches, PySem.W.mg_of X G a_f_with_branches, b_f_with_branches⟩
  have F_f_copied_rows := fun_mk (st := S_copied_rows) l_f_copied_rows c_f_copied_rows k_f_copied_rows
  have b_f_copied_rows := F_f_copied_rows.binds (ps := P_copied_rows) fun _ _ _ _ _ _ us hl => match us, hl with | [_], _ => rfl
  have d_f_copied_rows : Df K mg "copied_rows" S_copied_rows f_copied_rows _ P_copied_rows := ⟨F_f_copied_rows, PySem.W.mg_of X G a_f_copied_rows, b_f_copied_rows⟩
  have F_f_copied_row := fun_mk (st := S_copied_row) l_f_copied_row c_f_copied_row k_f_copied_row
  have b_f_copied_row := F_f_copied_row.binds (ps := P_copied_row) fun _ _ _ _ _ _ us hl => match us, hl with | [_], _ => rfl
  have d_f_copied_row : Df K mg "copied_row" S_copied_row f_copied_row _ P_copied_row := ⟨F_f_copied_row, PySem.W.mg_of X G a_f_copied_row, b_f_copied_row⟩
  have F_f_placed_rows := fun_mk (st := S_placed_rows) l_f_placed_rows c_f_placed_rows k_f_placed_rows
  have b_f_placed_rows := F_f_placed_rows.binds (ps := P_placed_rows) fun _ _ _ _ _ _ us hl => match us, hl with | [_, _], _ => rfl
  have d_f_placed_rows : Df K mg "placed_rows" S_placed_rows f_placed_rows _ P_placed_rows := ⟨F_f_placed_rows, PySem.W.mg_of X G a_f_placed_rows, b_f_placed_rows⟩
  have F_f_inner_rows := fun_mk (st := S_inner_rows) l_f_inner_rows c_f_inner_rows k_f_inner_rows
  have b_f_inner_rows := F_f_inner_rows.binds (ps := P_inner_rows) fun _ _ _ _ _ _ us hl => match us, hl with | [_, _], _ => rfl
  have d_f_inner_rows : Df K mg "inner_rows" S_inner_rows f_inner_rows _ P_inner_rows := ⟨F_f_inner_rows, PySem.W.mg_of X G a_f_inner_rows, b_f_inner_rows⟩
  have F_f_checked_rows := fun_mk (st := S_checked_rows) l_f_checked_rows c_f_checked_rows k_f_checked_rows
  have b_f_checked_rows := F_f_checked_rows.binds (ps := P_checked_rows) fun _ _ _ _ _ _ us hl => match us, hl with | [_, _], _ => rfl
  have d_f_checked_rows : Df K mg "checked_rows" S_checked_rows f_checked_rows _ P_checked_rows := ⟨F_f_checked_rows, PySem.W.mg_of X G a_f_checked_rows, b_f_checked_rows⟩
  have F_f_check_row := fun_mk (st := S_check_row) l_f_check_row c_f_check_row k_f_check_row
  have b_f_check_row := F_f_check_row.binds (ps := P_check_row) fun _ _ _ _ _ _ us hl => match us, hl with | [_, _, _, _], _ => rfl
  have d_f_check_row : Df K mg "check_row" S_check_row f_check_row _ P_check_row := ⟨F_f_check_row, PySem.W.mg_of X G a_f_check_row, b_f_check_row⟩
  have F_f_all_variables := fun_mk (st := S_all_variables) l_f_all_variables c_f_all_variables k_f_all_variables
  have b_f_all_variables := F_f_all_variables.binds (ps := P_all_variables) fun _ _ _ _ _ _ us hl => match us, hl with | [_, _, _], _ => rfl
  have d_f_all_variables : Df K mg "all_variables" S_all_variables f_all_variables _ P_all_variables := ⟨F_f_all_variables, PySem.W.mg_of X G a_f_all_variables, b_f_all_variables⟩
  have F_f_check_many := fun_mk (st := S_check_many) l_f_check_many c_f_check_many k_f_check_many
  have b_f_check_many := F_f_check_many.binds (ps := P_check_many) fun _ _ _ _ _ _ us hl => match us, hl with | [_, _], _ => rfl
  have d_f_check_many : Df K mg "check_many" S_check_many f_check_many _ P_check_many := ⟨F_f_check_many, PySem.W.mg_of X G a_f_check_many, b_f_check_many⟩
  have F_f_law_draw := fun_mk (st := S_law_draw) l_f_law_draw c_f_law_draw k_f_law_draw
  have b_f_law_draw := F_f_law_draw.binds (ps := P_law_draw) fun _ _ _ _ _ _ us hl => match us, hl with | [_, _], _ => rfl
  have d_f_law_draw : Df K mg "_law_draw" S_law_draw f_law_draw _ P_law_draw := ⟨F_f_law_draw, PySem.W.mg_of X G a_f_law_draw, b_f_law_draw⟩
  have F_f_law_pick := fun_mk (st := S_law_pick) l_f_law_pick c_f_law_pick k_f_law_pick
  have b_f_law_pick := F_f_law_pick.binds (ps := P_law_pick) fun _ _ _ _ _ _ us hl => match us, hl with | [_, _], _ => rfl
  have d_f_law_pick : Df K mg "_law_pick" S_law_pick f_law_pick _ P_law_pick := ⟨F_f_law_pick, PySem.W.mg_of X G a_f_law_pick, b_f_law_pick⟩
  have F_f_law_word := fun_mk (st := S_law_word) l_f_law_word c_f_law_word k_f_law_word
  have b_f_law_word := F_f_law_word.binds (ps := P_law_word) fun _ _ _ _ _ _ us hl => match us, hl with | [_, _], _ => rfl
  have d_f_law_word : Df K mg "_law_word" S_law_word f_law_word _ P_law_word := ⟨F_f_law_word, PySem.W.mg_of X G a_f_law_word, b_f_law_word⟩
  have F_f_law_words := fun_mk (st := S_law_words) l_f_law_words c_f_law_words k_f_law_words
  have b_f_law_words := F_f_law_words.binds (ps := P_law_words) fun _ _ _ _ _ _ us hl => match us, hl with | [_, _, _], _ => rfl
  have d_f_law_words : Df K mg "_law_words" S_law_words f_law_words _ P_law_words := ⟨F_f_law_words, PySem.W.mg_of X G a_f_law_words, b_f_law_words⟩
  have F_f_law_is_word := fun_mk (st := S_law_is_word) l_f_law_is_word c_f_law_is_word k_f_law_is_word
  have b_f_law_is_word := F_f_law_is_word.binds (ps := P_law_is_word) fun _ _ _ _ _ _ us hl => match us, hl with | [_], _ => rfl
  have d_f_law_is_word : Df K mg "_law_is_word" S_law_is_word f_law_is_word _ P_law_is_word := ⟨F_f_law_is_word, PySem.W.mg_of X G a_f_law_is_word, b_f_law_is_word⟩
  have F_f_law_shape := fun_mk (st := S_law_shape) l_f_law_shape c_f_law_shape k_f_law_shape
  have b_f_law_shape := F_f_law_shape.binds (ps := P_law_shape) fun _ _ _ _ _ _ us hl => match us, hl with | [_], _ => rfl
  have d_f_law_shape : Df K mg "_law_shape" S_law_shape f_law_shape _ P_law_shape := ⟨F_f_law_shape, PySem.W.mg_of X G a_f_law_shape, b_f_law_shape⟩
  have F_f_law_is_good := fun_mk (st := S_law_is_good) l_f_law_is_good c_f_law_is_good k_f_law_is_good
  have b_f_law_is_good := F_f_law_is_good.binds (ps := P_law_is_good) fun _ _ _ _ _ _ us hl => match us, hl with | [_, _, _], _ => rfl
  have d_f_law_is_good : Df K mg "_law_is_good" S_law_is_good f_law_is_good _ P_law_is_good := ⟨F_f_law_is_good, PySem.W.mg_of X G a_f_law_is_good, b_f_law_is_good⟩
  have F_f_law_row_fault := fun_mk (st := S_law_row_fault) l_f_law_row_fault c_f_law_row_fault k_f_law_row_fault
  have b_f_law_row_fault := F_f_law_row_fault.binds (ps := P_law_row_fault) fun _ _ _ _ _ _ us hl => match us, hl with | [_, _], _ => rfl
  have d_f_law_row_fault : Df K mg "_law_row_fault" S_law_row_fault f_law_row_fault _ P_law_row_fault := ⟨F_f_law_row_fault, PySem.W.mg_of X G a_f_law_row_fault, b_f_law_row_fault⟩
  have F_f_law_fault := fun_mk (st := S_law_fault) l_f_law_fault c_f_law_fault k_f_law_fault
  have b_f_law_fault := F_f_law_fault.binds (ps := P_law_fault) fun _ _ _ _ _ _ us hl => match us, hl with | [_, _, _, _], _ => rfl
  have d_f_law_fault : Df K mg "_law_fault" S_law_fault f_law_fault _ P_law_fault := ⟨F_f_law_fault, PySem.W.mg_of X G a_f_law_fault, b_f_law_fault⟩
  have F_f_law_named := fun_mk (st := S_law_named) l_f_law_named c_f_law_named k_f_law_named
  have b_f_law_named := F_f_law_named.binds (ps := P_law_named) fun _ _ _ _ _ _ us hl => match us, hl with | [_], _ => rfl
  have d_f_law_named : Df K mg "_law_named" S_law_named f_law_named _ P_law_named := ⟨F_f_law_named, PySem.W.mg_of X G a_f_law_named, b_f_law_named⟩
  have F_f_law_built := fun_mk (st := S_law_built) l_f_law_built c_f_law_built k_f_law_built
  have b_f_law_built := F_f_law_built.binds (ps := P_law_built) fun _ _ _ _ _ _ us hl => match us, hl with | [_, _, _, _], _ => rfl
  have d_f_law_built : Df K mg "_law_built" S_law_built f_law_built _ P_law_built := ⟨F_f_law_built, PySem.W.mg_of X G a_f_law_built, b_f_law_built⟩
  have F_f_law_exact := fun_mk (st := S_law_exact) l_f_law_exact c_f_law_exact k_f_law_exact
  have b_f_law_exact := F_f_law_exact.binds (ps := P_law_exact) fun _ _ _ _ _ _ us hl => match us, hl with | [_, _], _ => rfl
  have d_f_law_exact : Df K mg "_law_exact" S_law_exact f_law_exact _ P_law_exact := ⟨F_f_law_exact, PySem.W.mg_of X G a_f_law_exact, b_f_law_exact⟩
  have F_f_law_shuffled := fun_mk (st := S_law_shuffled) l_f_law_shuffled c_f_law_shuffled k_f_law_shuffled
  have b_f_law_shuffled := F_f_law_shuffled.binds (ps := P_law_shuffled) fun _ _ _ _ _ _ us hl => match us, hl with | [_, _], _ => rfl
  have d_f_law_shuffled : Df K mg "_law_shuffled" S_law_shuffled f_law_shuffled _ P_law_shuffled := ⟨F_f_law_shuffled, PySem.W.mg_of X G a_f_law_shuffled, b_f_law_shuffled⟩
  have F_f_law_nested := fun_mk (st := S_law_nested) l_f_law_nested c_f_law_nested k_f_law_nested
  have b_f_law_nested := F_f_law_nested.binds (ps := P_law_nested) fun _ _ _ _ _ _ us hl => match us, hl with | [_, _, _], _ => rfl
  have d_f_law_nested : Df K mg "_law_nested" S_law_nested f_law_nested _ P_law_nested := ⟨F_f_law_nested, PySem.W.mg_of X G a_f_law_nested, b_f_law_nested⟩
  have F_f_law_total := fun_mk (st := S_law_total) l_f_law_total c_f_law_total k_f_law_total
  have b_f_law_total := F_f_law_total.binds (ps := P_law_total) fun _ _ _ _ _ _ us hl => match us, hl with | [_, _], _ => rfl
  have d_f_law_total : Df K mg "_law_total" S_law_total f_law_total _ P_law_total := ⟨F_f_law_total, PySem.W.mg_of X G a_f_law_total, b_f_law_total⟩
  have F_f_law_due := fun_mk (st := S_law_due) l_f_law_due c_f_law_due k_f_law_due
  have b_f_law_due := F_f_law_due.binds (ps := P_law_due) fun _ _ _ _ _ _ us hl => match us, hl with | [_, _, _, _], _ => rfl
  have d_f_law_due : Df K mg "_law_due" S_law_due f_law_due _ P_law_due := ⟨F_f_law_due, PySem.W.mg_of X G a_f_law_due, b_f_law_due⟩
  have F_f_law := fun_mk (st := S_law) l_f_law c_f_law k_f_law
  have b_f_law := F_f_law.binds (ps := P_law) fun _ _ _ _ _ _ us hl => match us, hl with | [_], _ => rfl
  have F_m_init : FunD K "__init__" "Program.__init__" (defArgs S_Program___init__) (defBody S_Program___init__) (defScope S_Program___init__) [] [(("outputs" : Str), V.ref TE)] m_init _ := ⟨⟨_, _, _, _, _, _, _, _, _, _, rfl, l_m_init, c_m_init, .inl ⟨rfl, rfl⟩, .inr ⟨KD, rfl, fun z hz => by
    rcases List.mem_singleton.mp hz with rfl
    exact ⟨_, kD, rfl⟩⟩⟩, k_m_init⟩
  obtain ⟨mvK, KB⟩ := F_m_init.kbinds0 (ps := P_Program___init__) 4 [("outputs" : Str)] [] (fun vs _ zs => vs ++ zs) (fun z => nomatch z) (fun z hz => nomatch hz) (fun r1 _ r3 => r1.append r3) (fun D doc pm an cdv ct us mv ws l1 l2 l3 => match us, mv, ws, l1, l2, l3 with | [_, _, _, _], [], [_], _, _, _ => rfl)
  obtain ⟨dsI, hdvI, bI⟩ := F_m_init.binds0 (ps := P_Program___init__) 4 (fun z => nomatch z) rfl (fun D doc pm an cdv ct us ks l1 l2 => match us, ks, l1, l2 with | [_, _, _, _], [_], _, _ => ⟨_, _, _, _, _, _, rfl, rfl, rfl⟩)
  have TP : PySem.ErrW.ErrTw l.prog K mg "InvalidProgram" "no program: " " at " CP fJ :=
    { gC := PySem.W.mg_of X G aP, cls := ⟨nmP, qP, NP, bsP, _, snP, subP, abP, colP, ddP, m0P, m1P, m2P, m3P, m5P, xLP, rfl⟩, sa := esaP, ga := egaP, gg := eggP, noN := enbP, noM := enmP, iC := eIP, tC := etIP, kC := ekCP, exC := eCP, veC := veCP, tyC := tCP, hdC := hCP, te := exm_self eCP iCP tCP sCP, opq := opq, sup := supP, sub := smrP, htop := htop,
      hms := by decide, hmt := by decide, fn := ⟨_, _, _, _, _, _, _, _, _, _, _, _, _, _, _, _, _, _, _, _, _, _, _, _, _, _, _, _, _, _, _, _, _, _, _, _, _, _, _, _, _, _, l_eP, c_eP, l_cdP, e_vsP, hfile, l_ccP, rfl⟩ }
  have TI : HCi K C := ⟨c_ha, c_hn, c_ht, c_hm⟩
  have TD : ExcD K CP := ⟨iCP, egaP, eggP, eCP, x_ha, c_hn, c_ht, x_hm⟩
  have T6 : Kin6 K mg CP DE c1 c2 c3 c4 c5 c6 := ⟨PySem.W.mg_of X G x_aD, PySem.W.mg_of X G x_a1, PySem.W.mg_of X G x_a2, PySem.W.mg_of X G x_a3, PySem.W.mg_of X G x_a4, PySem.W.mg_of X G x_a5, PySem.W.mg_of X G x_a6, x_kD, x_kV, x_k6⟩
  have FN : ∀ k, formsT.lookup k = none → PySem.W.nsIn K DF k = some none := fun k hk => dicW_no dFM (forms_no hk)
  have MK : Mk K C m_init := ⟨mk, a_m_init, i_m_init, kc⟩
  exact ⟨PySem.W.fnOf "law" "law" (defArgs S_law) (defBody S_law) (defScope S_law) .none kV_f_law dc_f_law pm_f_law an_f_law cd_f_law ct_f_law, fun s v => .of_eq rfl, fun base _ _ => by
    have G_f_is_integer := ok_is_integer (P := l.prog) (w := w) (mg := mg) (base := base) F_f_is_integer B
    have G_f_is_between := ok_is_between F_f_is_between B d_f_is_integer G_f_is_integer
    have G_f_is_word := ok_is_word (P := l.prog) (w := w) (mg := mg) (base := base) F_f_is_word B (PySem.W.mg_of X G v_MOST_LETTERS)
    have G_f_is_one_of := ok_is_one_of (P := l.prog) (w := w) (mg := mg) (base := base) F_f_is_one_of B
    have G_f_are_words := ok_are_words F_f_are_words B d_f_is_word G_f_is_word
    have G_f_are_fields := ok_are_fields F_f_are_fields (PySem.W.mg_of X G v_MOST_FIELDS) d_f_are_words G_f_are_words
    have G_f_is_depth := ok_is_depth F_f_is_depth d_f_is_between G_f_is_between (PySem.W.mg_of X G v_MOST_DEPTH)
    have G_f_branches := ok_branches (P := l.prog) (w := w) (mg := mg) (base := base) F_f_branches B FM
    have G_f_row_variables := ok_row_variables (P := l.prog) (w := w) (mg := mg) (base := base) F_f_row_variables B FM
    have G_f_with_branches := ok_with_branches (P := l.prog) (w := w) (mg := mg) (base := base) F_f_with_branches B
    have G_f_placed_rows := ok_placed_rows (P := l.prog) (w := w) (mg := mg) (base := base) F_f_placed_rows B
    have G_cps : ∀ (ws fs : List Str) (n : Nat), FnOk l.prog w K mg base CX0 (2 * n + 2) f_copied_row _ P_copied_row (spCopyR ws fs n) ∧ FnOk l.prog w K mg base CX0 (2 * n + 3) f_copied_rows _ P_copied_rows (spCopies ws fs n) := fun ws fs n => ok_copies (ws := ws) (fs := fs) F_f_copied_row F_f_copied_rows B d_f_branches G_f_branches d_f_with_branches G_f_with_branches d_f_copied_row d_f_copied_rows n
    have G_chkx : ∀ fs : List Str, FnOk l.prog w K mg base (L2.CX l.prog w) 7 f_checked_rows _ P_checked_rows (spCheckedY K CP fs) := fun fs => ok_checked_rows_y F_f_checked_rows B d_f_check_row (ok_check_row_y (fs := fs) F_f_check_row B TP (PySem.W.mg_of X G v_LONGEST_PLACE) d_f_has_form (ok_has_form_x F_f_has_form B FM FN) d_f_has_names (ok_has_names_x F_f_has_names B FM d_f_is_right (ok_is_right_x (fs := fs) F_f_is_right d_f_is_one_of G_f_is_one_of d_f_is_depth G_f_is_depth d_f_is_word G_f_is_word (PySem.W.mg_of X G aKI) q_DK))) d_f_placed_rows G_f_placed_rows d_f_inner_rows (ok_inner_rows_y (fs := fs) F_f_inner_rows B d_f_branches G_f_branches d_f_placed_rows G_f_placed_rows)
    have G_initx := ok_progX F_m_init B T0 TP (PySem.W.mg_of X G v_MOST_INPUTS) (PySem.W.mg_of X G v_MOST_OUTPUTS) d_f_are_words G_f_are_words d_f_are_fields G_f_are_fields d_f_checked_rows G_chkx d_f_all_variables (fun ws fs => ok_all_variables (ws := ws) (fs := fs) F_f_all_variables B d_f_row_variables G_f_row_variables) d_f_check_many (fun ws fs => ok_check_many_x (ws := ws) (fs := fs) F_f_check_many B TP (PySem.W.mg_of X G v_MOST_ROWS) (PySem.W.mg_of X G v_MOST_VARIABLES) (PySem.W.mg_of X G v_MOST_COPIES) (PySem.W.mg_of X G v_MOST_WATCHES)) d_f_copied_rows d_f_copied_row G_cps
    have G_f_law_draw := ok_draw (P := l.prog) (w := w) (mg := mg) (base := base) F_f_law_draw B
    have G_f_law_pick := ok_pick F_f_law_pick B d_f_law_draw G_f_law_draw
    have G_f_law_word := ok_word F_f_law_word B d_f_law_draw G_f_law_draw
    have G_f_law_words := ok_words F_f_law_words B d_f_law_draw G_f_law_draw d_f_law_word G_f_law_word
    have G_f_law_is_word := ok_law_is_word (P := l.prog) (w := w) (mg := mg) (base := base) F_f_law_is_word B
    have G_f_law_shape := ok_law_shape (P := l.prog) (w := w) (mg := mg) (base := base) F_f_law_shape B
    have G_rwf : ∀ fs : List Str, FnOk l.prog w K mg base CX0 3 f_law_row_fault _ P_law_row_fault (spRowF K fs) := fun fs => ok_law_row_fault F_f_law_row_fault B d_f_law_shape G_f_law_shape d_f_law_is_good (ok_law_is_good (fs := fs) F_f_law_is_good B d_f_law_is_word G_f_law_is_word)
    have G_flt : ∀ fs : List Str, FnOk l.prog w K mg base CX0 8 f_law_fault _ P_law_fault (spFault K fs 4) := fun fs => ok_law_fault F_f_law_fault B d_f_law_fault d_f_law_row_fault (G_rwf fs) 4
    have G_f_law_due := fn_ex (sp := fun fs => spDue fs) (fun fs => ok_law_due F_f_law_due B d_f_law_fault (G_flt fs) d_f_law_total (fun ws n => ok_law_total (ws := ws) (fs := fs) F_f_law_total B d_f_law_total n) d_f_law_named (fun ws n => ok_law_named (ws := ws) (fs := fs) F_f_law_named B d_f_law_named d_f_law_shape G_f_law_shape n))
    have G_f_law_built := ok_law_built F_f_law_built B T0 TI TP TD T6 MK G_initx KB
    have G_f_law_exact := ok_exactV (P := l.prog) (w := w) (mg := mg) (base := base) F_f_law_exact B
    have G_f_law_shuffled := ok_law_shuffled F_f_law_shuffled B d_f_law_draw G_f_law_draw
    have G_f_law_nested := ok_law_nested F_f_law_nested B d_f_law_draw G_f_law_draw
    exact ok_law F_f_law B (PySem.W.mg_none_of X G z_max) d_f_law_draw G_f_law_draw d_f_law_pick G_f_law_pick d_f_law_words G_f_law_words d_f_law_shuffled G_f_law_shuffled d_f_law_nested G_f_law_nested d_f_law_due G_f_law_due d_f_law_built G_f_law_built d_f_law_exact G_f_law_exact⟩
theorem walk {l : PySem.W.OpenLaw} {q : Program} {loose : List Str} {XP : (Str → Option Value) → Heap → Prop} {YP : World → Heap → Prop} {d : DefRec} {K : Params → PySem.W.Frag} (hn : l.most = some 63) (hdf : d.params.defaults = [])
    (hY : ∀ (w : World) (h : Heap), YP w h → (K w.params).In h)
    (F : ∀ (w : World) (mg : Str → Option Value) (fa : Addr) (h : Heap), (K w.params).In h → h.Ns mainGlobals mg → mg d.name = some (.ref fa) →
      ∃ fd : FuncData, (∀ (s : Shared) (u : Value), BindsTo s fd ⟨[u], []⟩ [("_law_script", u)]) ∧ ∀ base : Heap, (K w.params).In base → base.Ns mainGlobals mg → FnG l.prog w (K w.params) mg base CX0 14 fa fd ["_law_script"] (spLaw (K w.params))) :
    PySem.W.WalkO q loose XP YP l.row.toRowW d [] (fun f vs => PySem.call f vs) :=
  L2.walk_still (n := 63) (k := 14) (x := "_law_script") (sp := fun w => spLaw (K w.params)) hn (by decide) hdf ⟨rfl, by decide, by decide⟩ hY F (fun _ _ a ns hl _ hS => ⟨a, ns, rfl, hS, hl, fun _ => rfl⟩)
end TW
set_option Elab.async false
set_option linter.all false
open PySem PySem.W PyProof.Rows
set_option maxRecDepth 100000 in
set_option maxHeartbeats 0 in
theorem PySem.Challenge.cw_thawedwrites_k10_program_too_many_holds : PySem.Challenge.rw_thawedwrites_k10_program_too_many.Holds := by
  w_on; o_law; k_head; (case hw => w_witness2)
  k_fill
  refine TW.walk (l := PySem.Challenge.rw_thawedwrites_k10_program_too_many) rfl rfl (fun w h Y => PySem.W.kIn_of Y) ?F
  case F =>
    intro w mg fa h KX G hmg
    refine' TW.all_mk KX G hmg ?aC ?a_f_is_integer ?l_f_is_integer ?c_f_is_integer ?k_f_is_integer ?a_f_is_between ?l_f_is_between ?c_f_is_between ?k_f_is_between ?a_f_is_word ?l_f_is_word ?c_f_is_word ?k_f_is_word ?a_f_is_one_of ?l_f_is_one_of ?c_f_is_one_of ?k_f_is_one_of ?a_f_are_words ?l_f_are_words ?c_f_are_words ?k_f_are_words ?a_f_are_fields ?l_f_are_fields ?c_f_are_fields ?k_f_are_fields ?a_f_has_form ?l_f_has_form ?c_f_has_form ?k_f_has_form ?a_f_has_names ?l_f_has_names ?c_f_has_names ?k_f_has_names ?a_f_is_right ?l_f_is_right ?c_f_is_right ?k_f_is_right ?a_f_is_depth ?l_f_is_depth ?c_f_is_depth ?k_f_is_depth ?a_f_row_variables ?l_f_row_variables ?c_f_row_variables ?k_f_row_variables ?a_f_branches ?l_f_branches ?c_f_branches ?k_f_branches ?a_f_with_branches ?l_f_with_branches ?c_f_with_branches ?k_f_with_branches ?a_f_copied_rows ?l_f_copied_rows ?c_f_copied_rows ?k_f_copied_rows ?a_f_copied_row ?l_f_copied_row ?c_f_copied_row ?k_f_copied_row ?a_f_placed_rows ?l_f_placed_rows ?c_f_placed_rows ?k_f_placed_rows ?a_f_inner_rows ?l_f_inner_rows ?c_f_inner_rows ?k_f_inner_rows ?a_f_checked_rows ?l_f_checked_rows ?c_f_checked_rows ?k_f_checked_rows ?a_f_check_row ?l_f_check_row ?c_f_check_row ?k_f_check_row ?a_f_all_variables ?l_f_all_variables ?c_f_all_variables ?k_f_all_variables ?a_f_check_many ?l_f_check_many ?c_f_check_many ?k_f_check_many ?a_f_law_draw ?l_f_law_draw ?c_f_law_draw ?k_f_law_draw ?a_f_law_pick ?l_f_law_pick ?c_f_law_pick ?k_f_law_pick ?a_f_law_word ?l_f_law_word ?c_f_law_word ?k_f_law_word ?a_f_law_words ?l_f_law_words ?c_f_law_words ?k_f_law_words ?a_f_law_is_word ?l_f_law_is_word ?c_f_law_is_word ?k_f_law_is_word ?a_f_law_shape ?l_f_law_shape ?c_f_law_shape ?k_f_law_shape ?a_f_law_is_good ?l_f_law_is_good ?c_f_law_is_good ?k_f_law_is_good ?a_f_law_row_fault ?l_f_law_row_fault ?c_f_law_row_fault ?k_f_law_row_fault ?a_f_law_fault ?l_f_law_fault ?c_f_law_fault ?k_f_law_fault ?a_f_law_named ?l_f_law_named ?c_f_law_named ?k_f_law_named ?a_f_law_built ?l_f_law_built ?c_f_law_built ?k_f_law_built ?a_f_law_exact ?l_f_law_exact ?c_f_law_exact ?k_f_law_exact ?a_f_law_shuffled ?l_f_law_shuffled ?c_f_law_shuffled ?k_f_law_shuffled ?a_f_law_nested ?l_f_law_nested ?c_f_law_nested ?k_f_law_nested ?a_f_law_total ?l_f_law_total ?c_f_law_total ?k_f_law_total ?a_f_law_due ?l_f_law_due ?c_f_law_due ?k_f_law_due ?a_f_law ?l_f_law ?c_f_law ?k_f_law ?a_m_init ?i_m_init ?l_m_init ?c_m_init ?k_m_init ?pg ?hd ?po ?sa ?mk ?kc ?nI ?nF ?nO ?nR ?nT ?nV ?z_len ?z_int ?z_list ?z_tuple ?z_dict ?z_set ?z_all ?z_range ?z_enumerate ?z_sorted ?z_min ?z_isinstance ?z_bool ?z_str ?z_zip ?z_ValueError ?z_super ?z_repr ?v_MOST_LETTERS ?v_MOST_FIELDS ?v_MOST_DEPTH ?v_MOST_INPUTS ?v_MOST_OUTPUTS ?v_MOST_ROWS ?v_MOST_VARIABLES ?v_MOST_COPIES ?v_MOST_WATCHES ?v_LONGEST_PLACE ?kD ?lt_TE ?aFM ?dFM ?f_at_move ?lt_T_move ?f_at_none ?lt_T_none ?f_at_new ?lt_T_new ?f_at_look ?lt_T_look ?f_at_put ?lt_T_put ?f_at_copy ?lt_T_copy ?f_at_watch ?lt_T_watch ?f_at_same ?lt_T_same ?f_at_empty ?lt_T_empty ?z_max ?c_ha ?c_hn ?c_ht ?c_hm ?aKI ?lt_DK ?aP ?xLP ?esaP ?egaP ?eggP ?enbP ?enmP ?eIP ?etIP ?l_eP ?c_eP ?l_cdP ?e_vsP ?l_ccP ?ekCP ?eCP ?veCP ?tCP ?hCP ?iCP ?sCP ?opq ?htop ?hfile ?supP ?smrP ?x_aD ?x_a1 ?x_a2 ?x_a3 ?x_a4 ?x_a5 ?x_a6 ?x_kD ?x_kV ?x_k6 ?x_ha ?x_hm
    (case aC => first | k_is | rfl | decide +kernel)
    (case a_f_is_integer => first | k_is | rfl | decide +kernel)
    (case l_f_is_integer => first | k_is | rfl | decide +kernel)
    (case c_f_is_integer => first | k_is | rfl | decide +kernel)
    (case k_f_is_integer => first | k_is | rfl | decide +kernel)
    (case a_f_is_between => first | k_is | rfl | decide +kernel)
    (case l_f_is_between => first | k_is | rfl | decide +kernel)
    (case c_f_is_between => first | k_is | rfl | decide +kernel)
    (case k_f_is_between => first | k_is | rfl | decide +kernel)
    (case a_f_is_word => first | k_is | rfl | decide +kernel)
    (case l_f_is_word => first | k_is | rfl | decide +kernel)
    (case c_f_is_word => first | k_is | rfl | decide +kernel)
    (case k_f_is_word => first | k_is | rfl | decide +kernel)
    (case a_f_is_one_of => first | k_is | rfl | decide +kernel)
    (case l_f_is_one_of => first | k_is | rfl | decide +kernel)
    (case c_f_is_one_of => first | k_is | rfl | decide +kernel)
    (case k_f_is_one_of => first | k_is | rfl | decide +kernel)
    (case a_f_are_words => first | k_is | rfl | decide +kernel)
    (case l_f_are_words => first | k_is | rfl | decide +kernel)
    (case c_f_are_words => first | k_is | rfl | decide +kernel)
    (case k_f_are_words => first | k_is | rfl | decide +kernel)
    (case a_f_are_fields => first | k_is | rfl | decide +kernel)
    (case l_f_are_fields => first | k_is | rfl | decide +kernel)
    (case c_f_are_fields => first | k_is | rfl | decide +kernel)
    (case k_f_are_fields => first | k_is | rfl | decide +kernel)
    (case a_f_has_form => first | k_is | rfl | decide +kernel)
    (case l_f_has_form => first | k_is | rfl | decide +kernel)
    (case c_f_has_form => first | k_is | rfl | decide +kernel)
    (case k_f_has_form => first | k_is | rfl | decide +kernel)
    (case a_f_has_names => first | k_is | rfl | decide +kernel)
    (case l_f_has_names => first | k_is | rfl | decide +kernel)
    (case c_f_has_names => first | k_is | rfl | decide +kernel)
    (case k_f_has_names => first | k_is | rfl | decide +kernel)
    (case a_f_is_right => first | k_is | rfl | decide +kernel)
    (case l_f_is_right => first | k_is | rfl | decide +kernel)
    (case c_f_is_right => first | k_is | rfl | decide +kernel)
    (case k_f_is_right => first | k_is | rfl | decide +kernel)
    (case a_f_is_depth => first | k_is | rfl | decide +kernel)
    (case l_f_is_depth => first | k_is | rfl | decide +kernel)
    (case c_f_is_depth => first | k_is | rfl | decide +kernel)
    (case k_f_is_depth => first | k_is | rfl | decide +kernel)
    (case a_f_row_variables => first | k_is | rfl | decide +kernel)
    (case l_f_row_variables => first | k_is | rfl | decide +kernel)
    (case c_f_row_variables => first | k_is | rfl | decide +kernel)
    (case k_f_row_variables => first | k_is | rfl | decide +kernel)
    (case a_f_branches => first | k_is | rfl | decide +kernel)
    (case l_f_branches => first | k_is | rfl | decide +kernel)
    (case c_f_branches => first | k_is | rfl | decide +kernel)
    (case k_f_branches => first | k_is | rfl | decide +kernel)
    (case a_f_with_branches => first | k_is | rfl | decide +kernel)
    (case l_f_with_branches => first | k_is | rfl | decide +kernel)
    (case c_f_with_branches => first | k_is | rfl | decide +kernel)
    (case k_f_with_branches => first | k_is | rfl | decide +kernel)
    (case a_f_copied_rows => first | k_is | rfl | decide +kernel)
    (case l_f_copied_rows => first | k_is | rfl | decide +kernel)
    (case c_f_copied_rows => first | k_is | rfl | decide +kernel)
    (case k_f_copied_rows => first | k_is | rfl | decide +kernel)
    (case a_f_copied_row => first | k_is | rfl | decide +kernel)
    (case l_f_copied_row => first | k_is | rfl | decide +kernel)
    (case c_f_copied_row => first | k_is | rfl | decide +kernel)
    (case k_f_copied_row => first | k_is | rfl | decide +kernel)
    (case a_f_placed_rows => first | k_is | rfl | decide +kernel)
    (case l_f_placed_rows => first | k_is | rfl | decide +kernel)
    (case c_f_placed_rows => first | k_is | rfl | decide +kernel)
    (case k_f_placed_rows => first | k_is | rfl | decide +kernel)
    (case a_f_inner_rows => first | k_is | rfl | decide +kernel)
    (case l_f_inner_rows => first | k_is | rfl | decide +kernel)
    (case c_f_inner_rows => first | k_is | rfl | decide +kernel)
    (case k_f_inner_rows => first | k_is | rfl | decide +kernel)
    (case a_f_checked_rows => first | k_is | rfl | decide +kernel)
    (case l_f_checked_rows => first | k_is | rfl | decide +kernel)
    (case c_f_checked_rows => first | k_is | rfl | decide +kernel)
    (case k_f_checked_rows => first | k_is | rfl | decide +kernel)
    (case a_f_check_row => first | k_is | rfl | decide +kernel)
    (case l_f_check_row => first | k_is | rfl | decide +kernel)
    (case c_f_check_row => first | k_is | rfl | decide +kernel)
    (case k_f_check_row => first | k_is | rfl | decide +kernel)
    (case a_f_all_variables => first | k_is | rfl | decide +kernel)
    (case l_f_all_variables => first | k_is | rfl | decide +kernel)
    (case c_f_all_variables => first | k_is | rfl | decide +kernel)
    (case k_f_all_variables => first | k_is | rfl | decide +kernel)
    (case a_f_check_many => first | k_is | rfl | decide +kernel)
    (case l_f_check_many => first | k_is | rfl | decide +kernel)
    (case c_f_check_many => first | k_is | rfl | decide +kernel)
    (case k_f_check_many => first | k_is | rfl | decide +kernel)
    (case a_f_law_draw => first | k_is | rfl | decide +kernel)
    (case l_f_law_draw => first | k_is | rfl | decide +kernel)
    (case c_f_law_draw => first | k_is | rfl | decide +kernel)
    (case k_f_law_draw => first | k_is | rfl | decide +kernel)
    (case a_f_law_pick => first | k_is | rfl | decide +kernel)
    (case l_f_law_pick => first | k_is | rfl | decide +kernel)
    (case c_f_law_pick => first | k_is | rfl | decide +kernel)
    (case k_f_law_pick => first | k_is | rfl | decide +kernel)
    (case a_f_law_word => first | k_is | rfl | decide +kernel)
    (case l_f_law_word => first | k_is | rfl | decide +kernel)
    (case c_f_law_word => first | k_is | rfl | decide +kernel)
    (case k_f_law_word => first | k_is | rfl | decide +kernel)
    (case a_f_law_words => first | k_is | rfl | decide +kernel)
    (case l_f_law_words => first | k_is | rfl | decide +kernel)
    (case c_f_law_words => first | k_is | rfl | decide +kernel)
    (case k_f_law_words => first | k_is | rfl | decide +kernel)
    (case a_f_law_is_word => first | k_is | rfl | decide +kernel)
    (case l_f_law_is_word => first | k_is | rfl | decide +kernel)
    (case c_f_law_is_word => first | k_is | rfl | decide +kernel)
    (case k_f_law_is_word => first | k_is | rfl | decide +kernel)
    (case a_f_law_shape => first | k_is | rfl | decide +kernel)
    (case l_f_law_shape => first | k_is | rfl | decide +kernel)
    (case c_f_law_shape => first | k_is | rfl | decide +kernel)
    (case k_f_law_shape => first | k_is | rfl | decide +kernel)
    (case a_f_law_is_good => first | k_is | rfl | decide +kernel)
    (case l_f_law_is_good => first | k_is | rfl | decide +kernel)
    (case c_f_law_is_good => first | k_is | rfl | decide +kernel)
    (case k_f_law_is_good => first | k_is | rfl | decide +kernel)
    (case a_f_law_row_fault => first | k_is | rfl | decide +kernel)
    (case l_f_law_row_fault => first | k_is | rfl | decide +kernel)
    (case c_f_law_row_fault => first | k_is | rfl | decide +kernel)
    (case k_f_law_row_fault => first | k_is | rfl | decide +kernel)
    (case a_f_law_fault => first | k_is | rfl | decide +kernel)
    (case l_f_law_fault => first | k_is | rfl | decide +kernel)
    (case c_f_law_fault => first | k_is | rfl | decide +kernel)
    (case k_f_law_fault => first | k_is | rfl | decide +kernel)
    (case a_f_law_named => first | k_is | rfl | decide +kernel)
    (case l_f_law_named => first | k_is | rfl | decide +kernel)
    (case c_f_law_named => first | k_is | rfl | decide +kernel)
    (case k_f_law_named => first | k_is | rfl | decide +kernel)
    (case a_f_law_built => first | k_is | rfl | decide +kernel)
    (case l_f_law_built => first | k_is | rfl | decide +kernel)
    (case c_f_law_built => first | k_is | rfl | decide +kernel)
    (case k_f_law_built => first | k_is | rfl | decide +kernel)
    (case a_f_law_exact => first | k_is | rfl | decide +kernel)
    (case l_f_law_exact => first | k_is | rfl | decide +kernel)
    (case c_f_law_exact => first | k_is | rfl | decide +kernel)
    (case k_f_law_exact => first | k_is | rfl | decide +kernel)
    (case a_f_law_shuffled => first | k_is | rfl | decide +kernel)
    (case l_f_law_shuffled => first | k_is | rfl | decide +kernel)
    (case c_f_law_shuffled => first | k_is | rfl | decide +kernel)
    (case k_f_law_shuffled => first | k_is | rfl | decide +kernel)
    (case a_f_law_nested => first | k_is | rfl | decide +kernel)
    (case l_f_law_nested => first | k_is | rfl | decide +kernel)
    (case c_f_law_nested => first | k_is | rfl | decide +kernel)
    (case k_f_law_nested => first | k_is | rfl | decide +kernel)
    (case a_f_law_total => first | k_is | rfl | decide +kernel)
    (case l_f_law_total => first | k_is | rfl | decide +kernel)
    (case c_f_law_total => first | k_is | rfl | decide +kernel)
    (case k_f_law_total => first | k_is | rfl | decide +kernel)
    (case a_f_law_due => first | k_is | rfl | decide +kernel)
    (case l_f_law_due => first | k_is | rfl | decide +kernel)
    (case c_f_law_due => first | k_is | rfl | decide +kernel)
    (case k_f_law_due => first | k_is | rfl | decide +kernel)
    (case a_f_law => first | k_is | rfl | decide +kernel)
    (case l_f_law => first | k_is | rfl | decide +kernel)
    (case c_f_law => first | k_is | rfl | decide +kernel)
    (case k_f_law => first | k_is | rfl | decide +kernel)
    (case a_m_init => first | k_is | rfl | decide +kernel)
    (case i_m_init => first | k_is | rfl | decide +kernel)
    (case l_m_init => first | k_is | rfl | decide +kernel)
    (case c_m_init => first | k_is | rfl | decide +kernel)
    (case k_m_init => first | k_is | rfl | decide +kernel)
    (case pg => first | k_is | rfl | decide +kernel)
    (case hd => first | k_is | rfl | decide +kernel)
    (case po => first | k_is | rfl | decide +kernel)
    (case sa => first | k_is | rfl | decide +kernel)
    (case mk => first | k_is | rfl | decide +kernel)
    (case kc => first | k_is | rfl | decide +kernel)
    (case nI => first | k_is | rfl | decide +kernel)
    (case nF => first | k_is | rfl | decide +kernel)
    (case nO => first | k_is | rfl | decide +kernel)
    (case nR => first | k_is | rfl | decide +kernel)
    (case nT => first | k_is | rfl | decide +kernel)
    (case nV => first | k_is | rfl | decide +kernel)
    (case z_len => first | k_is | rfl | decide +kernel)
    (case z_int => first | k_is | rfl | decide +kernel)
    (case z_list => first | k_is | rfl | decide +kernel)
    (case z_tuple => first | k_is | rfl | decide +kernel)
    (case z_dict => first | k_is | rfl | decide +kernel)
    (case z_set => first | k_is | rfl | decide +kernel)
    (case z_all => first | k_is | rfl | decide +kernel)
    (case z_range => first | k_is | rfl | decide +kernel)
    (case z_enumerate => first | k_is | rfl | decide +kernel)
    (case z_sorted => first | k_is | rfl | decide +kernel)
    (case z_min => first | k_is | rfl | decide +kernel)
    (case z_isinstance => first | k_is | rfl | decide +kernel)
    (case z_bool => first | k_is | rfl | decide +kernel)
    (case z_str => first | k_is | rfl | decide +kernel)
    (case z_zip => first | k_is | rfl | decide +kernel)
    (case z_ValueError => first | k_is | rfl | decide +kernel)
    (case z_super => first | k_is | rfl | decide +kernel)
    (case z_repr => first | k_is | rfl | decide +kernel)
    (case v_MOST_LETTERS => first | k_is | rfl | decide +kernel)
    (case v_MOST_FIELDS => first | k_is | rfl | decide +kernel)
    (case v_MOST_DEPTH => first | k_is | rfl | decide +kernel)
    (case v_MOST_INPUTS => first | k_is | rfl | decide +kernel)
    (case v_MOST_OUTPUTS => first | k_is | rfl | decide +kernel)
    (case v_MOST_ROWS => first | k_is | rfl | decide +kernel)
    (case v_MOST_VARIABLES => first | k_is | rfl | decide +kernel)
    (case v_MOST_COPIES => first | k_is | rfl | decide +kernel)
    (case v_MOST_WATCHES => first | k_is | rfl | decide +kernel)
    (case v_LONGEST_PLACE => first | k_is | rfl | decide +kernel)
    (case kD => first | k_is | rfl | decide +kernel)
    (case lt_TE => first | k_is | rfl | decide +kernel)
    (case aFM => first | k_is | rfl | decide +kernel)
    (case dFM => first | k_is | rfl | decide +kernel)
    (case f_at_move => first | k_is | rfl | decide +kernel)
    (case lt_T_move => first | k_is | rfl | decide +kernel)
    (case f_at_none => first | k_is | rfl | decide +kernel)
    (case lt_T_none => first | k_is | rfl | decide +kernel)
    (case f_at_new => first | k_is | rfl | decide +kernel)
    (case lt_T_new => first | k_is | rfl | decide +kernel)
    (case f_at_look => first | k_is | rfl | decide +kernel)
    (case lt_T_look => first | k_is | rfl | decide +kernel)
    (case f_at_put => first | k_is | rfl | decide +kernel)
    (case lt_T_put => first | k_is | rfl | decide +kernel)
    (case f_at_copy => first | k_is | rfl | decide +kernel)
    (case lt_T_copy => first | k_is | rfl | decide +kernel)
    (case f_at_watch => first | k_is | rfl | decide +kernel)
    (case lt_T_watch => first | k_is | rfl | decide +kernel)
    (case f_at_same => first | k_is | rfl | decide +kernel)
    (case lt_T_same => first | k_is | rfl | decide +kernel)
    (case f_at_empty => first | k_is | rfl | decide +kernel)
    (case lt_T_empty => first | k_is | rfl | decide +kernel)
    (case z_max => first | k_is | rfl | decide +kernel)
    (case c_ha => first | k_is | rfl | decide +kernel)
    (case c_hn => first | k_is | rfl | decide +kernel)
    (case c_ht => first | k_is | rfl | decide +kernel)
    (case c_hm => first | k_is | rfl | decide +kernel)
    (case aKI => first | k_is | rfl | decide +kernel)
    (case lt_DK => first | k_is | rfl | decide +kernel)
    (case aP => first | k_is | rfl | decide +kernel)
    (case xLP => first | k_is | rfl | decide +kernel)
    (case esaP => first | k_is | rfl | decide +kernel)
    (case egaP => first | k_is | rfl | decide +kernel)
    (case eggP => first | k_is | rfl | decide +kernel)
    (case enbP => first | k_is | rfl | decide +kernel)
    (case enmP => first | k_is | rfl | decide +kernel)
    (case eIP => first | k_is | rfl | decide +kernel)
    (case etIP => first | k_is | rfl | decide +kernel)
    (case l_eP => first | k_is | rfl | decide +kernel)
    (case c_eP => first | k_is | rfl | decide +kernel)
    (case l_cdP => first | k_is | rfl | decide +kernel)
    (case e_vsP => first | k_is | rfl | decide +kernel)
    (case l_ccP => first | k_is | rfl | decide +kernel)
    (case ekCP => first | k_is | rfl | decide +kernel)
    (case eCP => first | k_is | rfl | decide +kernel)
    (case veCP => first | k_is | rfl | decide +kernel)
    (case tCP => first | k_is | rfl | decide +kernel)
    (case hCP => first | k_is | rfl | decide +kernel)
    (case iCP => first | k_is | rfl | decide +kernel)
    (case sCP => first | k_is | rfl | decide +kernel)
    (case opq => first | k_is | rfl | decide +kernel)
    (case htop => first | k_is | rfl | decide +kernel)
    (case hfile => first | k_is | rfl | decide +kernel)
    (case supP => first | k_is | rfl | decide +kernel)
    (case smrP => first | k_is | rfl | decide +kernel)
    (case x_aD => first | k_is | rfl | decide +kernel)
    (case x_a1 => first | k_is | rfl | decide +kernel)
    (case x_a2 => first | k_is | rfl | decide +kernel)
    (case x_a3 => first | k_is | rfl | decide +kernel)
    (case x_a4 => first | k_is | rfl | decide +kernel)
    (case x_a5 => first | k_is | rfl | decide +kernel)
    (case x_a6 => first | k_is | rfl | decide +kernel)
    (case x_kD => first | k_is | rfl | decide +kernel)
    (case x_kV => first | k_is | rfl | decide +kernel)
    (case x_k6 => first | k_is | rfl | decide +kernel)
    (case x_ha => first | k_is | rfl | decide +kernel)
    (case x_hm => first | k_is | rfl | decide +kernel)
#print axioms PySem.Challenge.cw_thawedwrites_k10_program_too_many_holds
