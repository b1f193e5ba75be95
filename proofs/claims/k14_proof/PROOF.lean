import PyProof.Rows.All
import Wide.All
import OpenK.AllK
import Wide.FinOn
import HandS.Base
import HandS.Call
import HandS.List
import HandS.Comp
import HandS.Ends
import HandS.Dict
import HandS.Iter
import HandS.Text
import HandS.Words
import HandS.WordsList
import HandS.WordsDict
import HandS.Wide
import HandS.More
import HandS.IsInst
import HandS.Conv
import KE.KExcSuper
import HandS.FStr
import HandS.Exc
import HandS.ExcInit
import HandS.Head0
import HandS.Head1
import HandS.Head2
import HandS.HeadHook4
import HandS.Strs
import HandS.StrMore
import KE.KDictZip
import PyProof.ReprRoads
import HandS.Lambda
import HandS.Nested
import HandS.NoneIn
import HandS.DictComp
import HandS.WordsExc
import HandS.TupAny
import HandS.Zip
import HandS.Style
import PyProof.AutoSeq1
import HandS.Defaults
import HandS.MakeKw
import PyProof.TupleOfSeq
import HandS.CallSlots
import HandS.EndTab
import HandS.MakeKwOnly
import PySem.Challenge.RW_thawedwrites_k14_run_plain_values
set_option Elab.async false
set_option linter.all false
set_option maxRecDepth 100000
namespace TW
open PySem PySem.Spec PyProof.Rows L2
def topS (i : Nat) : Stmt := PySem.Challenge.pw_thawedwrites_k14_run_plain_values.main.body.getD i (.Pass ⟨0, 0, 0, 0⟩)
/-- the built-ins are the built-ins -/
structure Bl (mg : Str → Option Value) : Prop where
  m_len : mg "len" = none
  m_int : mg "int" = none
  m_list : mg "list" = none
  m_tuple : mg "tuple" = none
  m_dict : mg "dict" = none
  m_set : mg "set" = none
  m_all : mg "all" = none
  m_range : mg "range" = none
  m_enumerate : mg "enumerate" = none
  m_sorted : mg "sorted" = none
  m_min : mg "min" = none
  m_isinstance : mg "isinstance" = none
  m_bool : mg "bool" = none
  m_str : mg "str" = none
  m_zip : mg "zip" = none
  m_ValueError : mg "ValueError" = none
  m_super : mg "super" = none
  m_repr : mg "repr" = none
/-- a def of the text, at its name -/
structure Df (K : PySem.W.Frag) (mg : Str → Option Value) (x : Str) (st : Stmt) (f : Addr) (fd : FuncData) (ps : List Str) : Prop where
  F : Fun K x x st f fd
  g : mg x = some (.ref f)
  b : Binds K fd ps []
end TW
set_option Elab.async false
set_option linter.all false
set_option maxRecDepth 100000
set_option maxHeartbeats 2000000
namespace PySem
namespace ErrX
open PySem.W PySem.Calls PyProof.Rows PySem.HandSPX
/-- (self, part) -/
def eArgs (p1 p2 : Pos) : Arguments := { posonlyargs := [], args := [{ arg := "self", annotation := none, pos := p1 }, { arg := "part", annotation := none, pos := p2 }], vararg := none, kwonlyargs := [], kw_defaults := [], kwarg := none, defaults := [] }
/-- the two rows of the body -/
def eBody (ms : Str) (a1 a2 a3 a4 a5 a6 a7 a8 a9 : Pos) (q1 q2 q3 q4 : Pos) : List Stmt :=
  [.Expr (.Call (.Attribute (.Call (.Name "super" a1) [] [] a2) "__init__" a3) [.JoinedStr [.Constant (.str ms) 0 a4, .FormattedValue (.Name "part" a5) (-1) none a6] a7] [] a8) a9,
   .Assign [.Attribute (.Name "self" q1) "part" q2] (.Name "part" q3) q4]
def eScope : Scope := { kind := .function, names := [(PySem.Str.ofString "self", .local), (PySem.Str.ofString "part", .local), (PySem.Str.ofString "__class__", .free), (PySem.Str.ofString "super", .globalImplicit)], isGenerator := false, isCoroutine := false, more := [] }
/-- what the written part says of the class x (at C) and of its own maker (at fI) -/
structure ErrTxt (prog : Program) (K : Frag) (mg : Str → Option Value) (x ms : Str) (C fI : Addr) : Prop where
  gC : mg x = some (.ref C)
  cls : ∃ nm q N bs bm sn sub ab col dd k0 k1 k2 k3 k5, K.lookup C = some (excClassObj nm q C N bs bm true sn sub ab col dd k0 k1 k2 k3 k5 "ValueError.__new__") ∧ refsVE bm = true
  sa : findIn K (.ref C) "__setattr__" = some (some (.builtin "object.__setattr__"))
  ga : findIn K (.ref C) "__getattribute__" = some (some (.builtin "BaseException.__getattribute__"))
  gg : findIn K (.ref C) "__getattr__" = some none
  noN : findIn K (.ref C) "part" = some none
  iC : findIn K (.ref C) "__init__" = some (some (.ref fI))
  tC : typeIn K (.ref fI) = some (.type "function")
  kC : keepIn K (.ref C) = true
  exC : subIn K (.ref C) (.type "BaseException") = some true
  veC : subIn K (.ref C) (.type "ValueError") = some true
  tyC : typeIn K (.ref C) = some (.type "type")
  hdC : hasDictIn K C = true
  te : exmOne K (.ref C) (.ref C) = some true
  opq : nsIn K cStatics "thirdparty.any" = some none
  sup : ks_superIn K C C "__init__" = some (some (.builtin "ValueError.__init__"))
  sub : mroIn K C (.ref C) = some true
  htop : (prog.main.scope.names.lookup ("super" : Str)).isSome = false
  hms : ms.length ≤ 1000
  fn : ∃ (oc : Value) (od : Option Addr) (doc pm : Value) (an : Option Addr) (cda cc : Addr) (ct : Value) (osl : Array (Option Value)) (qual : Str) (p1 p2 a1 a2 a3 a4 a5 a6 a7 a8 a9 q1 q2 q3 q4 : Pos)
      (ccl cl : Value) (cdd cld : Option Addr) (vs : Array Value) (ccs csl : Array (Option Value)) (file : Str) (tf : Tok),
    K.lookup fI = some ⟨oc, od, .func (ksFn "__init__" qual (eArgs p1 p2) (eBody ms a1 a2 a3 a4 a5 a6 a7 a8 a9 q1 q2 q3 q4) eScope .none .none doc pm an (.ref cda) ct cc), osl⟩ ∧ codeIn K (.ref cda) qual = true ∧
    K.lookup cda = some ⟨ccl, cdd, .fields vs, ccs⟩ ∧ vs[2]? = some (.str file tf) ∧ ((prog.main.file : Str) == file) = true ∧ K.lookup cc = some ⟨cl, cld, .cell (some (.ref C)), csl⟩ ∧
    (a3.endLine == a8.line) = true
/-- o.m(e), as a tree -/
theorem call_tree {o e : Expr} {m : Str} {apos pos : Pos} {env : Env} (hl : (apos.endLine == pos.line) = true) (he : starEach [e] env = [(false, eval e env)] := by rfl) :
    eval (.Call (.Attribute o m apos) [e] [] pos) env = (do
      let ov ← attributeBase o m env (eval o env)
      standAt apos.atName
      let (f, first) ← holding [ov] (getMethod ov m (do return (← importBound o env).getD true))
      callWith pos f first (backTo pos (starEach [e] env)) []) := by
  rw [arm_eval_Call]
  have hf : methodCallForm ([e].length + ([] : List Keyword).length) (backTo pos (starEach [e] env)) (backToKw pos (keywordEach [] env)) = true := by
    rw [he]
    rfl
  have hp : methodCallPos true o env apos pos = pure pos := by unfold methodCallPos; simp [hl]
  have hc : ∀ ov, calleeOf true o env ov m = getMethod ov m (do return (← importBound o env).getD true) := fun _ => rfl
  have key : ∀ ov, methodCall o m apos pos env ov ([e].length + ([] : List Keyword).length) (backTo pos (starEach [e] env)) (backToKw pos (keywordEach [] env)) = (do
      let (f, first) ← holding [ov] (getMethod ov m (do return (← importBound o env).getD true))
      callWith pos f first (backTo pos (starEach [e] env)) []) := fun ov => by
    unfold methodCall
    rw [hf, hp, hc]
    simp only [pure_bind]
    rfl
  simp only [key]
theorem one_size (v : Value) : [v].length ≤ sizeLine := by
  rw [sizeLine_eq]
  exact (by decide : 1 ≤ 16777216)
theorem ldN {M : Model} {s : Shared} {name : Str} {scope : Scope} {L a : Addr} {cd : Value} {cl : List (Str × Addr)} {m : Str → Option Value} {x : Str} {pos : Pos} {v : Value} {Q : Value → Shared → Prop} {A : Around} {E : Value → Shared → Prop} (hn : s.heap.Ns L m) (hv : m x = some v) (h : Q v s)
    (hk : scope.kind = .function := by rfl) (hl : (envX name scope L a cd cl).kindOf x = some .local := by rfl) (hd : (x == ("__debug__" : Str)) = false := by decide) :
    wpAny M A (eval (.Name x pos) (envX name scope L a cd cl)) Q E s := wpAny_Name (wpAny_loadName_local hk hl hn hv h) hd
section
variable {prog : Program} {w : World} {A : Around} {E : Value → Shared → Prop} {h : Heap} {g : Array GenState} {d : Drawn} {t : Nat} {os : OsState}
variable {nm q : Str} {C N : Addr} {bs bm : List Value} {hdct : Bool} {sn : List Str} {sub : List Value} {ab : Bool} {col : Option Bool} {dd : Option Addr} {k0 k1 k2 k3 k5 : Option Value}
/-- the bound maker of the base is called: the args are laid anew -/
theorem call_mw {u e t0 : Addr} {rest : List Value} {Q : Value → Shared → Prop}
    (hC : h.get? C = some (excClassObj nm q C N bs bm hdct sn sub ab col dd k0 k1 k2 k3 k5 "ValueError.__new__")) (he : h.get? e = some (excO C t0)) (hu : h.get? u = some (kxs_mw "ValueError.__init__" e)) (hrest : rest.length ≤ sizeLine)
    (hq : ∀ h' t1, (∀ b o, b ≠ e → h.get? b = some o → h'.get? b = some o) → h'.get? e = some (excO C t1) → Q .none ⟨h', g, d, t, os⟩) :
    wpAny (model prog w) A (call (.ref u) rest) Q E ⟨h, g, d, t, os⟩ := by
  refine wpAny_call (codeAny_of_tree ?_)
  show wpAny _ A.in1 (callAny (.ref u) ⟨rest, []⟩) _ _ _
  simp only [callAny]
  refine wpAny_bind (wpAny_load hu ?_)
  simp only [kxs_mw, show (Value.type "method-wrapper" == Value.type "method" || Value.type "method-wrapper" == Value.type "builtin_function_or_method" || Value.type "method-wrapper" == Value.type "method-wrapper") = true by decide, if_true]
  refine KFB.if_so (by decide) ?_
  refine wpAny_bind (check_bound_init F.excBase_ValueError.toExcCallFacts hC he rfl ?_)
  refine wpAny_bind (wpAny_pure (wpAny_pure ?_))
  refine ⟨plainId_quiet F.excBase_ValueError.init.plain _, codeAny_builtin F.excBase_ValueError.initEntry ?_⟩
  exact exc_init_tree (cls := .ref C) (t0 := t0) (dv := none) (c2 := .none) (c3 := .none) (b4 := .bool false) he hrest fun h' k e1 e2 => hq h' _ k e1
end
/-- what the maker leaves of a fresh error at x -/
structure InitEnd (h h' : Heap) (x C dx t1 : Addr) (v : Value) : Prop where
  keep : ∀ b o, b ≠ x → h.get? b = some o → h'.get? b = some o
  obj : h'.get? x = some { cls := .ref C, dict := some dx, data := .fields #[.ref t1, .none, .none, .none, .bool false, .none] }
  dbig : h.objs.size ≤ dx
  dne : dx ≠ x
  ns : h'.Ns1 dx (fun y => if y = "part" then some v else none)
section
variable {prog : Program} {w : World} {A : Around} {E : Value → Shared → Prop} {R : Result → Shared → Prop} {s : Shared} {K : Frag} {mg mb : Str → Option Value} {nmx ms : Str} {C fI : Addr}
theorem err_init (T : ErrTxt prog K mg nmx ms C fI) {x t0 : Addr} {y : Str} {ty : Tok} (X : K.In s.heap) (hG : s.heap.Ns mainGlobals mg) (hB : s.heap.Ns builtinsNs mb) (mS : mg "super" = none) (bS : mb "super" = some (.type "super"))
    (hlim : s.heap.NoLimit) (hx : s.heap.get? x = some (excO C t0)) (hnx : K.lookup x = none) (hroom : A.depth < recursionLimit) (hy : y.length ≤ 1000)
    (hq : ∀ h' tk dx t1, InitEnd s.heap h' x C dx t1 (.str y ty) → R (.ok (.ret .none)) { s with heap := h', toks := tk }) :
    codeAny (model prog w) A (.call (.ref fI) ⟨[.ref x, .str y ty], []⟩) R s := by
  obtain ⟨oc, od, doc, pm, an, cda, cc, ct, osl, qual, p1, p2, a1, a2, a3, a4, a5, a6, a7, a8, a9, q1, q2, q3, q4, ccl, cl, cdd, cld, vs, ccs, csl, file, tf, ho, hcd, hcda, hvs, hfile, hcell, hline⟩ := T.fn
  obtain ⟨nm, q, N, bs, bm, sn, sub, ab, col, dd, k0, k1, k2, k3, k5, hC, hbm⟩ := T.cls
  have hcl : clsIn K C = some { name := nm, bases := bs, mro := .ref C :: bm, ns := N, qualname := q, hasDict := true, slotNames := sn, subclasses := sub, abstract := ab, collection := col, hasDel := false } := by unfold clsIn; rw [hC] <;> rfl
  have hsup : alongIn K "__init__" ((((Value.ref C :: bm)).dropWhile (· != .ref C)).drop 1) = some (some (.builtin "ValueError.__init__")) := by
    have z := T.sup
    unfold ks_superIn at z
    rw [hcl] at z
    exact z
  refine ks_codeAny_call_defAt (fd := ksFn "__init__" qual (eArgs p1 p2) (eBody ms a1 a2 a3 a4 a5 a6 a7 a8 a9 q1 q2 q3 q4) eScope .none .none doc pm an (.ref cda) ct cc) (body := eBody ms a1 a2 a3 a4 a5 a6 a7 a8 a9 q1 q2 q3 q4)
    (binds := [("self", .ref x), ("part", .str y ty)]) hroom (X _ _ ho) rfl hlim (codeRec_of X hcd) rfl (BindsTo.of_eq (by first | rfl | with_unfolding_all rfl)) (show ∀ x ∈ eScope.names, x.2 ≠ .cell by decide) (fun z hz => by
      rcases List.mem_cons.mp hz with rfl | hz
      · rfl
      rcases List.mem_cons.mp hz with rfl | hz
      · rfl
      cases hz) (fun h₁ hn k => ?_) rfl rfl rfl
  obtain ⟨hp, g, d, t, os⟩ := s
  have X₁ : K.In h₁ := X.keeps k
  have hx₁ := k _ _ hx
  have hC₁ := X₁ _ _ hC
  show _root_.PySem.wpAt _ _ (.func _ (ksEnv qual eScope hp.objs.size fI (.ref cda) cc)) (execs _ (ksEnv qual eScope hp.objs.size fI (.ref cda) cc)) _ _ _
  have nxC : x ≠ C := fun z => by
    rw [z, hC] at hnx
    cases hnx
  have hxL : hp.objs.size ≠ x := Nat.ne_of_gt (Heap.lt_size hx)
  -- the first row
  refine ks_wpAt_execs_cons (ks_wpAt_Expr_any (ks_wpAt_MethodCall (pl := do return (← importBound (.Call (.Name "super" a1) [] [] a2) (ksEnv qual eScope hp.objs.size fI (.ref cda) cc)).getD true) ?_ (call_tree hline)))
  refine ks_wpAt_super_base (env := ksEnv qual eScope hp.objs.size fI (.ref cda) cc) (file := file) (tf := tf) (vs := vs) rfl rfl (by decide) rfl (X₁ _ _ ho) rfl rfl rfl (X₁ _ _ hcda) rfl hvs hfile T.htop ?_
  refine ks_loadName_global rfl rfl (loadGlobal_builtin (env := ksEnv qual eScope hp.objs.size fI (.ref cda) cc) (mg := mg) (mb := mb) (hG.keeps k) mS (hB.keeps k) bS ⟨rfl, ?_⟩)
  refine wpAny_loadName_free rfl rfl rfl ⟨_, X₁ _ _ hcell, rfl⟩ ?_
  refine wpAny_loadName_local rfl rfl hn rfl ?_
  refine ks_wpAny_isType_cls hC₁ rfl ⟨rfl, ?_⟩
  refine ks_wpAny_call_super hC₁ rfl hx₁ rfl (fun c e => by cases e) (looks_mroIn X₁ T.sub) (fun h₂ hso k₂ => ?_)
  have X₂ : K.In h₂ := X₁.keeps k₂
  have hx₂ := k₂ _ _ hx₁
  have I₂ : InstAt h₂ x (excO C t0) C none := ⟨hx₂, rfl, rfl, trivial⟩
  refine kxs_getMethod kxs_ValueError hso (looks_opaque X₂ T.opq) (l₀ := .ref C :: bm) (fun A Q E s k q => wpAny_bind ((looks_clsIn X₂ hcl) A _ E s k (wpAny_pure q))) rfl X₂ hsup (I₂.type.andThen (looks_subIn X₂ T.veC)) nxC (by decide) ?_
  have k₃ : ∀ b o, h₂.get? b = some o → (h₂.push (kxs_mw "ValueError.__init__" x)).get? b = some o := fun b o e => Heap.get?_push_of_some _ e
  have hmw : (h₂.push (kxs_mw "ValueError.__init__" x)).get? h₂.objs.size = some (kxs_mw "ValueError.__init__" x) := Heap.get?_push_at rfl rfl
  refine kxs_callWith (i := "ValueError.__init__") (x := x) (by rfl) ?_
  refine evalArgs_plain (spliced_cons ?_)
  have hn₃ : (h₂.push (kxs_mw "ValueError.__init__" x)).Ns hp.objs.size (fun z => List.lookup z [(("part" : Str), Value.str y ty), ("self", .ref x)]) := (hn.keeps k₂).keeps k₃
  have hsz : sizeLine = 16777216 := sizeLine_eq
  refine wpAny_JoinedStr (pos := a7) ?_
  have sz : ∀ z : Str, z.length ≤ 2000 → z.length ≤ sizeLine := fun z hz => by
    rw [sizeLine_eq]
    omega
  have hms := T.hms
  refine Calls.Constant_str ⟨ms, _, rfl, sz _ (by rw [Str.length_append]; show 0 + ms.length ≤ 2000; omega), ?_⟩
  have fin : ∀ tt : Nat, ((Str.empty ++ ms) ++ y).length ≤ sizeLine ∧ wpAny (model prog w) (A.deeper (ksEnv qual eScope hp.objs.size fI (.ref cda) cc)) (call (.ref h₂.objs.size) [.str ((Str.empty ++ ms) ++ y) tt]) (fun _ s' => wpAt (model prog w) (A.deeper (ksEnv qual eScope hp.objs.size fI (.ref cda) cc)) (.func (eBody ms a1 a2 a3 a4 a5 a6 a7 a8 a9 q1 q2 q3 q4) (ksEnv qual eScope hp.objs.size fI (.ref cda) cc))
      (execs [.Assign [.Attribute (.Name "self" q1) "part" q2] (.Name "part" q3) q4] (ksEnv qual eScope hp.objs.size fI (.ref cda) cc)) (fun f s' => R (.ok (.ret (match f with | .ret v => v | _ => .none))) s')
        (fun e s' => wpAny (model prog w) (A.deeper (ksEnv qual eScope hp.objs.size fI (.ref cda) cc)) (leaving (ksEnv qual eScope hp.objs.size fI (.ref cda) cc) e) (fun _ s'' => R (.error e) s'') (fun e' s'' => R (.error e') s'') s') s')
      (fun e s' => wpAny (model prog w) (A.deeper (ksEnv qual eScope hp.objs.size fI (.ref cda) cc)) (leaving (ksEnv qual eScope hp.objs.size fI (.ref cda) cc) e) (fun _ s'' => R (.error e) s'') (fun e' s'' => R (.error e') s'') s')
      ⟨h₂.push (kxs_mw "ValueError.__init__" x), g, d, tt + 1, os⟩ := fun tt => by
    refine ⟨sz _ ?_, ?_⟩
    · rw [Str.length_append, Str.length_append]
      show 0 + ms.length + y.length ≤ 2000
      omega
    refine call_mw (h := h₂.push (kxs_mw "ValueError.__init__" x)) (X₂.keeps k₃ _ _ hC) (k₃ _ _ hx₂) hmw (one_size _) (fun h₄ t1 k₄ hx₄ => ?_)
    have keep4 : ∀ b o, b ≠ x → hp.get? b = some o → h₄.get? b = some o := fun b o hb e => k₄ b o hb (k₃ _ _ (k₂ _ _ (k b o e)))
    have X₄ : K.In h₄ := fun b o e => k₄ b o (fun z => by rw [z, hnx] at e; cases e) (k₃ _ _ (X₂ _ _ e))
    have hn₄ : h₄.Ns hp.objs.size (fun z => List.lookup z [(("part" : Str), Value.str y ty), ("self", .ref x)]) := by
      obtain ⟨oL, es, ep, e1, r⟩ := hn₃
      exact ⟨oL, es, ep, k₄ _ _ hxL e1, r⟩
    refine wpAt_of_wpAny ?_
    refine wpAny_execs_cons (plainObj_wpAny_Assign_Attribute ?_)
    refine ldN (v := .str y ty) hn₄ rfl (ldN (v := .ref x) hn₄ rfl ?_)
    refine set_plain X₄ (ox := excO C t1) (od := none) ⟨hx₄, rfl, rfl, trivial⟩ T.sa ?_
    refine exc_osa X₄ hx₄ hcl (show refsVE (.ref C :: bm) = true from hbm) rfl T.noN (fun h₅ tk₅ dx k₅ dn dne hx₅ hn₅ => ?_)
    have big : hp.objs.size ≤ h₄.objs.size := by
      obtain ⟨oL, es, ep, e1, r⟩ := hn₄
      exact Nat.le_of_lt (Heap.lt_size e1)
    exact wpAny_execs_nil (hq h₅ tk₅ dx t1 ⟨fun b o hb e => k₅ b o hb (keep4 b o hb e), hx₅, Nat.le_trans big dn, dne, hn₅⟩)
  refine wpAny_FormattedValue_plain (ldN (v := .str y ty) hn₃ rfl ?_)
  have fin2 := fun tt => (fin tt).2
  refine wpAny_formatField_str ⟨y, _, rfl, (fin 0).1, (fin 0).1, ?_⟩ ⟨y, _, rfl, (fin 0).1, (fin 0).1, ?_⟩ (sz _ (by omega))
  · exact spliced_nil ⟨hmw, fin2 _⟩
  · exact spliced_nil ⟨hmw, fin2 _⟩
/-- a made error -/
structure OwnMade (h h' : Heap) (e C d : Addr) (v : Value) : Prop where
  keep : ∀ b o, h.get? b = some o → h'.get? b = some o
  new : h.objs.size ≤ e
  obj : ∃ oe vs, h'.get? e = some oe ∧ oe.cls = .ref C ∧ oe.dict = some d ∧ oe.data = .fields vs ∧ vs[1]? = some .none
  dbig : h.objs.size ≤ d
  dne : d ≠ e
  ns : h'.Ns1 d (fun y => if y = "part" then some v else none)
theorem err_made (T : ErrTxt prog K mg nmx ms C fI) {y : Str} {ty : Tok} (X : K.In s.heap) (hG : s.heap.Ns mainGlobals mg) (hB : s.heap.Ns builtinsNs mb) (mS : mg "super" = none) (bS : mb "super" = some (.type "super"))
    (hlim : s.heap.NoLimit) (hroom : A.depth + 1 < recursionLimit) (hy : y.length ≤ 1000)
    (hq : ∀ h' tk e d, OwnMade s.heap h' e C d (.str y ty) → R (.ok (.ret (.ref e))) { s with heap := h', toks := tk }) :
    codeAny (model prog w) A (.call (.ref C) ⟨[.str y ty], []⟩) R s := by
  obtain ⟨nm, q, N, bs, bm, sn, sub, ab, col, dd, k0, k1, k2, k3, k5, hC, hbm⟩ := T.cls
  obtain ⟨hp, g, dr, tk, os⟩ := s
  have k : ∀ b o, hp.get? b = some o → ((hp.push (kdv_tup [.str y ty])).push (excO C hp.objs.size)).get? b = some o := fun b o e => Heap.get?_push_of_some _ (Heap.get?_push_of_some _ e)
  have hget : ((hp.push (kdv_tup [.str y ty])).push (excO C hp.objs.size)).get? (hp.objs.size + 1) = some (excO C hp.objs.size) := by heap_get
  have hnx : K.lookup (hp.objs.size + 1) = none := by
    cases e : K.lookup (hp.objs.size + 1) with
    | none => rfl
    | some o =>
      have z : hp.get? (hp.objs.size + 1) = some o := X _ _ e
      exact absurd (Nat.lt_of_succ_lt (Heap.lt_size z)) (Nat.lt_irrefl _)
  refine call_own F.excBase_ValueError (fun X => refsVE_contains X bm hbm) (X _ _ hC) (looks_findIn X T.iC) (fun self => bind_fn X self T.tC) (one_size _) ?_
  refine err_init (s := ⟨(hp.push (kdv_tup [.str y ty])).push (excO C hp.objs.size), g, dr, tk, os⟩) T (X.keeps k) (hG.keeps k) (hB.keeps k) mS bS (hlim.keeps k) hget hnx ?_ hy fun h' tk' dx t1 ⟨k', hx, dn, dne, hns⟩ => ?_
  · show A.depth + 1 < recursionLimit
    exact hroom
  · have old : ∀ b o, hp.get? b = some o → h'.get? b = some o := fun b o e => k' b o (Nat.ne_of_lt (Nat.lt_succ_of_lt (Heap.lt_size e))) (k b o e)
    have z : hp.objs.size + 1 + 1 ≤ dx := by
      first
        | (simpa only [Heap.size_push] using dn)
        | exact dn
        | (have q := dn; rw [Heap.size_push, Heap.size_push] at q; exact q)
    exact ⟨rfl, hq h' tk' (hp.objs.size + 1) dx ⟨old, Nat.le_succ _, ⟨_, _, hx, rfl, rfl, rfl, rfl⟩, Nat.le_trans (Nat.le_trans (Nat.le_succ _) (Nat.le_succ _)) z, dne, hns⟩⟩
end
end ErrX
end PySem
namespace L2
open PySem PySem.Spec PyProof.Rows
theorem relO_part {v : V} {v' : Value} (r : RelV v v') (f : Str) : RelO (List.lookup f [(("part" : Str), v)]) (if f = "part" then some v' else none) := by
  by_cases hw : f = "part"
  · subst hw
    rw [if_pos rfl]
    have q : List.lookup ("part" : Str) [(("part" : Str), v)] = some v := by simp [List.lookup]
    rw [q]
    exact r
  · rw [if_neg hw]
    have qw : (f == ("part" : Str)) = false := by simpa using hw
    have q2 : List.lookup f [(("part" : Str), v)] = none := by simp [List.lookup, qw]
    rw [q2]
    trivial
section
variable {X : Cx} {nm ms : Str} {C fI : Addr}
/-- C(e), e a text -/
def tMkE (C : Addr) (ta : TA) : St → Hp → XK → Prop := fun σ H Q => ta σ H fun vs H1 => ∃ y : Str, vs = [.str y] ∧ y.length ≤ 1000 ∧ ∀ d, H1 d = none → Q (.ref C) (some d) (upd H1 d (.xd [(("part" : Str), .str y)]))
theorem pmk_err {a : Expr} {ta : TA} {p pos : Pos} {k : Nat} (T : PySem.ErrX.ErrTxt X.prog X.K X.mg nm ms C fI) (hr : Room k X.A) (mS : X.mg "super" = none) (ha : PA X [a] ta) (hg : Gl X nm) (hd : (nm == ("__debug__" : Str)) = false)
    (he : starEach (a :: []) X.env = (false, eval a X.env) :: starEach [] X.env := by rfl) (hpl : (backTo pos (starEach [] X.env)).any (·.1) = false := by rfl) :
    PMk X (.Call (.Name nm p) [a] [] pos) (tMkE C ta) := by
  intro pins s σ H Q I h
  refine wpAny_Call_Name_kw (ld_glob I hg T.gC ?_ hd)
  refine PySem.W.callWith_K (h₀ := X.base) I.ok.mod.kin T.kC (thn (ha.run pos pins s σ H _ I h) fun us s1 hh => ?_) he hpl
  obtain ⟨vs, H1, I1, r1, y, ev, hy, q1⟩ := hh
  subst ev
  refine ⟨I1.kIn, ?_⟩
  cases r1 with
  | cons rv rn =>
    rename_i v' us'
    cases rn
    obtain ⟨ty, rfl⟩ := (show ∃ t, v' = Value.str y t from rv)
    show wpAny _ _ (call (.ref C) [.str y ty]) _ _ _
    have hlim := I1.nolimit
    have hG := I1.mod.glob.keeps I1.bk
    obtain ⟨mb, hB0, hB1⟩ := I1.mod.blt
    have hB := hB0.keeps I1.bk
    have bS : mb "super" = some (.type "super") := (hB1 "super" (by decide)).trans rfl
    obtain ⟨hp, g, dr, tk, os⟩ := s1
    refine wpAny_call (PySem.ErrX.err_made T I1.kIn hG hB mS bS hlim (by have := hr.dp; omega) hy fun h' tk' e d M => ?_)
    show MkP X pins σ Q (.ref e) ⟨h', g, dr, tk', os⟩
    obtain ⟨oe, fv, hoe, hc, hd, hdat, h1⟩ := M.obj
    have hns := M.ns
    obtain ⟨G', g1, g2⟩ := restrict h' fun b => decide (b ≠ e)
    have gk : ∀ b, b ≠ e → G'.get? b = h'.get? b := fun b hb => g1 b (decide_eq_true hb)
    have ge : G'.get? e = none := g2 e (by simp)
    have old : ∀ b o, hp.get? b = some o → G'.get? b = some o := fun b o q => (gk b (Nat.ne_of_lt (Nat.lt_of_lt_of_le (Heap.lt_size q) M.new))).trans (M.keep b o q)
    have ob : ObjOk X.prog X.w (upd H1 d (.xd [(("part" : Str), .str y)])) G' d (.xd [(("part" : Str), .str y)]) :=
      ⟨_, hns.at (fun o q => (gk d M.dne).trans q), fun f => relO_part rv f⟩
    have J : Inv X pins σ (upd H1 d (.xd [(("part" : Str), .str y)])) ⟨G', g, dr, tk', os⟩ := I1.laid (t' := tk') old M.dbig ob
    refine ⟨e, oe, fv, ⟨G', g, dr, tk', os⟩, _, .ref C, some d, rfl, J, fun b o q => ?_, ge, hoe, ⟨hc, hd⟩, hdat, h1, ?_, rfl, I1.bare, raises_own T.exC T.tyC, q1 d (I1.hok.fresh M.dbig)⟩
    · by_cases hb : b = e
      · have q' : G'.get? b = some o := q
        rw [hb, ge] at q'; cases q'
      · exact (gk b hb).symm.trans q
    · rw [upd_ne (Ne.symm M.dne)]
      exact I1.hok.fresh M.new
/-- raise C(e) -/
def tRaiseE (C : Addr) (W : WX) (ta : TA) : TS := fun _ σ H => tMkE C ta σ H fun cls d H' => W cls d σ H'
theorem ps_raiseE {a : Expr} {ta : TA} {W : WX} {p pos pos2 : Pos} {k : Nat} (hc : X.calm = true) (T : PySem.ErrX.ErrTxt X.prog X.K X.mg nm ms C fI) (hr : Room k X.A) (tk : Takes X W) (mS : X.mg "super" = none) (ha : PA X [a] ta) (hg : Gl X nm) (hd : (nm == ("__debug__" : Str)) = false)
    (he : starEach (a :: []) X.env = (false, eval a X.env) :: starEach [] X.env := by rfl) (hpl : (backTo pos (starEach [] X.env)).any (·.1) = false := by rfl) :
    PS X (.Raise (some (.Call (.Name nm p) [a] [] pos)) none pos2) (tRaiseE C W ta) := ps_raise hc tk (pmk_err T hr mS ha hg hd he hpl)
/-- x.part, x the error that the suite holds (at a; its class cls, its dict d) -/
def tPartE (C : Addr) (a : Addr) (cls : Value) (d : Option Addr) (te : TE) : TE := fun σ H Q => te σ H fun x H1 => x = .ref a ∧ cls = .ref C ∧ ∃ (dd : Addr) (v : V), d = some dd ∧ H1 dd = some (.xd [(("part" : Str), v)]) ∧ Q v H1
theorem pe_partE {a : Addr} {oe : Obj} {cls : Value} {d : Option Addr} {pn : List (Addr × Obj)} {e : Expr} {te : TE} {pos : Pos} (T : PySem.ErrX.ErrTxt X.prog X.K X.mg nm ms C fI) (hz : Zc cls d oe) (hf : ∃ vs, oe.data = .fields vs) (he : PE (X.suite a ((a, oe) :: pn)) e te)
    (hb : attributeBase e "part" X.env (eval e X.env) = eval e X.env := by rfl) :
    PE (X.suite a ((a, oe) :: pn)) (.Attribute e "part" pos) (tPartE C a cls d te) := by
  refine ⟨fun pins s σ H Q I h => ?_⟩
  refine attr_of hb (thn (he.run pins s σ H _ I h) fun u s1 hh => ?_)
  obtain ⟨x, H1, I1, rx, ex, ec, dd, v, ed, ea, q⟩ := hh
  subst ex
  obtain rfl : u = Value.ref a := rx
  subst ec
  subst ed
  obtain ⟨ha, _⟩ := I1.pin (a, oe) (List.mem_append_left _ List.mem_cons_self)
  obtain ⟨vs, hd⟩ := hf
  have hx : ObjOk X.prog X.w H1 s1.heap dd (.xd [(("part" : Str), v)]) := I1.hok dd _ ea
  obtain ⟨mA, hns, hr⟩ := hx
  obtain ⟨od, ho, hl⟩ := lookIn_ns hns
  have l : List.lookup ("part" : Str) [(("part" : Str), v)] = some v := by simp [List.lookup]
  obtain ⟨u, hu, ru⟩ := RelO.some_of (v := v) (o := mA "part") (by rw [← l]; exact hr "part")
  have J : PySem.W.InstAt s1.heap a oe C (some od) := ⟨ha, hz.1, by unfold PySem.W.notCls; rw [hd] <;> rfl, by rw [hz.2]; exact ho⟩
  exact HandSPX.exc_get I1.kIn J T.ga T.gg T.exC (PySem.W.findObj_own T.hdC T.noN rfl (by rw [hl, hu])) (handed_of ru) ⟨v, H1, I1.tok _, ru, q⟩
end
end L2
set_option Elab.async false
set_option linter.all false
set_option maxRecDepth 100000
set_option maxHeartbeats 2000000
/-! the small head: what its Hook looks at beside He.hookX's facts, and what follows from it -/
namespace TW
open PySem PySem.Spec PyProof.Rows L2
/-! ### texts in a tuple at an address -/
def txts : List Str → List Value → Bool
  | [], [] => true
  | x :: r, .str y _ :: us => decide (x = y) && txts r us
  | _, _ => false
theorem txts_ok : ∀ {ws : List Str} {us : List Value}, txts ws us = true → Vals (ws.map V.str) us
  | [], [], _ => .nil
  | [], _ :: _, h => nomatch h
  | _ :: _, [], h => nomatch h
  | x :: r, u :: us, h => by
    cases u with
    | str y t =>
      obtain ⟨h1, h2⟩ := He.ba (a := decide (x = y)) (b := txts r us) h
      exact .cons ⟨t, by rw [of_decide_eq_true h1]⟩ (txts_ok h2)
    | _ => exact nomatch h
def tupAt (K : PySem.W.Frag) (a : Addr) (ws : List Str) : Bool := match K.lookup a with
  | some o => (match o.cls, o.data with
    | .type c, .seq its _ => decide (c = "tuple") && (decide (its.size ≤ sizeLine) && txts ws its.toList)
    | _, _ => false)
  | none => false
theorem tupAt_ok {K : PySem.W.Frag} {a : Addr} {ws : List Str} (h : tupAt K a ws = true) (H : Hp) : SqT K H a (ws.map V.str) := by
  unfold tupAt at h
  cases q : K.lookup a with
  | none =>
    rw [q] at h
    exact nomatch h
  | some o =>
    rw [q] at h
    obtain ⟨oc, od, dt, sl⟩ := o
    cases oc with
    | type c =>
      cases dt with
      | seq its n =>
        obtain ⟨h1, h2⟩ := He.ba (a := decide (c = "tuple")) (b := decide (its.size ≤ sizeLine) && txts ws its.toList) h
        obtain ⟨h3, h4⟩ := He.ba h2
        exact .inr ⟨_, its, n, q, congrArg Value.type (of_decide_eq_true h1), rfl, of_decide_eq_true h3, txts_ok h4⟩
      | _ => exact nomatch h
    | _ => cases dt <;> exact nomatch h
/-! ### questions about classes -/
def subB (K : PySem.W.Frag) (v : Value) (C : Addr) : Bool := decide (PySem.W.subIn K v (.ref C) = some false)
def clsB (K : PySem.W.Frag) (C : Addr) : Bool := PySem.W.isClsIn K C && decide (PySem.W.typeIn K (.ref C) = some (.type "type"))
def hciB (K : PySem.W.Frag) (C : Addr) : Bool := He.eqO (PySem.W.findIn K (.ref C) "__class__") (some (some (.builtin "object.__class__"))) && decide (PySem.W.mroIn K C (.type "object") = some true)
def objB (K : PySem.W.Frag) : Bool := He.eqO (PySem.W.specialIn K (.builtin "object.__class__") "__get__") (some (some (.builtin "getset_descriptor.__get__"))) && decide (PySem.W.takesIn K (.builtin "object.__class__") = some true)
theorem subB_ok {K : PySem.W.Frag} {v : Value} {C : Addr} (h : subB K v C = true) : PySem.W.subIn K v (.ref C) = some false := of_decide_eq_true h
theorem clsB_ok {K : PySem.W.Frag} {C : Addr} (h : clsB K C = true) : PySem.W.isClsIn K C = true ∧ PySem.W.typeIn K (.ref C) = some (.type "type") := ⟨(He.ba h).1, of_decide_eq_true (He.ba h).2⟩
theorem hciB_ok {K : PySem.W.Frag} {C : Addr} (h : hciB K C = true) : PySem.W.findIn K (.ref C) "__class__" = some (some (.builtin "object.__class__")) ∧ PySem.W.mroIn K C (.type "object") = some true := ⟨He.eqO_ok (He.ba h).1, of_decide_eq_true (He.ba h).2⟩
theorem objB_ok {K : PySem.W.Frag} (h : objB K = true) : PySem.W.specialIn K (.builtin "object.__class__") "__get__" = some (some (.builtin "getset_descriptor.__get__")) ∧ PySem.W.takesIn K (.builtin "object.__class__") = some true := ⟨He.eqO_ok (He.ba h).1, of_decide_eq_true (He.ba h).2⟩
/-! ### an error class with an own maker of one part -/
abbrev ErO : Type := Option (Str × Str × Arguments × FuncBody × Scope × Addr × Addr × Value × Value)
/-- its maker, as it was written -/
def erO (K : PySem.W.Frag) (x : Str) : ErO := match K.lookup (He.ma K (He.ga K x) "__init__") with
  | some o => (match o.data with
    | .func fd => some (fd.name, fd.qualname, fd.params, fd.body, fd.scope, fd.globals, fd.builtins, fd.defaults, fd.kwdefaults)
    | _ => none)
  | none => none
/-- what its class holds -/
def erC (K : PySem.W.Frag) (C : Addr) : Bool := match K.lookup C with
  | some ⟨.type c, _, .cls cd, ⟨sl⟩⟩ => (match sl with
    | [_, _, _, _, some (.builtin n), _] => (match cd.mro with
      | .ref D :: bm => decide (c = "type") && (decide (D = C) && (PySem.HandSPX.refsVE bm && (cd.hasDict && (!cd.hasDel && decide (n = "ValueError.__new__")))))
      | _ => false)
    | _ => false)
  | _ => false
theorem erC_ok {K : PySem.W.Frag} {C : Addr} (h : erC K C = true) : ∃ nm q N bs bm sn sub ab col dd k0 k1 k2 k3 k5, K.lookup C = some (excClassObj nm q C N bs bm true sn sub ab col dd k0 k1 k2 k3 k5 "ValueError.__new__") ∧ PySem.HandSPX.refsVE bm = true := by
  unfold erC at h
  split at h
  · rename_i c od cd sl q
    split at h
    · rename_i k0 k1 k2 k3 n k5
      split at h
      · rename_i D bm hm
        obtain ⟨h1, h⟩ := He.ba h
        obtain ⟨h2, h⟩ := He.ba h
        obtain ⟨h3, h⟩ := He.ba h
        obtain ⟨h4, h⟩ := He.ba h
        obtain ⟨h5, h6⟩ := He.ba h
        obtain ⟨nm, bs, mro, ns, qn, hd, sn, sub, ab, col, del⟩ := cd
        dsimp only at hm h4 h5
        have e1 := of_decide_eq_true h1
        have e2 := of_decide_eq_true h2
        have e6 := of_decide_eq_true h6
        have e5 : del = false := by
          cases del with
          | false => rfl
          | true => exact nomatch h5
        subst e1 e2 e6 e5 hm h4
        exact ⟨nm, qn, ns, bs, bm, sn, sub, ab, col, od, k0, k1, k2, k3, k5, q, h3⟩
      · exact nomatch h
    · exact nomatch h
  · exact nomatch h
/-- its maker's closure, code object and file -/
def erF (K : PySem.W.Frag) (C f : Addr) (qual : Str) : Bool := match K.lookup f with
  | some o => (match o.data with
    | .func fd => (match fd.closure, fd.code with
      | [(n, cc)], .ref c => decide (n = ("__class__" : Str)) && (PySem.W.codeIn K (.ref c) qual && ((match K.lookup c with
          | some oc => (match oc.data with
            | .fields vs => (match (vs[2]? : Option Value) with
              | some (.str fl _) => decide (fl = ("/claim/cut.py" : Str))
              | _ => false)
            | _ => false)
          | none => false) && (match K.lookup cc with
          | some ob => (match ob.data with
            | .cell (some (.ref D)) => decide (D = C)
            | _ => false)
          | none => false)))
      | _, _ => false)
    | _ => false)
  | none => false
theorem erF_ok {K : PySem.W.Frag} {C f : Addr} {qual : Str} (h : erF K C f qual = true) : ∃ (oc : Value) (od : Option Addr) (osl : Array (Option Value)) (fd : FuncData) (cc cda : Addr) (ccl cl : Value) (cdd cld : Option Addr) (vs : Array Value) (ccs csl : Array (Option Value)) (tf : Tok),
    K.lookup f = some ⟨oc, od, .func fd, osl⟩ ∧ fd.closure = [(("__class__" : Str), cc)] ∧ fd.code = .ref cda ∧ PySem.W.codeIn K (.ref cda) qual = true ∧ K.lookup cda = some ⟨ccl, cdd, .fields vs, ccs⟩ ∧ vs[2]? = some (.str "/claim/cut.py" tf) ∧ K.lookup cc = some ⟨cl, cld, .cell (some (.ref C)), csl⟩ := by
  unfold erF at h
  cases q : K.lookup f with
  | none =>
    rw [q] at h
    exact nomatch h
  | some o =>
    rw [q] at h
    obtain ⟨oc, od, dt, sl⟩ := o
    cases dt with
    | func fd =>
      dsimp only at h
      split at h
      · rename_i n cc c e1 e2
        obtain ⟨h1, h⟩ := He.ba h
        obtain ⟨h2, h⟩ := He.ba h
        obtain ⟨h3, h4⟩ := He.ba h
        have en := of_decide_eq_true h1
        subst en
        cases q2 : K.lookup c with
        | none =>
          rw [q2] at h3
          exact nomatch h3
        | some o2 =>
          rw [q2] at h3
          obtain ⟨ccl, cdd, d2, ccs⟩ := o2
          cases d2 with
          | fields vs =>
            dsimp only at h3
            split at h3
            · rename_i fl tf e3
              have ef := of_decide_eq_true h3
              subst ef
              cases q3 : K.lookup cc with
              | none =>
                rw [q3] at h4
                exact nomatch h4
              | some o3 =>
                rw [q3] at h4
                obtain ⟨cl, cld, d3, csl⟩ := o3
                cases d3 with
                | cell u =>
                  cases u with
                  | none => exact nomatch h4
                  | some u =>
                    cases u with
                    | ref D =>
                      have eD : D = C := of_decide_eq_true h4
                      subst eD
                      exact ⟨oc, od, sl, fd, cc, c, ccl, cl, cdd, cld, vs, ccs, csl, tf, rfl, e1, e2, h2, q2, e3, q3⟩
                    | _ => exact nomatch h4
                | _ => exact nomatch h4
            · exact nomatch h3
          | _ => exact nomatch h3
      · exact nomatch h
    | _ => exact nomatch h
def erK (K : PySem.W.Frag) (C f : Addr) (part : Str) : Bool :=
  He.eqO (PySem.W.findIn K (.ref C) "__setattr__") (some (some (.builtin "object.__setattr__"))) && (He.eqO (PySem.W.findIn K (.ref C) "__getattribute__") (some (some (.builtin "BaseException.__getattribute__"))) && (He.eqO (PySem.W.findIn K (.ref C) "__getattr__") (some none) &&
  (He.eqO (PySem.W.findIn K (.ref C) part) (some none) && (He.eqO (PySem.W.findIn K (.ref C) "__init__") (some (some (.ref f))) && (decide (PySem.W.typeIn K (.ref f) = some (.type "function")) && (PySem.W.keepIn K (.ref C) &&
  (decide (PySem.W.subIn K (.ref C) (.type "BaseException") = some true) && (decide (PySem.W.subIn K (.ref C) (.type "ValueError") = some true) && (decide (PySem.W.typeIn K (.ref C) = some (.type "type")) && (PySem.W.hasDictIn K C &&
  (decide (PySem.W.exmOne K (.ref C) (.ref C) = some true) && (He.eqO (PySem.W.nsIn K cStatics "thirdparty.any") (some none) && (He.eqO (PySem.W.ks_superIn K C C "__init__") (some (some (.builtin "ValueError.__init__"))) && decide (PySem.W.mroIn K C (.ref C) = some true))))))))))))))
def erB (K : PySem.W.Frag) (x qual : Str) : Bool := erC K (He.ga K x) && (erF K (He.ga K x) (He.ma K (He.ga K x) "__init__") qual && erK K (He.ga K x) (He.ma K (He.ga K x) "__init__") "part")
theorem errTxt_of {P : Program} {K : PySem.W.Frag} {mg : Str → Option Value} {x qual ms : Str} {p1 p2 a1 a2 a3 a4 a5 a6 a7 a8 a9 q1 q2 q3 q4 : Pos} (g : mg x = some (.ref (He.ga K x))) (h : erB K x qual = true)
    (e : erO K x = (some (("__init__" : Str), qual, PySem.ErrX.eArgs p1 p2, FuncBody.stmts (PySem.ErrX.eBody ms a1 a2 a3 a4 a5 a6 a7 a8 a9 q1 q2 q3 q4), PySem.ErrX.eScope, mainGlobals, builtinsNs, Value.none, Value.none) : ErO))
    (htop : (P.main.scope.names.lookup ("super" : Str)).isSome = false) (hfile : ((P.main.file : Str) == ("/claim/cut.py" : Str)) = true) (hms : ms.length ≤ 1000 := by decide) (hl : (a3.endLine == a8.line) = true := by rfl) :
    PySem.ErrX.ErrTxt P K mg x ms (He.ga K x) (He.ma K (He.ga K x) "__init__") := by
  obtain ⟨h1, h⟩ := He.ba h
  obtain ⟨h2, h⟩ := He.ba h
  obtain ⟨b1, h⟩ := He.ba h
  obtain ⟨b2, h⟩ := He.ba h
  obtain ⟨b3, h⟩ := He.ba h
  obtain ⟨b4, h⟩ := He.ba h
  obtain ⟨b5, h⟩ := He.ba h
  obtain ⟨b6, h⟩ := He.ba h
  obtain ⟨b7, h⟩ := He.ba h
  obtain ⟨b8, h⟩ := He.ba h
  obtain ⟨b9, h⟩ := He.ba h
  obtain ⟨b10, h⟩ := He.ba h
  obtain ⟨b11, h⟩ := He.ba h
  obtain ⟨b12, h⟩ := He.ba h
  obtain ⟨b13, h⟩ := He.ba h
  obtain ⟨b14, b15⟩ := He.ba h
  refine { gC := g, cls := erC_ok h1, sa := He.eqO_ok b1, ga := He.eqO_ok b2, gg := He.eqO_ok b3, noN := He.eqO_ok b4, iC := He.eqO_ok b5, tC := of_decide_eq_true b6, kC := b7, exC := of_decide_eq_true b8, veC := of_decide_eq_true b9, tyC := of_decide_eq_true b10, hdC := b11, te := of_decide_eq_true b12, opq := He.eqO_ok b13, sup := He.eqO_ok b14, sub := of_decide_eq_true b15, htop := htop, hms := hms, fn := ?_ }
  obtain ⟨oc, od, osl, fd, cc, cda, ccl, cl, cdd, cld, vs, ccs, csl, tf, r1, r2, r3, r4, r5, r6, r7⟩ := erF_ok h2
  unfold erO at e
  rw [r1] at e
  obtain ⟨n1, n2, n3, n4, n5, n6, n7, n8, n9, n10, n11, n12, n13, n14, n15⟩ := fd
  dsimp only at e r2 r3
  simp only [Option.some.injEq, Prod.mk.injEq] at e
  obtain ⟨e1, e2, e3, e4, e5, e6, e7, e8, e9⟩ := e
  subst e1 e2 e3 e4 e5 e6 e7 e8 e9 r2 r3
  exact ⟨oc, od, _, _, _, cda, cc, _, osl, _, p1, p2, a1, a2, a3, a4, a5, a6, a7, a8, a9, q1, q2, q3, q4, ccl, cl, cdd, cld, vs, ccs, csl, _, tf, r1, r4, r5, r6, hfile, r7, hl⟩
/-! ### the Hook -/
/-- the value a def's keyword default k has, if it is an object -/
def kwAt (p : Str × Option Str) (k : Str) (K : PySem.W.Frag) : Addr := match K.lookup (He.fAd K p) with
  | some o => (match o.data with
    | .func fd => (match fd.kwdefaults with
      | .ref d => (match PySem.W.nsIn K d k with
        | some (some (.ref a)) => a
        | _ => 0)
      | _ => 0)
    | _ => 0)
  | none => 0
/-- what is looked at: four steps from the module's names, and some more places -/
def asY (ps : List (PySem.W.Frag → Addr)) (g : Addr → Option Obj) : List Addr := ps.map (fun p => p (He.frG g (He.asD g 4))) ++ He.asD g 4
abbrev AlY : Type := He.AlX × List ErO
section
variable (ps : List (PySem.W.Frag → Addr)) (fa : List He.Fa) (fn : List He.DefD) (ts : List He.Tab) (tf : List He.Defn) (ex : PySem.W.Frag → Bool) (er : List Str) (ev : List ErO)
def obsYK (g : Addr → Option Obj) (K : PySem.W.Frag) : AlY := ((He.obsT fa fn ts K, ex K && He.tabsB g tf K), er.map (erO K))
def obsY (g : Addr → Option Obj) : AlY := obsYK fa fn ts tf ex er g (He.frT g (asY ps g))
def valY (w : World) : AlY := ((He.valT fn ts w, true), ev)
/-- what is told of K -/
def SaysY (w : World) (h : Heap) (K : PySem.W.Frag) : Prop := He.SaysX fa fn ts tf ex w h K ∧ er.map (erO K) = ev
theorem saysY_of {w : World} {h : Heap} (e : obsY ps fa fn ts tf ex er h.get? = valY fn ts ev w) : SaysY fa fn ts tf ex er ev w h (He.frT h.get? (asY ps h.get?)) := by
  have e1 := congrArg (fun z : AlY => z.1.1) e
  have e2 := He.ba (congrArg (fun z : AlY => z.1.2) e)
  have e3 := congrArg (fun z : AlY => z.2) e
  have at_ : ∀ p ∈ tf, ∃ o, h.get? (He.cT (He.frT h.get? (asY ps h.get?)) p).2 = some o ∧ He.emptyTab o = true := fun p hp => by
    have q := (He.ba (List.all_eq_true.mp e2.2 p hp)).2
    cases z : h.get? (He.cT (He.frT h.get? (asY ps h.get?)) p).2 with
    | some o =>
      rw [z] at q
      exact ⟨o, rfl, q⟩
    | none =>
      rw [z] at q
      exact nomatch q
  refine ⟨{ t := e1, more := e2.1, hd := fun p hp => (He.ba (List.all_eq_true.mp e2.2 p hp)).1, out := fun p hp => (at_ p hp).elim fun o q => He.frT_none q.1 q.2, empty := fun p hp => (at_ p hp).elim fun o q => ?_ }, e3⟩
  rw [q.1, He.emptyTab_eq q.2]
/-- a run told in parts: each part is looked at by a run of its own -/
def hookP : PySem.W.Hook where
  α := AlY
  obs := fun s => obsY ps fa fn ts tf ex er s.heap.get?
  val := fun w => valY fn ts ev w
  says := fun _ _ => True
  of := fun _ _ _ => trivial
  keeps := fun _ _ _ _ _ => trivial
end
def exT : PySem.W.Frag → Bool := fun _ => true
theorem saysY_keeps {fa : List He.Fa} {fn : List He.DefD} {ts : List He.Tab} {tf : List He.Defn} {ex : PySem.W.Frag → Bool} {er : List Str} {ev : List ErO} {w : World} {h h' : Heap} {K : PySem.W.Frag} (k : ∀ a o, h.get? a = some o → h'.get? a = some o) (q : SaysY fa fn ts tf ex er ev w h K) : SaysY fa fn ts tf ex er ev w h' K :=
  ⟨{ t := q.1.t, more := q.1.more, hd := q.1.hd, out := q.1.out, empty := fun p hp => k _ _ (q.1.empty p hp) }, q.2⟩
/-- the Hook: the defs, and all else -/
def hookZ (ps : List (PySem.W.Frag → Addr)) (fa : List He.Fa) (fn : List He.DefD) (ts : List He.Tab) (tf : List He.Defn) (ex : PySem.W.Frag → Bool) (er : List Str) (ev : List ErO) : PySem.W.Hook where
  α := AlY × AlY
  obs := fun s => (obsY ps [] fn [] [] exT [] s.heap.get?, obsY ps fa [] ts tf ex er s.heap.get?)
  val := fun w => (valY fn [] [] w, valY [] ts ev w)
  says := fun w h => ∃ K : PySem.W.Frag, K.In h ∧ SaysY [] fn [] [] exT [] [] w h K ∧ SaysY fa [] ts tf ex er ev w h K
  of := fun _ _ e => ⟨_, He.frT_in, saysY_of ps [] fn [] [] exT [] [] (Prod.mk.inj e).1, saysY_of ps fa [] ts tf ex er ev (Prod.mk.inj e).2⟩
  keeps := fun _ _ _ x k => x.elim fun K q => ⟨K, q.1.keeps k, saysY_keeps k q.2.1, saysY_keeps k q.2.2⟩
theorem run_pair {r : PySem.W.OpenRow} {q : Program} {H1 H2 H3 : PySem.W.Hook} {o1 : PySem.W.SharedT → H1.α} {o2 : PySem.W.SharedT → H2.α} {o3 : PySem.W.SharedT → H3.α} {M : Nat} {loose : List Str} {w : World} (h1 : HandSHeadRun.RunEq r q H1 o1 M loose w) (h2 : HandSHeadRun.RunEq r q H2 o2 M loose w)
    (h : ∀ s, o1 s = H1.val w → o2 s = H2.val w → o3 s = H3.val w) : HandSHeadRun.RunEq r q H3 o3 M loose w := by
  intro os
  have e1 := h1 os
  have e2 := h2 os
  revert e1 e2
  generalize HandSHeadRun.endF (HandSHeadRun.stepQ (HandSHeadRun.denQ HandSHeadRun.tabQ) r.prog w) M r.prog w os = x
  intro e1 e2
  cases x with
  | none => exact nomatch e1
  | some s =>
    have e1 := Option.some.inj e1
    have e2 := Option.some.inj e2
    obtain ⟨a1, e1⟩ := Prod.mk.inj e1
    obtain ⟨b1, c1⟩ := Prod.mk.inj e1
    obtain ⟨_, e2⟩ := Prod.mk.inj e2
    obtain ⟨_, c2⟩ := Prod.mk.inj e2
    exact congrArg some (Prod.ext a1 (Prod.ext b1 (h s c1 c2)))
end TW
set_option Elab.async false
set_option linter.all false
set_option maxRecDepth 100000
set_option maxHeartbeats 0
namespace TW
open PySem PySem.Spec PyProof.Rows L2
abbrev hR : PySem.W.OpenRow := PySem.W.OpenLaw.row PySem.Challenge.rw_thawedwrites_k14_run_plain_values
def hTE : PySem.W.Frag → Addr := kwAt ("Program", some "__init__") "outputs"
def nsA (K : PySem.W.Frag) (D : Addr) (k : Str) : Addr := match PySem.W.nsIn K D k with
  | some (some (.ref a)) => a
  | _ => 0
def slotB (K : PySem.W.Frag) (D : Addr) (k : Str) (ws : List Str) : Bool := He.eqO (PySem.W.nsIn K D k) (some (some (.ref (nsA K D k)))) && tupAt K (nsA K D k) ws
theorem slotB_ok {K : PySem.W.Frag} {D : Addr} {k : Str} {ws : List Str} (h : slotB K D k ws = true) : ∃ T, PySem.W.nsIn K D k = some (some (.ref T)) ∧ ∀ H, SqT K H T (ws.map V.str) := ⟨_, He.eqO_ok (He.ba h).1, tupAt_ok (He.ba h).2⟩
def hn0 : List PySem.Str := (["_wall", "__name__", "ThawError", "InvalidHeap", "InvalidProgram", "InvalidArgument", "LimitExceeded", "MOST_LETTERS", "MOST_FIELDS", "is_integer", "is_between", "is_word", "is_one_of", "are_words", "are_fields", "MOST_OBJECTS", "MOST_NAMES", "Heap", "check_objects", "check_names", "is_object", "is_held", "is_path", "near_numbers", "normal_form", "new_numbers", "MOST_STARTS", "Machine", "source_of", "FORMS"] : List PySem.Str)
def hn1 : List PySem.Str := (["KINDS", "MOST_DEPTH", "has_form", "has_names", "is_right", "is_depth", "is_place", "row_variables", "branches", "with_branches", "copied_rows", "copied_row", "placed_rows", "steps_of", "inner_rows", "Walk", "Run", "fits", "MOST_INPUTS", "MOST_OUTPUTS", "MOST_ROWS", "MOST_VARIABLES", "MOST_COPIES", "MOST_WATCHES", "LONGEST_PLACE", "Program", "checked_rows", "check_row", "all_variables", "check_many"] : List PySem.Str)
def hn2 : List PySem.Str := (["_law_draw", "_law_pick", "_law_word", "_law_words", "_law_value", "_law_objects", "_law_names", "_law_exact", "_law_refused", "_law_no_heap", "_law_refusals"] : List PySem.Str)
def hnames : List PySem.Str := hn0 ++ hn1 ++ hn2
def hfa0 : List He.Fa := [.glo "is_integer", .glo "is_between", .glo "is_word", .glo "is_one_of", .glo "are_words", .glo "are_fields", .glo "has_form", .glo "has_names", .glo "is_right", .glo "is_depth", .glo "row_variables", .glo "branches", .glo "with_branches", .glo "copied_rows", .glo "copied_row", .glo "placed_rows", .glo "inner_rows", .glo "checked_rows", .glo "check_row", .glo "all_variables", .glo "check_many", .glo "check_objects", .glo "check_names", .glo "is_object", .glo "is_held", .glo "normal_form", .glo "new_numbers", .glo "steps_of", .glo "fits", .glo "_law_draw"]
def hfa1 : List He.Fa := [.glo "_law_pick", .glo "_law_word", .glo "_law_words", .glo "_law_value", .glo "_law_objects", .glo "_law_names", .glo "_law_exact", .glo "_law_refused", .glo "_law_no_heap", .glo "_law_refusals", .glo "law", .glo "Heap", .cls "Heap", .noat "Heap" "fields", .noat "Heap" "_objects", .noat "Heap" "_names", .noat "Heap" "_form", .noat "Heap" "rows", .meth "Heap" "__init__", .meth "Heap" "__len__", .meth "Heap" "objects", .meth "Heap" "names", .mkr "Heap", .glo "Program", .cls "Program", .noat "Program" "inputs", .noat "Program" "fields", .noat "Program" "outputs", .noat "Program" "_rows", .noat "Program" "_table"]
def hfa2 : List He.Fa := [.noat "Program" "_variables", .meth "Program" "__init__", .meth "Program" "rows", .meth "Program" "variables", .mkr "Program", .glo "Machine", .cls "Machine", .noat "Machine" "fields", .noat "Machine" "_starts", .noat "Machine" "_variables", .noat "Machine" "_cells", .noat "Machine" "_sources", .noat "Machine" "_frozen", .noat "Machine" "_readers", .noat "Machine" "_looks", .noat "Machine" "_copies", .noat "Machine" "_puts", .noat "Machine" "_reached", .noat "Machine" "_views", .noat "Machine" "_kept_copies", .noat "Machine" "_kept_puts", .noat "Machine" "_log", .noat "Machine" "_before", .meth "Machine" "__init__", .meth "Machine" "held", .meth "Machine" "made", .meth "Machine" "looks", .meth "Machine" "_write", .meth "Machine" "_nothing", .meth "Machine" "value"]
def hfa3 : List He.Fa := [.meth "Machine" "reached", .meth "Machine" "_make", .meth "Machine" "do", .mkr "Machine", .glo "Walk", .cls "Walk", .noat "Walk" "machine", .noat "Walk" "written", .noat "Walk" "ending", .meth "Walk" "__init__", .meth "Walk" "_do_steps", .meth "Walk" "pairs", .mkr "Walk", .glo "Run", .cls "Run", .noat "Run" "_variables", .noat "Run" "_machine", .noat "Run" "_walk", .meth "Run" "__init__", .meth "Run" "value", .meth "Run" "end", .meth "Run" "made", .meth "Run" "looks", .meth "Run" "reached", .mkr "Run", .free "len", .free "int", .free "list", .free "tuple", .free "dict"]
def hfa4 : List He.Fa := [.free "set", .free "all", .free "range", .free "enumerate", .free "sorted", .free "min", .free "isinstance", .free "bool", .free "str", .free "zip", .free "ValueError", .free "super", .free "repr", .int "MOST_LETTERS" 8, .int "MOST_FIELDS" 2, .int "MOST_DEPTH" 4, .int "MOST_INPUTS" 3, .int "MOST_OUTPUTS" 3, .int "MOST_ROWS" 20, .int "MOST_VARIABLES" 6, .int "MOST_COPIES" 4, .int "MOST_WATCHES" 3, .int "LONGEST_PLACE" 7, .int "MOST_OBJECTS" 200, .int "MOST_NAMES" 6, .int "MOST_STARTS" 100, .glo "FORMS", .glo "KINDS", .glo "InvalidArgument"]
def hfa : List He.Fa := hfa0 ++ hfa1 ++ hfa2 ++ hfa3 ++ hfa4
def dd_is_integer : He.DefD := ⟨("is_integer", none), "is_integer", "is_integer", defArgs (topS 10), defBody (topS 10), defScope (topS 10), [], []⟩
def dd_is_between : He.DefD := ⟨("is_between", none), "is_between", "is_between", defArgs (topS 11), defBody (topS 11), defScope (topS 11), [], []⟩
def dd_is_word : He.DefD := ⟨("is_word", none), "is_word", "is_word", defArgs (topS 12), defBody (topS 12), defScope (topS 12), [], []⟩
def dd_is_one_of : He.DefD := ⟨("is_one_of", none), "is_one_of", "is_one_of", defArgs (topS 13), defBody (topS 13), defScope (topS 13), [], []⟩
def dd_are_words : He.DefD := ⟨("are_words", none), "are_words", "are_words", defArgs (topS 14), defBody (topS 14), defScope (topS 14), [], []⟩
def dd_are_fields : He.DefD := ⟨("are_fields", none), "are_fields", "are_fields", defArgs (topS 15), defBody (topS 15), defScope (topS 15), [], []⟩
def dd_has_form : He.DefD := ⟨("has_form", none), "has_form", "has_form", defArgs (topS 36), defBody (topS 36), defScope (topS 36), [], []⟩
def dd_has_names : He.DefD := ⟨("has_names", none), "has_names", "has_names", defArgs (topS 37), defBody (topS 37), defScope (topS 37), [], []⟩
def dd_is_right : He.DefD := ⟨("is_right", none), "is_right", "is_right", defArgs (topS 38), defBody (topS 38), defScope (topS 38), [], []⟩
def dd_is_depth : He.DefD := ⟨("is_depth", none), "is_depth", "is_depth", defArgs (topS 39), defBody (topS 39), defScope (topS 39), [], []⟩
def dd_row_variables : He.DefD := ⟨("row_variables", none), "row_variables", "row_variables", defArgs (topS 41), defBody (topS 41), defScope (topS 41), [], []⟩
def dd_branches : He.DefD := ⟨("branches", none), "branches", "branches", defArgs (topS 42), defBody (topS 42), defScope (topS 42), [], []⟩
def dd_with_branches : He.DefD := ⟨("with_branches", none), "with_branches", "with_branches", defArgs (topS 43), defBody (topS 43), defScope (topS 43), [], []⟩
def dd_copied_rows : He.DefD := ⟨("copied_rows", none), "copied_rows", "copied_rows", defArgs (topS 44), defBody (topS 44), defScope (topS 44), [], []⟩
def dd_copied_row : He.DefD := ⟨("copied_row", none), "copied_row", "copied_row", defArgs (topS 45), defBody (topS 45), defScope (topS 45), [], []⟩
def dd_placed_rows : He.DefD := ⟨("placed_rows", none), "placed_rows", "placed_rows", defArgs (topS 46), defBody (topS 46), defScope (topS 46), [], []⟩
def dd_inner_rows : He.DefD := ⟨("inner_rows", none), "inner_rows", "inner_rows", defArgs (topS 48), defBody (topS 48), defScope (topS 48), [], []⟩
def dd_checked_rows : He.DefD := ⟨("checked_rows", none), "checked_rows", "checked_rows", defArgs (topS 63), defBody (topS 63), defScope (topS 63), [], []⟩
def dd_check_row : He.DefD := ⟨("check_row", none), "check_row", "check_row", defArgs (topS 64), defBody (topS 64), defScope (topS 64), [], []⟩
def dd_all_variables : He.DefD := ⟨("all_variables", none), "all_variables", "all_variables", defArgs (topS 65), defBody (topS 65), defScope (topS 65), [], []⟩
def dd_check_many : He.DefD := ⟨("check_many", none), "check_many", "check_many", defArgs (topS 66), defBody (topS 66), defScope (topS 66), [], []⟩
def dd_check_objects : He.DefD := ⟨("check_objects", none), "check_objects", "check_objects", defArgs (topS 20), defBody (topS 20), defScope (topS 20), [], []⟩
def dd_check_names : He.DefD := ⟨("check_names", none), "check_names", "check_names", defArgs (topS 21), defBody (topS 21), defScope (topS 21), [], []⟩
def dd_is_object : He.DefD := ⟨("is_object", none), "is_object", "is_object", defArgs (topS 22), defBody (topS 22), defScope (topS 22), [], []⟩
def dd_is_held : He.DefD := ⟨("is_held", none), "is_held", "is_held", defArgs (topS 23), defBody (topS 23), defScope (topS 23), [], []⟩
def dd_normal_form : He.DefD := ⟨("normal_form", none), "normal_form", "normal_form", defArgs (topS 26), defBody (topS 26), defScope (topS 26), [], []⟩
def dd_new_numbers : He.DefD := ⟨("new_numbers", none), "new_numbers", "new_numbers", defArgs (topS 27), defBody (topS 27), defScope (topS 27), [], []⟩
def dd_steps_of : He.DefD := ⟨("steps_of", none), "steps_of", "steps_of", defArgs (topS 47), defBody (topS 47), defScope (topS 47), [], []⟩
def dd_fits : He.DefD := ⟨("fits", none), "fits", "fits", defArgs (topS 53), defBody (topS 53), defScope (topS 53), [], []⟩
def dd_law_draw : He.DefD := ⟨("_law_draw", none), "_law_draw", "_law_draw", defArgs (topS 68), defBody (topS 68), defScope (topS 68), [], []⟩
def dd_law_pick : He.DefD := ⟨("_law_pick", none), "_law_pick", "_law_pick", defArgs (topS 69), defBody (topS 69), defScope (topS 69), [], []⟩
def dd_law_word : He.DefD := ⟨("_law_word", none), "_law_word", "_law_word", defArgs (topS 70), defBody (topS 70), defScope (topS 70), [], []⟩
def dd_law_words : He.DefD := ⟨("_law_words", none), "_law_words", "_law_words", defArgs (topS 71), defBody (topS 71), defScope (topS 71), [], []⟩
def dd_law_value : He.DefD := ⟨("_law_value", none), "_law_value", "_law_value", defArgs (topS 72), defBody (topS 72), defScope (topS 72), [], []⟩
def dd_law_objects : He.DefD := ⟨("_law_objects", none), "_law_objects", "_law_objects", defArgs (topS 73), defBody (topS 73), defScope (topS 73), [], []⟩
def dd_law_names : He.DefD := ⟨("_law_names", none), "_law_names", "_law_names", defArgs (topS 74), defBody (topS 74), defScope (topS 74), [], []⟩
def dd_law_exact : He.DefD := ⟨("_law_exact", none), "_law_exact", "_law_exact", defArgs (topS 75), defBody (topS 75), defScope (topS 75), [], []⟩
def dd_law_refused : He.DefD := ⟨("_law_refused", none), "_law_refused", "_law_refused", defArgs (topS 76), defBody (topS 76), defScope (topS 76), [], []⟩
def dd_law_no_heap : He.DefD := ⟨("_law_no_heap", none), "_law_no_heap", "_law_no_heap", defArgs (topS 77), defBody (topS 77), defScope (topS 77), [], []⟩
def dd_law_refusals : He.DefD := ⟨("_law_refusals", none), "_law_refusals", "_law_refusals", defArgs (topS 78), defBody (topS 78), defScope (topS 78), [], []⟩
def dd_law : He.DefD := ⟨("law", none), "law", "law", defArgs (topS 79), defBody (topS 79), defScope (topS 79), [], []⟩
def dd_h_init : He.DefD := ⟨("Heap", some "__init__"), "__init__", "Heap.__init__", defArgs (inClass (topS 19) 0), defBody (inClass (topS 19) 0), defScope (inClass (topS 19) 0), [], []⟩
def dd_h_len : He.DefD := ⟨("Heap", some "__len__"), "__len__", "Heap.__len__", defArgs (inClass (topS 19) 4), defBody (inClass (topS 19) 4), defScope (inClass (topS 19) 4), [], []⟩
def dd_h_objects : He.DefD := ⟨("Heap", some "objects"), "objects", "Heap.objects", defArgs (inClass (topS 19) 6), defBody (inClass (topS 19) 6), defScope (inClass (topS 19) 6), [], []⟩
def dd_h_names : He.DefD := ⟨("Heap", some "names"), "names", "Heap.names", defArgs (inClass (topS 19) 7), defBody (inClass (topS 19) 7), defScope (inClass (topS 19) 7), [], []⟩
def dd_m_init : He.DefD := ⟨("Program", some "__init__"), "__init__", "Program.__init__", defArgs (inClass (topS 62) 0), defBody (inClass (topS 62) 0), defScope (inClass (topS 62) 0), [], [("outputs", .adr hTE)]⟩
def dd_m_rows : He.DefD := ⟨("Program", some "rows"), "rows", "Program.rows", defArgs (inClass (topS 62) 3), defBody (inClass (topS 62) 3), defScope (inClass (topS 62) 3), [], []⟩
def dd_m_variables : He.DefD := ⟨("Program", some "variables"), "variables", "Program.variables", defArgs (inClass (topS 62) 9), defBody (inClass (topS 62) 9), defScope (inClass (topS 62) 9), [], []⟩
def dd_x_init : He.DefD := ⟨("Machine", some "__init__"), "__init__", "Machine.__init__", defArgs (inClass (topS 30) 0), defBody (inClass (topS 30) 0), defScope (inClass (topS 30) 0), [], []⟩
def dd_x_held : He.DefD := ⟨("Machine", some "held"), "held", "Machine.held", defArgs (inClass (topS 30) 1), defBody (inClass (topS 30) 1), defScope (inClass (topS 30) 1), [], []⟩
def dd_x_made : He.DefD := ⟨("Machine", some "made"), "made", "Machine.made", defArgs (inClass (topS 30) 5), defBody (inClass (topS 30) 5), defScope (inClass (topS 30) 5), [], []⟩
def dd_x_looks : He.DefD := ⟨("Machine", some "looks"), "looks", "Machine.looks", defArgs (inClass (topS 30) 7), defBody (inClass (topS 30) 7), defScope (inClass (topS 30) 7), [], []⟩
def dd_x_write : He.DefD := ⟨("Machine", some "_write"), "_write", "Machine._write", defArgs (inClass (topS 30) 17), defBody (inClass (topS 30) 17), defScope (inClass (topS 30) 17), [], []⟩
def dd_x_nothing : He.DefD := ⟨("Machine", some "_nothing"), "_nothing", "Machine._nothing", defArgs (inClass (topS 30) 28), defBody (inClass (topS 30) 28), defScope (inClass (topS 30) 28), [], []⟩
def dd_x_value : He.DefD := ⟨("Machine", some "value"), "value", "Machine.value", defArgs (inClass (topS 30) 3), defBody (inClass (topS 30) 3), defScope (inClass (topS 30) 3), [], []⟩
def dd_x_reached : He.DefD := ⟨("Machine", some "reached"), "reached", "Machine.reached", defArgs (inClass (topS 30) 8), defBody (inClass (topS 30) 8), defScope (inClass (topS 30) 8), [], []⟩
def dd_x_make : He.DefD := ⟨("Machine", some "_make"), "_make", "Machine._make", defArgs (inClass (topS 30) 26), defBody (inClass (topS 30) 26), defScope (inClass (topS 30) 26), [], []⟩
def dd_x_do : He.DefD := ⟨("Machine", some "do"), "do", "Machine.do", defArgs (inClass (topS 30) 10), defBody (inClass (topS 30) 10), defScope (inClass (topS 30) 10), [], []⟩
def dd_wk_init : He.DefD := ⟨("Walk", some "__init__"), "__init__", "Walk.__init__", defArgs (inClass (topS 50) 0), defBody (inClass (topS 50) 0), defScope (inClass (topS 50) 0), [], []⟩
def dd_wk_do_steps : He.DefD := ⟨("Walk", some "_do_steps"), "_do_steps", "Walk._do_steps", defArgs (inClass (topS 50) 2), defBody (inClass (topS 50) 2), defScope (inClass (topS 50) 2), [], []⟩
def dd_wk_pairs : He.DefD := ⟨("Walk", some "pairs"), "pairs", "Walk.pairs", defArgs (inClass (topS 50) 1), defBody (inClass (topS 50) 1), defScope (inClass (topS 50) 1), [], []⟩
def dd_r_init : He.DefD := ⟨("Run", some "__init__"), "__init__", "Run.__init__", defArgs (inClass (topS 52) 0), defBody (inClass (topS 52) 0), defScope (inClass (topS 52) 0), [], []⟩
def dd_r_value : He.DefD := ⟨("Run", some "value"), "value", "Run.value", defArgs (inClass (topS 52) 4), defBody (inClass (topS 52) 4), defScope (inClass (topS 52) 4), [], []⟩
def dd_r_end : He.DefD := ⟨("Run", some "end"), "end", "Run.end", defArgs (inClass (topS 52) 1), defBody (inClass (topS 52) 1), defScope (inClass (topS 52) 1), [], []⟩
def dd_r_made : He.DefD := ⟨("Run", some "made"), "made", "Run.made", defArgs (inClass (topS 52) 3), defBody (inClass (topS 52) 3), defScope (inClass (topS 52) 3), [], []⟩
def dd_r_looks : He.DefD := ⟨("Run", some "looks"), "looks", "Run.looks", defArgs (inClass (topS 52) 5), defBody (inClass (topS 52) 5), defScope (inClass (topS 52) 5), [], []⟩
def dd_r_reached : He.DefD := ⟨("Run", some "reached"), "reached", "Run.reached", defArgs (inClass (topS 52) 2), defBody (inClass (topS 52) 2), defScope (inClass (topS 52) 2), [], []⟩
def hfn0 : List He.DefD := [dd_is_integer, dd_is_between, dd_is_word, dd_is_one_of, dd_are_words, dd_are_fields, dd_has_form, dd_has_names, dd_is_right, dd_is_depth, dd_row_variables, dd_branches, dd_with_branches, dd_copied_rows, dd_copied_row, dd_placed_rows, dd_inner_rows, dd_checked_rows, dd_check_row, dd_all_variables, dd_check_many, dd_check_objects, dd_check_names, dd_is_object, dd_is_held, dd_normal_form, dd_new_numbers, dd_steps_of, dd_fits, dd_law_draw]
def hfn1 : List He.DefD := [dd_law_pick, dd_law_word, dd_law_words, dd_law_value, dd_law_objects, dd_law_names, dd_law_exact, dd_law_refused, dd_law_no_heap, dd_law_refusals, dd_law, dd_h_init, dd_h_len, dd_h_objects, dd_h_names, dd_m_init, dd_m_rows, dd_m_variables, dd_x_init, dd_x_held, dd_x_made, dd_x_looks, dd_x_write, dd_x_nothing, dd_x_value, dd_x_reached, dd_x_make, dd_x_do, dd_wk_init, dd_wk_do_steps]
def hfn2 : List He.DefD := [dd_wk_pairs, dd_r_init, dd_r_value, dd_r_end, dd_r_made, dd_r_looks, dd_r_reached]
def hfn : List He.DefD := hfn0 ++ hfn1 ++ hfn2
def hts : List He.Tab := [(fun K => He.ga K "FORMS", ["move", "none", "new", "look", "put", "copy", "watch", "same", "empty"])]
def htf : List He.Defn := [("normal_form", none)]
def hx0 (K : PySem.W.Frag) : Bool := objB K
def hx1 (K : PySem.W.Frag) : Bool := hciB K (He.ga K "Heap")
def hx2 (K : PySem.W.Frag) : Bool := clsB K (He.ga K "Heap")
def hx3 (K : PySem.W.Frag) : Bool := hciB K (He.ga K "Program")
def hx4 (K : PySem.W.Frag) : Bool := subB K (.type "NoneType") (He.ga K "Heap")
def hx5 (K : PySem.W.Frag) : Bool := subB K (.type "int") (He.ga K "Heap")
def hx6 (K : PySem.W.Frag) : Bool := subB K (.type "str") (He.ga K "Heap")
def hx7 (K : PySem.W.Frag) : Bool := subB K (.type "list") (He.ga K "Heap")
def hx8 (K : PySem.W.Frag) : Bool := subB K (.type "dict") (He.ga K "Heap")
def hx9 (K : PySem.W.Frag) : Bool := subB K (.ref (He.ga K "Program")) (He.ga K "Heap")
def hx10 (K : PySem.W.Frag) : Bool := tupAt K (hTE K) []
def hx11 (K : PySem.W.Frag) : Bool := tupAt K (He.ga K "KINDS") (["freeze", "thaw"] : List PySem.Str)
def hx12 (K : PySem.W.Frag) : Bool := slotB K (He.ga K "FORMS") "move" (["variable", "variable"] : List PySem.Str)
def hx13 (K : PySem.W.Frag) : Bool := slotB K (He.ga K "FORMS") "none" (["variable"] : List PySem.Str)
def hx14 (K : PySem.W.Frag) : Bool := slotB K (He.ga K "FORMS") "new" (["variable"] : List PySem.Str)
def hx15 (K : PySem.W.Frag) : Bool := slotB K (He.ga K "FORMS") "look" (["variable", "variable", "field"] : List PySem.Str)
def hx16 (K : PySem.W.Frag) : Bool := slotB K (He.ga K "FORMS") "put" (["variable", "field", "variable"] : List PySem.Str)
def hx17 (K : PySem.W.Frag) : Bool := slotB K (He.ga K "FORMS") "copy" (["variable", "variable", "kind", "depth"] : List PySem.Str)
def hx18 (K : PySem.W.Frag) : Bool := slotB K (He.ga K "FORMS") "watch" (["reader", "variable", "depth"] : List PySem.Str)
def hx19 (K : PySem.W.Frag) : Bool := slotB K (He.ga K "FORMS") "same" (["variable", "variable", "rows", "rows"] : List PySem.Str)
def hx20 (K : PySem.W.Frag) : Bool := slotB K (He.ga K "FORMS") "empty" (["variable", "rows", "rows"] : List PySem.Str)
def hx21 (K : PySem.W.Frag) : Bool := erB K "InvalidArgument" "InvalidArgument.__init__"
def hexL : List (PySem.W.Frag → Bool) := [hx0, hx1, hx2, hx3, hx4, hx5, hx6, hx7, hx8, hx9, hx10, hx11, hx12, hx13, hx14, hx15, hx16, hx17, hx18, hx19, hx20, hx21]
def hex (K : PySem.W.Frag) : Bool := hexL.all fun b => b K
theorem hex_at {K : PySem.W.Frag} (h : hex K = true) (i : Nat) {b : PySem.W.Frag → Bool} (hb : hexL[i]? = some b := by rfl) : b K = true := List.all_eq_true.mp h b (List.mem_of_getElem? hb)
def her : List Str := ["InvalidArgument"]
def hps : List (PySem.W.Frag → Addr) := [hTE, fun _ => cStatics]
def hev : List ErO := [some (("__init__" : Str), ("InvalidArgument.__init__" : Str), PySem.ErrX.eArgs ⟨21, 17, 21, 21⟩ ⟨21, 23, 21, 27⟩, FuncBody.stmts (PySem.ErrX.eBody "wrong argument: " ⟨22, 8, 22, 13⟩ ⟨22, 8, 22, 15⟩ ⟨22, 8, 22, 24⟩ ⟨22, 27, 22, 43⟩ ⟨22, 44, 22, 48⟩ ⟨22, 43, 22, 49⟩ ⟨22, 25, 22, 50⟩ ⟨22, 8, 22, 51⟩ ⟨22, 8, 22, 51⟩ ⟨23, 8, 23, 12⟩ ⟨23, 8, 23, 17⟩ ⟨23, 20, 23, 24⟩ ⟨23, 8, 23, 24⟩), PySem.ErrX.eScope, mainGlobals, builtinsNs, Value.none, Value.none)]
abbrev hk1 : PySem.W.Hook := hookP hps [] hfn [] [] exT [] []
def ho1 (s : PySem.W.SharedT) : AlY := obsY hps [] hfn [] [] exT [] (HandSHeadRun.getT s)
theorem hr1F (w : World) : HandSHeadRun.RunEq hR (PySem.W.view hR.prog [79]) hk1 ho1 6500 hnames (w.withFollow "special-get-raises" false) := by intro os; kernel_rfl
theorem hr1T (w : World) : HandSHeadRun.RunEq hR (PySem.W.view hR.prog [79]) hk1 ho1 6500 hnames (w.withFollow "special-get-raises" true) := by intro os; kernel_rfl
theorem hr1 (w : World) : HandSHeadRun.RunEq hR (PySem.W.view hR.prog [79]) hk1 ho1 6500 hnames w := PySem.W.byRow2 "special-get-raises" (P := fun w => HandSHeadRun.RunEq hR (PySem.W.view hR.prog [79]) hk1 ho1 6500 hnames w) hr1F hr1T w
abbrev hk2 : PySem.W.Hook := hookP hps hfa [] hts htf hex her hev
def ho2 (s : PySem.W.SharedT) : AlY := obsY hps hfa [] hts htf hex her (HandSHeadRun.getT s)
theorem hr2F (w : World) : HandSHeadRun.RunEq hR (PySem.W.view hR.prog [79]) hk2 ho2 6500 hnames (w.withFollow "special-get-raises" false) := by intro os; kernel_rfl
theorem hr2T (w : World) : HandSHeadRun.RunEq hR (PySem.W.view hR.prog [79]) hk2 ho2 6500 hnames (w.withFollow "special-get-raises" true) := by intro os; kernel_rfl
theorem hr2 (w : World) : HandSHeadRun.RunEq hR (PySem.W.view hR.prog [79]) hk2 ho2 6500 hnames w := PySem.W.byRow2 "special-get-raises" (P := fun w => HandSHeadRun.RunEq hR (PySem.W.view hR.prog [79]) hk2 ho2 6500 hnames w) hr2F hr2T w
abbrev hhk : PySem.W.Hook := hookZ hps hfa hfn hts htf hex her hev
def hob (s : PySem.W.SharedT) : AlY × AlY := (ho1 s, ho2 s)
theorem hob_eq (s : PySem.W.SharedT) : hob s = hhk.obs s.abs := by
  have e : HandSHeadRun.getT s = s.abs.heap.get? := funext (HandSHeadRun.getT_eq s)
  unfold hob ho1 ho2
  rw [e]
  rfl
theorem hrun (w : World) : HandSHeadRun.RunEq hR (PySem.W.view hR.prog [79]) hhk hob 6500 hnames w := run_pair (hr1 w) (hr2 w) fun s e1 e2 => Prod.ext e1 e2
end TW
set_option Elab.async false
set_option linter.all false
set_option maxRecDepth 100000
namespace TW
open PySem PySem.Spec PyProof.Rows L2
/-! heaps: all but p and c stays -/
def Fr (p c : Addr) (H H' : Hp) : Prop := ∀ b o, b ≠ p → b ≠ c → H b = some o → H' b = some o
theorem Fr.refl (p c : Addr) (H : Hp) : Fr p c H H := fun _ _ _ _ h => h
theorem Fr.trans {p c : Addr} {H H1 H2 : Hp} (a : Fr p c H H1) (b : Fr p c H1 H2) : Fr p c H H2 := fun x o h1 h2 h => b x o h1 h2 (a x o h1 h2 h)
theorem Fr.of_same {p c : Addr} {H H' : Hp} (a : Same H H') : Fr p c H H' := fun b o _ _ h => a b o h
theorem Fr.updP {p c : Addr} {H H' : Hp} {o : HO} (a : Fr p c H H') : Fr p c H (upd H' p o) := fun b x h1 h2 h => by
  rw [upd_ne h1]; exact a b x h1 h2 h
theorem Fr.updC {p c : Addr} {H H' : Hp} {o : HO} (a : Fr p c H H') : Fr p c H (upd H' c o) := fun b x h1 h2 h => by
  rw [upd_ne h2]; exact a b x h1 h2 h
theorem Fr.updN {p c q : Addr} {H H' : Hp} {o : HO} (a : Fr p c H H') (n : H q = none) : Fr p c H (upd H' q o) := fun b x h1 h2 h => by
  rw [upd_ne (ne_of_none h n)]; exact a b x h1 h2 h
/-- the pool at p, its cells at c -/
structure Pool (p c : Addr) (H : Hp) : Prop where
  ne : p ≠ c
  ex : ∃ (xs : List Int) (at' n : Nat), H p = some (.lst [.ref c, .int (at' : Int), .int (n : Int)]) ∧ H c = some (.lst (xs.map V.int)) ∧ xs.length ≤ 63
theorem Pool.frN {p c q : Addr} {H : Hp} {o : HO} (P : Pool p c H) (n : H q = none) : Pool p c (upd H q o) := by
  obtain ⟨xs, a, m, h1, h2, h3⟩ := P.ex
  exact ⟨P.ne, xs, a, m, by rw [upd_ne (ne_of_none h1 n)]; exact h1, by rw [upd_ne (ne_of_none h2 n)]; exact h2, h3⟩
theorem Pool.same {p c : Addr} {H H' : Hp} (P : Pool p c H) (s : Same H H') : Pool p c H' := by
  obtain ⟨xs, a, m, h1, h2, h3⟩ := P.ex
  exact ⟨P.ne, xs, a, m, s _ _ h1, s _ _ h2, h3⟩
theorem Pool.np {p c q : Addr} {H : Hp} (P : Pool p c H) (n : H q = none) : q ≠ p ∧ q ≠ c := by
  obtain ⟨xs, a, m, h1, h2, h3⟩ := P.ex
  exact ⟨(ne_of_none h1 n).symm, (ne_of_none h2 n).symm⟩
def spDraw : Sp := fun vs H Q _ => ∃ (p c : Addr) (l : Int), vs = [.ref p, .int l] ∧ Pool p c H ∧ 0 < l ∧ l.natAbs.log2 < 9000 ∧
  ∀ (r : Int) (H' : Hp), 0 ≤ r → r < l → Pool p c H' → Fr p c H H' → Q (.int r) H'
theorem atI_of {α : Type} {xs : List α} {i : Int} {j : Nat} {v : α} (e : i = (j : Int)) (h : xs[j]? = some v) : atI xs i = some v := by
  subst e; exact atI_nat h
theorem ixN_of {n : Nat} {i : Int} {j : Nat} (e : i = (j : Int)) (h : j < n) : ixN n i = some j := by
  subst e
  unfold ixN
  rw [if_pos (by omega), if_pos (by omega)]
  simp
theorem get_map_int {xs : List Int} {j : Nat} (h : j < xs.length) : (xs.map V.int)[j]? = some (.int xs[j]) := by
  rw [List.getElem?_map, List.getElem?_eq_getElem h]; rfl
theorem pos1 : (0 : Int) < 2147483629 := by decide
theorem pos2 : (0 : Int) < 2147483647 := by decide
theorem pos3 : (0 : Int) < 2147483399 := by decide
theorem cmul_l {i j m : Int} (h : 0 < m) (h2 : m < 2 ^ 64) : CMul (i % m) j := by
  have h3 := Int.emod_nonneg i (show m ≠ 0 by omega)
  have h4 := Int.emod_lt_of_pos i h
  exact .inl ⟨by omega, by omega⟩
section
variable {P : Program} {w : World} {K : PySem.W.Frag} {mg : Str → Option Value} {base : Heap}
abbrev S_law_draw : Stmt := topS 68
abbrev N_law_draw : List Str := ["_law_pool", "_law_limit", "_law_cells", "_law_at", "_law_digit", "_law_cell", "_law_number"]
abbrev P_law_draw : List Str := ["_law_pool", "_law_limit"]
theorem sc_law_draw : FnScope N_law_draw P_law_draw (defScope S_law_draw) := ⟨rfl, rfl, rfl, by decide +kernel, rfl, by decide +kernel, by decide +kernel⟩
set_option maxHeartbeats 4000000 in
theorem ok_draw {f : Addr} {fd : FuncData} (F : Fun K "_law_draw" "_law_draw" S_law_draw f fd) (B : Bl mg) : FnOk P w K mg base CX0 1 f fd ["_law_pool", "_law_limit"] spDraw := by
  refine F.ok sc_law_draw (fun vs H Q E h => ?_) (fun cdv A outer s H vs Q E hr h => ?_)
  · obtain ⟨p, c, l, rfl, _⟩ := h
    rfl
  · obtain ⟨p, c, l, rfl, PL, hl, hb, k⟩ := h
    obtain ⟨ne, xs, at', n, hp, hc, hx⟩ := PL
    refine ⟨_, (pss_cons (ps_set (i := 2) sc_law_draw.nd rfl (by first | exact Or.inl rfl | exact Or.inr rfl) (pe_ix ix_list (pv 0) pe_int (fun _ _ => rfl)))
 (pss_cons (ps_set (i := 3) sc_law_draw.nd rfl (by first | exact Or.inl rfl | exact Or.inr rfl) (pe_ix ix_list (pv 0) pe_int (fun _ _ => rfl)))
 (pss_cons (ps_asg (pe_op op_add (pe_ix ix_list (pv 0) pe_int (fun _ _ => rfl)) pe_int) (pg_sub (pv 0) pe_int set_list))
 (pss_cons (ps_if (PW.pt (pw_and (pt_cmpR op_lt (pv 3) (pe_callB call_len_seq (by rfl) B.m_len PySem.boot_len (pa_cons (pv 2) pa_nil)) (nomark _)) (pw_and1 (pt_cmpR op_ge (pe_ix ix_list (pv 2) (pv 3) (fun _ _ => rfl)) (pe_op op_pow pe_int pe_int) (nomark _))))) (pss_cons (ps_set (i := 4) sc_law_draw.nd rfl (by first | exact Or.inl rfl | exact Or.inr rfl) (pe_op op_mod (pe_callTy call_int1 (by rfl) B.m_int (by decide +kernel) (pa_cons (pe_ix ix_list (pv 2) (pv 3) (fun _ _ => rfl)) pa_nil)) (pv 1)))
 (pss_cons (ps_asg (pe_op op_fdivW (pe_ix ix_list (pv 2) (pv 3) (fun _ _ => rfl)) (pv 1)) (pg_sub (pv 2) (pv 3) set_list))
 (pss_cons (ps_if (pt_cmpR op_lt (pe_ix ix_list (pv 2) (pv 3) (fun _ _ => rfl)) (pe_op op_pow pe_int pe_int) (nomark _)) (pss_one (ps_asg (pe_op op_add (pv 3) pe_int) (pg_sub (pv 0) pe_int set_list))) pss_nil)
 (pss_one (ps_ret (pv 4)))))) pss_nil)
 (pss_cons (ps_asg (pe_op op_add (pv 3) pe_int) (pg_sub (pv 0) pe_int set_list))
 (pss_cons (ps_set (i := 5) sc_law_draw.nd rfl (by first | exact Or.inl rfl | exact Or.inr rfl) pe_int)
 (pss_cons (ps_if (pt_cmpR op_gt (pe_callB call_len_seq (by rfl) B.m_len PySem.boot_len (pa_cons (pv 2) pa_nil)) pe_int (nomark _)) (pss_one (ps_set (i := 5) sc_law_draw.nd rfl (by first | exact Or.inl rfl | exact Or.inr rfl) (pe_ix ix_list (pv 2) (pe_op op_mod (pv 3) (pe_callB call_len_seq (by rfl) B.m_len PySem.boot_len (pa_cons (pv 2) pa_nil))) (fun _ _ => rfl)))) pss_nil)
 (pss_cons (ps_set (i := 6) sc_law_draw.nd rfl (by first | exact Or.inl rfl | exact Or.inr rfl) (pe_op op_mod (pe_op op_mul (pe_callTy call_int1 (by rfl) B.m_int (by decide +kernel) (pa_cons (pe_op op_add (pe_op op_add (pe_op op_mod (pe_callTy call_int1 (by rfl) B.m_int (by decide +kernel) (pa_cons (pv 5) pa_nil)) pe_int) (pe_op op_mul pe_int (pe_ix ix_list (pv 0) pe_int (fun _ _ => rfl)))) pe_int) pa_nil)) pe_int) pe_int))
 (pss_cons (ps_set (i := 6) sc_law_draw.nd rfl (by first | exact Or.inl rfl | exact Or.inr rfl) (pe_op op_mod (pe_callTy call_int1 (by rfl) B.m_int (by decide +kernel) (pa_cons (pe_op op_mul (pv 6) (pe_op op_add (pe_op op_fdiv (pv 6) pe_int) pe_int)) pa_nil)) pe_int))
 (pss_cons (ps_set (i := 6) sc_law_draw.nd rfl (by first | exact Or.inl rfl | exact Or.inr rfl) (pe_op op_mod (pe_callTy call_int1 (by rfl) B.m_int (by decide +kernel) (pa_cons (pe_op op_mul (pv 6) (pe_op op_add (pe_op op_fdiv (pv 6) pe_int) pe_int)) pa_nil)) pe_int))
 (pss_one (ps_ret (pe_op op_mod (pe_callTy call_int1 (by rfl) B.m_int (by decide +kernel) (pa_cons (pe_op op_fdiv (pv 6) pe_int) pa_nil)) (pv 1)))))))))))))), ?_⟩
    have hp1 : H p = some (.lst [.ref c, .int (at' : Int), .int (n : Int)]) := hp
    -- cells, at, pool[2]
    refine ⟨_, rfl, p, _, _, _, rfl, rfl, SqL.of hp, atI_nat (j := 0) rfl, _, rfl, p, _, _, _, rfl, rfl, SqL.of hp, atI_nat (j := 1) rfl, ?_⟩
    refine ⟨_, rfl, p, _, _, _, rfl, rfl, SqL.of hp, atI_nat (j := 2) rfl, _, _, rfl, rfl, _, rfl, p, _, _, 2, rfl, rfl, hp, rfl, ?_⟩
    let H1 : Hp := upd H p (.lst [.ref c, .int (at' : Int), .int ((n + 1 : Nat) : Int)])
    have hc1 : H1 c = some (.lst (xs.map V.int)) := (upd_ne ne.symm).trans hc
    have hq1 : H1 p = some (.lst [.ref c, .int (at' : Int), .int ((n + 1 : Nat) : Int)]) := upd_same
    have fr1 : Fr p c H H1 := (Fr.refl p c H).updP
    -- the rest behind the if
    have hlen : (xs.map V.int).length = xs.length := List.length_map ..
    -- if at < len(cells) and ..
    refine ⟨_, rfl, _, rfl, c, _, rfl, .inl (SqL.of hc1), _, _, rfl, rfl, _, rfl, ?_⟩
    by_cases h1 : (at' : Int) < ((xs.map V.int).length : Int)
    case' pos =>
      have ha : at' < xs.length := by rw [hlen] at h1; omega
      have hg : (xs.map V.int)[at']? = some (.int xs[at']) := get_map_int ha
      rw [decide_eq_true h1]
      refine iteT ?_
      refine ⟨_, rfl, _, rfl, c, _, _, _, rfl, rfl, SqL.of hc1, atI_nat hg, _, _, rfl, rfl, ⟨by decide, by decide, by decide⟩, _, _, rfl, rfl, _, rfl, ?_⟩
      refine ite2 (fun h2 => ?great) (fun h2 => ?small)
      case great =>
        refine ⟨_, rfl, _, rfl, c, _, _, _, rfl, rfl, SqL.of hc1, atI_nat hg, .inl ⟨_, rfl, _, rfl, _, _, rfl, rfl, hl, ?_⟩⟩
        refine ⟨_, rfl, _, rfl, c, _, _, _, rfl, rfl, SqL.of hc1, atI_nat hg, _, rfl, _, _, rfl, rfl, ⟨hl, hb⟩, _, rfl, _, rfl, c, _, _, at', rfl, rfl, hc1, ixN_of rfl (by rw [hlen]; exact ha), ?_⟩
        have hs : (xs.map V.int).set at' (V.int (xs[at'] / l)) = (xs.set at' (xs[at'] / l)).map V.int := by rw [List.map_set]
        rw [hs]
        let H2 : Hp := upd H1 c (.lst ((xs.set at' (xs[at'] / l)).map V.int))
        have hc2 : H2 c = some (.lst ((xs.set at' (xs[at'] / l)).map V.int)) := upd_same
        have hq2 : H2 p = some (.lst [.ref c, .int (at' : Int), .int ((n + 1 : Nat) : Int)]) := (upd_ne ne).trans hq1
        have fr2 : Fr p c H H2 := fr1.updC
        have r0 : 0 ≤ xs[at'] % l := Int.emod_nonneg _ (by omega)
        have r1 : xs[at'] % l < l := Int.emod_lt_of_pos _ hl
        have ha2 : at' < (xs.set at' (xs[at'] / l)).length := by rw [List.length_set]; exact ha
        have hx2 : (xs.set at' (xs[at'] / l)).length ≤ 63 := by rw [List.length_set]; exact hx
        refine ⟨_, rfl, _, rfl, c, _, _, _, rfl, rfl, SqL.of hc2, atI_nat (get_map_int ha2), _, _, rfl, rfl, ⟨by decide, by decide, by decide⟩, _, _, rfl, rfl, _, rfl, ?_⟩
        refine ite2 (fun h3 => ?_) (fun h3 => ?_)
        · refine ⟨_, rfl, _, _, rfl, rfl, _, rfl, p, _, _, 1, rfl, rfl, hq2, rfl, _, rfl, ?_⟩
          exact k _ _ r0 r1 ⟨ne, _, at' + 1, n + 1, upd_same, by rw [upd_ne ne.symm]; exact hc2, hx2⟩ fr2.updP
        · refine ⟨_, rfl, ?_⟩
          exact k _ _ r0 r1 ⟨ne, _, at', n + 1, hq2, hc2, hx2⟩ fr2
    case' neg =>
      rw [decide_eq_false h1]
      refine iteF ?_
      refine iteF ?_
    all_goals
      refine ⟨_, rfl, _, _, rfl, rfl, _, rfl, p, _, _, 1, rfl, rfl, hq1, rfl, ?_⟩
      let H3 : Hp := upd H1 p (.lst [.ref c, .int ((at' + 1 : Nat) : Int), .int ((n + 1 : Nat) : Int)])
      have hc3 : H3 c = some (.lst (xs.map V.int)) := (upd_ne ne.symm).trans hc1
      have hq3 : H3 p = some (.lst [.ref c, .int ((at' + 1 : Nat) : Int), .int ((n + 1 : Nat) : Int)]) := upd_same
      have fr3 : Fr p c H H3 := fr1.updP
      refine ⟨_, rfl, c, _, rfl, .inl (SqL.of hc3), _, _, rfl, rfl, _, rfl, ?_⟩
      by_cases h4 : (0 : Int) < ((xs.map V.int).length : Int)
      case' pos =>
        have h5 : 0 < xs.length := by rw [hlen] at h4; omega
        have h6 : at' % xs.length < xs.length := Nat.mod_lt _ h5
        rw [decide_eq_true h4]
        refine iteT ?_
        refine ⟨_, rfl, _, rfl, _, rfl, c, _, rfl, .inl (SqL.of hc3), _, _, rfl, rfl, h4, c, _, _, _, rfl, rfl, SqL.of hc3, atI_of (j := at' % xs.length) (by rw [hlen]; exact (Int.natCast_emod _ _).symm) (get_map_int h6), ?_⟩
        generalize xs[at' % xs.length] = z
      case' neg =>
        rw [decide_eq_false h4]
        refine iteF ?_
      all_goals
        refine ⟨_, rfl, .inl ⟨_, rfl, _, _, rfl, rfl, pos1, _, rfl, p, _, _, _, rfl, rfl, SqL.of hq3, atI_nat (j := 2) rfl, _, _, rfl, rfl, .inl ⟨by decide, by decide⟩, _, _, rfl, rfl, _, _, rfl, rfl, .inl ⟨_, rfl, _, _, rfl, rfl, .inr ⟨by decide, by decide⟩, _, _, rfl, rfl, pos2, ?_⟩⟩⟩
        refine ⟨_, rfl, _, rfl, _, _, rfl, rfl, ⟨by decide, by decide⟩, _, _, rfl, rfl, _, _, rfl, rfl, cmul_l pos2 (by decide), .inl ⟨_, rfl, _, _, rfl, rfl, pos2, ?_⟩⟩
        refine ⟨_, rfl, _, rfl, _, _, rfl, rfl, ⟨by decide, by decide⟩, _, _, rfl, rfl, _, _, rfl, rfl, cmul_l pos2 (by decide), .inl ⟨_, rfl, _, _, rfl, rfl, pos3, ?_⟩⟩
        refine ⟨_, rfl, _, _, rfl, rfl, ⟨by decide, by decide⟩, .inl ⟨_, rfl, _, rfl, _, _, rfl, rfl, hl, ?_⟩⟩
        exact k _ _ (Int.emod_nonneg _ (by omega)) (Int.emod_lt_of_pos _ hl) ⟨ne, xs, at' + 1, n + 1, hq3, hc3, hx⟩ fr3
end
end TW
set_option Elab.async false
set_option linter.all false
set_option maxRecDepth 100000
namespace TW
open PySem PySem.Spec PyProof.Rows L2 TL
abbrev St' := L2.St
/-! ### mathematics -/
theorem len_le_of_sub {α : Type} [DecidableEq α] : ∀ (l m : List α), l.Nodup → (∀ x ∈ l, x ∈ m) → l.length ≤ m.length
  | [], _, _, _ => Nat.zero_le _
  | x :: l, m, nd, h => by
    have hx : x ∈ m := h x (List.mem_cons_self ..)
    have nd' := List.nodup_cons.mp nd
    have ih := len_le_of_sub l (m.erase x) nd'.2 (fun y hy => (List.mem_erase_of_ne (fun e => nd'.1 (by rw [← e]; exact hy))).mpr (h y (List.mem_cons_of_mem _ hy)))
    rw [List.length_erase_of_mem hx] at ih
    have : 0 < m.length := List.length_pos_of_mem hx
    rw [List.length_cons]
    omega
/-- a word: 1 to 8 letters -/
def IsW (z : Str) : Prop := 1 ≤ z.length ∧ z.length ≤ 8 ∧ ∀ c ∈ z.cps.toList, 97 ≤ c ∧ c ≤ 122
def rep8 (c : Nat) : Str := ⟨#[c, c, c, c, c, c, c, c]⟩
theorem rep8_w {c : Nat} (h : 97 ≤ c ∧ c ≤ 122) : IsW (rep8 c) := ⟨(by show 1 ≤ 8; decide), (by show 8 ≤ 8; decide), fun d hd => by
  have : d = c := by simpa [rep8] using hd
  subst this; exact h⟩
theorem rep8_inj {c d : Nat} (h : rep8 c = rep8 d) : c = d := by
  unfold rep8 at h
  simp only [Str.mk.injEq] at h
  have := congrArg (fun a : Array Nat => a[0]?) h
  simpa using this
theorem reps_full {ws : List Str} (h : ∀ j, j < 26 → rep8 (97 + j) ∈ ws) : 26 ≤ ws.length := by
  have e := len_le_of_sub ((List.range 26).map fun j => rep8 (97 + j)) ws ?_ ?_
  · simpa using e
  · refine List.Pairwise.map _ (fun a b hab h' => hab ?_) (List.nodup_range (n := 26))
    have := rep8_inj h'
    omega
  · intro x hx
    obtain ⟨j, hj, rfl⟩ := List.mem_map.mp hx
    exact h j (List.mem_range.mp hj)
theorem abc_at : ∀ r : Fin 26, ((Str.ofString "abcdefghijklmnopqrstuvwxyz").cps.toList)[(r : Nat)]? = some (97 + (r : Nat)) := by decide +kernel
theorem abc_at' {i c : Nat} (h : (Str.ofString "abcdefghijklmnopqrstuvwxyz").cps[i]? = some c) : i < 26 ∧ c = 97 + i := by
  have h' : (Str.ofString "abcdefghijklmnopqrstuvwxyz").cps.toList[i]? = some c := by rw [← h]; simp
  have hl : (Str.ofString "abcdefghijklmnopqrstuvwxyz").cps.toList.length = 26 := by decide +kernel
  have hi : i < 26 := by
    have := (List.getElem?_eq_some_iff.mp h').1
    omega
  have := abc_at ⟨i, hi⟩
  simp only at this
  rw [h'] at this
  exact ⟨hi, Option.some.inj this⟩
theorem join_signs : ∀ cs : List Nat, tl (Str.join Str.empty (cs.map fun c => (⟨#[c]⟩ : Str))) = cs
  | [] => rfl
  | [c] => rfl
  | c :: d :: r => by
    have ih := join_signs (d :: r)
    rw [tl_join] at ih ⊢
    show [c] ++ ([] ++ _) = _
    rw [List.nil_append]
    show c :: _ = c :: (d :: r)
    exact congrArg (c :: ·) ih
theorem join_cps (cs : List Nat) : (Txt.join Str.empty (cs.map fun c => (⟨#[c]⟩ : Str))).cps.toList = cs := by
  rw [join_eq]
  exact join_signs cs
theorem flat_strs : ∀ ws : List Str, (ws.map V.str).all flatV = true
  | [] => rfl
  | _ :: ws => flat_strs ws
theorem inV_strs {z : Str} {ws : List Str} : inV (.str z) (ws.map V.str) = decide (z ∈ ws) := by
  induction ws with
  | nil => rfl
  | cons y ws ih =>
    show (eqV (.str y) (.str z) || inV (.str z) (ws.map V.str)) = _
    rw [ih]
    by_cases h : z = y
    · subst h
      simp [eqV]
    · have h2 : ¬ y = z := fun e => h e.symm
      simp [eqV, h, h2]
theorem ite_dec {b : Bool} {A C : Prop} (h1 : b = true → A) (h2 : b = false → C) : if b = true then A else C := by
  cases b
  · exact (if_neg Bool.false_ne_true).mpr (h2 rfl)
  · exact (if_pos rfl).mpr (h1 rfl)
theorem not_inT {z : Str} {ws : List Str} (h : (if true = true then !inV (.str z) (ws.map V.str) else inV (.str z) (ws.map V.str)) = true) : z ∉ ws := by
  rw [inV_strs] at h
  simpa using h
theorem not_inF {z : Str} {ws : List Str} (h : (if true = true then !inV (.str z) (ws.map V.str) else inV (.str z) (ws.map V.str)) = false) : z ∈ ws := by
  rw [inV_strs] at h
  simpa using h
theorem yes_of {σ : St'} {H : Hp} {A C : Hp → Prop} (h : A H) : tYes σ H fun b H3 => if b = true then A H3 else C H3 := iteT (A := A H) (B := C H) h
/-! ### rules of mine -/
section
variable {X : Cx}
def rMulS : R2 := fun x y H Q => ∃ z n, x = .str z ∧ y = .int n ∧ MulOk z n ∧ Q (.str (Txt.mul z n)) H
theorem op_mulS : OpR X (binaryOp .Mult) rMulS := by
  intro pins s σ H x y v u Q I rx ry h
  obtain ⟨z, n, rfl, rfl, hm, q⟩ := h
  obtain ⟨t, rfl⟩ := rx
  obtain ⟨t', rfl⟩ := ry
  exact SB.mul hm fun t2 k => ⟨.str _, H, I.tok k, ⟨_, rfl⟩, q⟩
end
theorem mul8_ok (c : Nat) : MulOk ⟨#[c]⟩ 8 := ⟨by decide, fun _ _ => by show ¬ ((1 : Int) > (2 ^ 63 - 1) / 8); decide, fun _ _ => by show Builtin.Str.tooLong (1 * 8) = false; decide⟩
theorem mul8 (c : Nat) : Txt.mul ⟨#[c]⟩ 8 = rep8 c := rfl
theorem for_str {x : Str} {g : TG} {tb : TS} {D : Ends} {σ : St'} {H : Hp} (Pv : Nat → St' → Hp → Prop) (h0 : Pv 0 σ H)
    (hs : ∀ i c σ H, x.cps[i]? = some c → Pv i σ H → g (.str ⟨#[c]⟩) σ H fun σ2 H2 => tb { D with nx := Pv (i + 1), ct := Pv (i + 1), bk := D.nx } σ2 H2) (hd : ∀ σ H, Pv x.cps.size σ H → D.nx σ H) :
    ∃ W : Nat → Nat → St' → Hp → Prop, (∃ m, W 0 m σ H) ∧ ∀ i m σ H, W i m σ H →
      ((Its x).stop i H ∧ D.nx σ H) ∨ ((Its x).go i H ∧ ∃ N : St' → Hp → Prop, (∀ σ' H', N σ' H' → ∃ m', m' < m ∧ W (i + 1) m' σ' H') ∧ ∀ y H', (Its x).yld i H y H' → g y σ H' fun σ2 H2 => tb { D with nx := N, ct := N, bk := D.nx } σ2 H2) := by
  refine ⟨fun i m σ H => m = x.cps.size - i ∧ i ≤ x.cps.size ∧ Pv i σ H, ⟨x.cps.size, by simp, Nat.zero_le _, h0⟩, ?_⟩
  rintro i m σ H ⟨rfl, hi, p⟩
  by_cases hlt : i < x.cps.size
  · refine .inr ⟨hlt, Pv (i + 1), fun σ' H' p' => ⟨x.cps.size - (i + 1), by omega, rfl, hlt, p'⟩, fun y H' hy => ?_⟩
    obtain ⟨e, c, hc, rfl⟩ := hy
    subst e
    exact hs i c σ _ hc p
  · have e : i = x.cps.size := by omega
    subst e
    exact .inl ⟨Nat.le_refl _, hd σ H p⟩
/-! ### the promises -/
/-- a list or tuple of mine (not the pool's) -/
structure SeqSt (p c : Addr) (H : Hp) (a : Addr) (xs : List V) : Prop where
  np : a ≠ p
  nc : a ≠ c
  at' : H a = some (.lst xs) ∨ H a = some (.tup xs)
theorem SeqSt.fr {p c a : Addr} {H H' : Hp} {xs : List V} (S : SeqSt p c H a xs) (f : Fr p c H H') : SeqSt p c H' a xs :=
  ⟨S.np, S.nc, S.at'.elim (fun h => .inl (f _ _ S.np S.nc h)) (fun h => .inr (f _ _ S.np S.nc h))⟩
theorem SeqSt.lt {p c a : Addr} {H : Hp} {xs : List V} {K : PySem.W.Frag} (S : SeqSt p c H a xs) : SqL K H a xs ∨ SqT K H a xs := S.at'.elim (fun h => .inl (SqL.of h)) (fun h => .inr (SqT.of h))
def spPick : Sp := fun vs H Q _ => ∃ (p c a : Addr) (xs : List V), vs = [.ref p, .ref a] ∧ Pool p c H ∧ SeqSt p c H a xs ∧ xs ≠ [] ∧ xs.length ≤ 1000000 ∧
  ∀ (v : V) (i : Nat) (H' : Hp), xs[i]? = some v → Pool p c H' → Fr p c H H' → Q v H'
def spWord : Sp := fun vs H Q _ => ∃ (p c a : Addr) (ws : List Str), vs = [.ref p, .ref a] ∧ Pool p c H ∧ SeqSt p c H a (ws.map V.str) ∧
  ∀ (z : Str) (H' : Hp), IsW z → (ws.length < 26 → z ∉ ws) → Pool p c H' → Fr p c H H' → Q (.str z) H'
def spWords : Sp := fun vs H Q _ => ∃ (p c : Addr) (lo hi : Nat), vs = [.ref p, .int (lo : Int), .int (hi : Int)] ∧ Pool p c H ∧ lo ≤ hi ∧ hi ≤ 20 ∧
  ∀ (q : Addr) (ws : List Str) (H' : Hp), H q = none → H' q = some (.lst (ws.map V.str)) → lo ≤ ws.length → ws.length ≤ hi → ws.Nodup → (∀ z ∈ ws, IsW z) → Pool p c H' → Fr p c H H' → Q (.ref q) H'
theorem log_small {l : Int} (h0 : 0 < l) (h : l ≤ 2 ^ 64) : l.natAbs.log2 < 9000 := by
  have h1 : l.natAbs < 2 ^ 65 := by omega
  have h2 : l.natAbs ≠ 0 := by omega
  have := (Nat.log2_lt h2).mpr h1
  omega
abbrev S_law_pick : Stmt := topS 69
abbrev N_law_pick : List Str := ["_law_pool", "_law_row"]
abbrev P_law_pick : List Str := ["_law_pool", "_law_row"]
theorem sc_law_pick : FnScope N_law_pick P_law_pick (defScope S_law_pick) := ⟨rfl, rfl, rfl, by decide +kernel, rfl, by decide +kernel, by decide +kernel⟩
abbrev S_law_word : Stmt := topS 70
abbrev N_law_word : List Str := ["_law_pool", "_law_taken", "_law_letters", "_law_size", "_law_word_here", "_law_k", "_law_letter"]
abbrev P_law_word : List Str := ["_law_pool", "_law_taken"]
theorem sc_law_word : FnScope N_law_word P_law_word (defScope S_law_word) := ⟨rfl, rfl, rfl, by decide +kernel, rfl, by decide +kernel, by decide +kernel⟩
abbrev S_law_words : Stmt := topS 71
abbrev N_law_words : List Str := ["_law_pool", "_law_least", "_law_most", "_law_words_here", "_law_k"]
abbrev P_law_words : List Str := ["_law_pool", "_law_least", "_law_most"]
theorem sc_law_words : FnScope N_law_words P_law_words (defScope S_law_words) := ⟨rfl, rfl, rfl, by decide +kernel, rfl, by decide +kernel, by decide +kernel⟩
section
variable {P : Program} {w : World} {K : PySem.W.Frag} {mg : Str → Option Value} {base : Heap}
set_option maxHeartbeats 4000000 in
theorem ok_pick {f fD : Addr} {fd fdD : FuncData} (F : Fun K "_law_pick" "_law_pick" S_law_pick f fd) (B : Bl mg) (d_law_draw : Df K mg "_law_draw" S_law_draw fD fdD P_law_draw) (G_law_draw : FnOk P w K mg base CX0 1 fD fdD P_law_draw spDraw) : FnOk P w K mg base CX0 2 f fd P_law_pick spPick := by
  refine F.ok sc_law_pick (fun vs H Q E h => ?_) (fun cdv A outer s H vs Q E hr h => ?_)
  · obtain ⟨p, c, a, xs, rfl, _⟩ := h
    rfl
  · obtain ⟨p, c, a, xs, rfl, PL, S, hne, hl, k⟩ := h
    have hr_law_draw : Room 1 _ := hr.mono (Nat.le_refl 1)
    refine ⟨_, (pss_one (ps_ret (pe_ix ix_seq (pv 1) (pe_call G_law_draw hr_law_draw rfl d_law_draw.g d_law_draw.F.kp d_law_draw.b .nil pass0 (pa_cons (pv 0) (pa_cons (pe_callB call_len (by rfl) B.m_len PySem.boot_len (pa_cons (pv 1) pa_nil)) pa_nil))) (fun _ _ => rfl)))), ?_⟩
    have hpos : 0 < xs.length := List.length_pos_iff.mpr hne
    refine ⟨_, rfl, _, rfl, _, rfl, .ref a, xs.length, rfl, S.at'.elim (fun h => .inl ⟨_, SqL.of h, rfl⟩) (fun h => .inr ⟨_, SqT.of h, rfl⟩), ?_⟩
    refine ⟨p, c, _, rfl, PL, by omega, log_small (by omega) (by omega), fun r H' h0 h1 P' f' => ?_⟩
    have S' := S.fr f'
    have hr' : r.toNat < xs.length := by omega
    have hat : atI xs r = some xs[r.toNat] := atI_of (j := r.toNat) (by omega) (List.getElem?_eq_getElem hr')
    have q := k xs[r.toNat] r.toNat H' (List.getElem?_eq_getElem hr') P' f'
    rcases S'.at' with h | h
    · exact .inl ⟨a, _, _, _, rfl, rfl, SqL.of h, hat, q⟩
    · exact .inr (.inl ⟨a, _, _, _, rfl, rfl, SqT.of h, hat, q⟩)
set_option maxHeartbeats 4000000 in
theorem ok_word {f fD : Addr} {fd fdD : FuncData} (F : Fun K "_law_word" "_law_word" S_law_word f fd) (B : Bl mg) (d_law_draw : Df K mg "_law_draw" S_law_draw fD fdD P_law_draw) (G_law_draw : FnOk P w K mg base CX0 1 fD fdD P_law_draw spDraw) : FnOk P w K mg base CX0 2 f fd P_law_word spWord := by
  refine F.ok sc_law_word (fun vs H Q E h => ?_) (fun cdv A outer s H vs Q E hr h => ?_)
  · obtain ⟨p, c, a, xs, rfl, _⟩ := h
    rfl
  · obtain ⟨p, c, a, ws, rfl, PL, S, k⟩ := h
    have hr_law_draw : Room 1 _ := hr.mono (Nat.le_refl 1)
    refine ⟨_, (pss_cons (ps_set (i := 2) sc_law_word.nd rfl (by first | exact Or.inl rfl | exact Or.inr rfl) pe_str)
 (pss_cons (ps_set (i := 3) sc_law_word.nd rfl (by first | exact Or.inl rfl | exact Or.inr rfl) (pe_op op_add pe_int (pe_call G_law_draw hr_law_draw rfl d_law_draw.g d_law_draw.F.kp d_law_draw.b .nil pass0 (pa_cons (pv 0) (pa_cons pe_int pa_nil)))))
 (pss_cons (ps_set (i := 4) sc_law_word.nd rfl (by first | exact Or.inl rfl | exact Or.inr rfl) (pe_join pe_str (pe_lc (own := [("_law_k", 5)]) (g := gName 5) (tt := tYes) rfl sc_law_word.nd (pi_range1 (by rfl) B.m_range (pa_cons (pv 3) pa_nil)) (blkOk_by (own := [("_law_k", 5)]) (N := N_law_word) (sc := defScope S_law_word) (by decide +kernel)) (fun _ _ _ _ _ => (pg_name (i := 5) sc_law_word.nd rfl (by first | exact Or.inl rfl | exact Or.inr rfl))) (fun _ _ _ _ _ => pts_nil) (fun _ _ _ _ _ => (pe_ix ix_str (pv 2) (pe_call G_law_draw hr_law_draw rfl d_law_draw.g d_law_draw.F.kp d_law_draw.b .nil pass0 (pa_cons (pv 0) (pa_cons pe_int pa_nil))) (fun _ _ => rfl))))))
 (pss_cons (ps_if (pt_cmpR op_notIn_seq (pv 4) (pv 1) (by rfl)) (pss_one (ps_ret (pv 4))) pss_nil)
 (pss_cons (ps_for PassesOwn.never rfl (pi_str (pv 2)) (pg_name (i := 6) sc_law_word.nd rfl (by first | exact Or.inl rfl | exact Or.inr rfl)) (pss_one (ps_if (pt_cmpR op_notIn_seq (pe_op op_mulS (pv 6) pe_int) (pv 1) (by rfl)) (pss_one (ps_ret (pe_op op_mulS (pv 6) pe_int))) pss_nil)))
 (pss_one (ps_ret (pv 4)))))))), ?_⟩
    -- letters; size
    refine ⟨_, rfl, p, c, 8, rfl, PL, by decide, by decide, fun r1 H1 r10 r11 P1 f1 => ?_⟩
    refine ⟨_, _, rfl, rfl, ?_⟩
    -- the text
    refine ⟨⟨_, rfl⟩, _, rfl, _, rfl, by omega, by omega, fun D hD => ?_⟩
    obtain ⟨dp, dc⟩ := P1.np hD
    have P1' : Pool p c (upd H1 D (.lst [])) := P1.frN hD
    have f1' : Fr p c H (upd H1 D (.lst [])) := fun b o h1 h2 h => by
      have e := f1 b o h1 h2 h
      rw [upd_ne (ne_of_none e hD)]; exact e
    refine lc_range (lo := 0) (n := (1 + r1).toNat) (fun i H2 => Pool p c H2 ∧ Fr p c H H2 ∧ ∃ cs : List Nat, cs.length = i ∧ (∀ x ∈ cs, 97 ≤ x ∧ x ≤ 122) ∧ H2 D = some (.lst ((cs.map fun x => (⟨#[x]⟩ : Str)).map V.str)))
      ⟨P1', f1', [], rfl, fun x hx => (nomatch hx), upd_same⟩ ?_ ?_
    · rintro i H2 hi ⟨P2, f2, cs, hcs, hr2, hD2⟩
      refine ⟨rfl, yes_of ?_⟩
      refine ⟨_, rfl, _, rfl, p, c, 26, rfl, P2, by decide, by decide, fun r3 H3 r30 r31 P3 f3 => ?_⟩
      have hlt : r3.toNat < 26 := by omega
      have hat := abc_at ⟨r3.toNat, hlt⟩
      simp only at hat
      refine ⟨_, _, 97 + r3.toNat, rfl, rfl, by decide, atI_of (j := r3.toNat) (by omega) hat, ?_⟩
      have hD3 := f3 _ _ dp dc hD2
      refine ⟨_, hD3, by rw [List.length_map, List.length_map, hcs]; exact Nat.lt_of_lt_of_le (show i < 100 by omega) (by decide), ?_⟩
      have hnD : ∀ {o : HO}, Pool p c (upd H3 D o) := fun {o} => by
        obtain ⟨xs, a2, m2, g1, g2, g3⟩ := P3.ex
        exact ⟨P3.ne, xs, a2, m2, by rw [upd_ne dp.symm]; exact g1, by rw [upd_ne dc.symm]; exact g2, g3⟩
      refine ⟨hnD, fun b o h1 h2 h => ?_, cs ++ [97 + r3.toNat], by rw [List.length_append, hcs]; rfl, fun x hx => ?_, ?_⟩
      · have e1 := f1 b o h1 h2 h
        have hbD : b ≠ D := ne_of_none e1 hD
        rw [upd_ne hbD]
        exact f3 _ _ h1 h2 (f2 _ _ h1 h2 h)
      · rcases List.mem_append.mp hx with hx | hx
        · exact hr2 x hx
        · have := List.mem_singleton.mp hx
          omega
      · rw [upd_same, List.map_append, List.map_append]
        rfl
    · rintro H2 ⟨P2, f2, cs, hcs, hr2, hD2⟩
      have hsz : (((cs.map fun x => (⟨#[x]⟩ : Str))).map (·.length)).sum = cs.length := by
        clear hcs hr2 hD2
        induction cs with
        | nil => rfl
        | cons x cs ih =>
          rw [List.map_cons, List.map_cons, List.sum_cons, ih, List.length_cons]
          show 1 + _ = _
          omega
      refine ⟨_, D, cs.map fun x => (⟨#[x]⟩ : Str), rfl, rfl, .inl (SqL.of hD2), ?_, ?_⟩
      · rw [hsz, hcs]
        show (1 + r1).toNat + _ * 0 ≤ _
        omega
      have hz : (Txt.join Str.empty (cs.map fun x => (⟨#[x]⟩ : Str))).cps.toList = cs := join_cps cs
      have hw : IsW (Txt.join Str.empty (cs.map fun x => (⟨#[x]⟩ : Str))) := by
        have hl : (Txt.join Str.empty (cs.map fun x => (⟨#[x]⟩ : Str))).length = cs.length := by
          show Array.size _ = _
          rw [← Array.length_toList, hz]
        refine ⟨by rw [hl, hcs]; omega, by rw [hl, hcs]; omega, fun x hx => ?_⟩
        rw [hz] at hx
        exact hr2 x hx
      have S2 := S.fr f2
      -- if it is not taken
      refine ⟨_, rfl, _, rfl, a, _, rfl, S2.lt, rfl, flat_strs ws, _, rfl, ?_⟩
      refine ite_dec (fun hb => ?_) (fun hb => ?_)
      rotate_left
      · have hin := not_inF hb
        -- for letter in letters
        refine ⟨_, rfl, _, rfl, for_str (x := Str.ofString "abcdefghijklmnopqrstuvwxyz") (fun i σ H3 => H3 = H2 ∧ (∀ j, j < i → rep8 (97 + j) ∈ ws) ∧ σ.length = 7 ∧ ∃ z1 z2 z3, σ[0]? = some (some (.ref p)) ∧ σ[1]? = some (some (.ref a)) ∧ σ = [some (.ref p), some (.ref a), z1, z2, some (.str (Txt.join Str.empty (cs.map fun x => (⟨#[x]⟩ : Str)))), none, z3]) ⟨rfl, fun j hj => (nomatch hj), rfl, _, _, _, rfl, rfl, rfl⟩ ?_ ?_⟩
        · rintro i c' σ H3 hc' ⟨rfl, hj, _, z1, z2, z3, _, _, rfl⟩
          obtain ⟨hi, rfl⟩ := abc_at' hc'
          refine ⟨_, rfl, _, _, rfl, rfl, mul8_ok _, _, rfl, a, _, rfl, S2.lt, rfl, flat_strs ws, _, rfl, ?_⟩
          refine ite_dec (fun hb2 => ?_) (fun hb2 => ?_)
          rotate_left
          · have hin2 : rep8 (97 + i) ∈ ws := not_inF hb2
            refine ⟨rfl, fun j hj2 => ?_, rfl, _, _, _, rfl, rfl, rfl⟩
            rcases Nat.lt_or_ge j i with h | h
            · exact hj j h
            · have : j = i := by omega
              subst this; exact hin2
          · have hin2 : rep8 (97 + i) ∉ ws := not_inT hb2
            exact ⟨_, rfl, _, _, rfl, rfl, mul8_ok _, k _ _ (rep8_w (c := 97 + i) (by omega)) (fun _ => hin2) P2 f2⟩
        · rintro σ H3 ⟨rfl, hj, _, z1, z2, z3, _, _, rfl⟩
          refine ⟨_, rfl, k _ _ hw (fun hlt => ?_) P2 f2⟩
          have := reps_full (ws := ws) fun j hj' => hj j (Nat.lt_of_lt_of_le hj' (by decide +kernel))
          omega
      · have hin := not_inT hb
        exact ⟨_, rfl, k _ _ hw (fun _ => hin) P2 f2⟩
set_option maxHeartbeats 4000000 in
theorem ok_words {f fD fW : Addr} {fd fdD fdW : FuncData} (F : Fun K "_law_words" "_law_words" S_law_words f fd) (B : Bl mg) (d_law_draw : Df K mg "_law_draw" S_law_draw fD fdD P_law_draw) (G_law_draw : FnOk P w K mg base CX0 1 fD fdD P_law_draw spDraw)
    (d_law_word : Df K mg "_law_word" S_law_word fW fdW P_law_word) (G_law_word : FnOk P w K mg base CX0 2 fW fdW P_law_word spWord) : FnOk P w K mg base CX0 3 f fd P_law_words spWords := by
  refine F.ok sc_law_words (fun vs H Q E h => ?_) (fun cdv A outer s H vs Q E hr h => ?_)
  · obtain ⟨p, c, lo, hi, rfl, _⟩ := h
    rfl
  · obtain ⟨p, c, lo, hi, rfl, PL, hlh, hhi, k⟩ := h
    have hr_law_draw : Room 1 _ := hr.mono (by decide)
    have hr_law_word : Room 2 _ := hr.mono (by decide)
    refine ⟨_, (pss_cons (ps_set (i := 3) sc_law_words.nd rfl (by first | exact Or.inl rfl | exact Or.inr rfl) (pe_lst pa_nil))
 (pss_cons (ps_for PassesOwn.never rfl (pi_range1 (by rfl) B.m_range (pa_cons (pe_op op_add (pv 1) (pe_call G_law_draw hr_law_draw rfl d_law_draw.g d_law_draw.F.kp d_law_draw.b .nil pass0 (pa_cons (pv 0) (pa_cons (pe_op op_add (pe_op op_sub (pv 2) (pv 1)) pe_int) pa_nil)))) pa_nil)) (pg_name (i := 4) sc_law_words.nd rfl (by first | exact Or.inl rfl | exact Or.inr rfl)) (pss_one (ps_expr (pe_bm PySem.F.plainAttrs_list PySem.F.slot_list_append PySem.F.type_list_append mt_append (pv 3) (pa_cons (pe_call G_law_word hr_law_word rfl d_law_word.g d_law_word.F.kp d_law_word.b .nil pass0 (pa_cons (pv 0) (pa_cons (pv 3) pa_nil))) pa_nil)))))
 (pss_one (ps_ret (pv 3))))), ?_⟩
    refine ⟨Nat.zero_le _, fun q hq => ?_⟩
    obtain ⟨qp, qc⟩ := PL.np hq
    have P0 : Pool p c (upd H q (.lst [])) := PL.frN hq
    have f0 : Fr p c H (upd H q (.lst [])) := (Fr.refl p c H).updN hq
    refine ⟨_, rfl, _, rfl, _, rfl, _, rfl, _, _, rfl, rfl, _, _, rfl, rfl, p, c, _, rfl, P0, by omega, log_small (by omega) (by omega), fun r H1 r0 r1 P1 f1 => ?_⟩
    have hq1 : H1 q = some (.lst []) := f1 _ _ qp qc upd_same
    refine ⟨_, _, rfl, rfl, _, rfl, by omega, by omega, ?_⟩
    refine for_range (lo := 0) (n := ((lo : Int) + r).toNat) (fun i σ H2 => ∃ (ws : List Str) (z : Option V), σ = [some (.ref p), some (.int (lo : Int)), some (.int (hi : Int)), some (.ref q), z] ∧ H2 q = some (.lst (ws.map V.str)) ∧ ws.length = i ∧ ws.Nodup ∧ (∀ z ∈ ws, IsW z) ∧ Pool p c H2 ∧ Fr p c H H2)
      ⟨[], _, rfl, hq1, rfl, List.nodup_nil, fun z hz => (nomatch hz), P1, f0.trans f1⟩ ?_ ?_
    · rintro i σ H2 hi' ⟨ws, z, rfl, h2, hl, nd, hw, P2, f2⟩
      refine ⟨_, rfl, .inl ⟨rfl, _, SqL.of h2⟩, _, rfl, _, rfl, p, c, q, ws, rfl, P2, ⟨qp, qc, .inl h2⟩, fun z2 H3 w2 fresh P3 f3 => ?_⟩
      have h3 := f3 _ _ qp qc h2
      refine ⟨q, _, _, rfl, rfl, h3, by rw [List.length_map]; exact small1000 (by omega), ?_⟩
      refine ⟨ws ++ [z2], _, rfl, by rw [upd_same, List.map_append]; rfl, by rw [List.length_append, hl]; rfl, ?_, fun y hy => ?_, ?_, ?_⟩
      · refine List.nodup_append.mpr ⟨nd, by simp, fun x hx y hy => ?_⟩
        have := List.mem_singleton.mp hy
        subst this
        exact fun e => fresh (by omega) (by rw [← e]; exact hx)
      · rcases List.mem_append.mp hy with hy | hy
        · exact hw y hy
        · rw [List.mem_singleton.mp hy]; exact w2
      · obtain ⟨xs, a2, m2, g1, g2, g3⟩ := P3.ex
        exact ⟨P3.ne, xs, a2, m2, by rw [upd_ne qp.symm]; exact g1, by rw [upd_ne qc.symm]; exact g2, g3⟩
      · exact (f2.trans f3).updN hq
    · rintro σ H2 ⟨ws, z, rfl, h2, hl, nd, hw, P2, f2⟩
      exact ⟨_, rfl, k q ws H2 hq h2 (by omega) (by omega) nd hw P2 f2⟩
end
end TW
set_option Elab.async false
set_option linter.all false
set_option maxRecDepth 100000
/-! how many unlike texts: len(set(texts)) -/
namespace TW
open PySem PySem.Spec PyProof.Rows
def cntR : List Str → Nat
  | [] => 0
  | x :: r => if x ∈ r then cntR r else cntR r + 1
def cnt (l : List Str) : Nat := cntR l.reverse
theorem cnt_snoc (l : List Str) (x : Str) : cnt (l ++ [x]) = if x ∈ l then cnt l else cnt l + 1 := by
  unfold cnt
  rw [List.reverse_append, List.reverse_singleton, List.singleton_append]
  show (if x ∈ l.reverse then _ else _) = _
  by_cases h : x ∈ l
  · rw [if_pos h, if_pos (List.mem_reverse.mpr h)]
  · rw [if_neg h, if_neg (fun z => h (List.mem_reverse.mp z))]
theorem cntR_le : ∀ l : List Str, cntR l ≤ l.length
  | [] => Nat.le_refl _
  | x :: r => by
    have := cntR_le r
    show (if x ∈ r then cntR r else cntR r + 1) ≤ r.length + 1
    split <;> omega
theorem cntR_eq : ∀ l : List Str, cntR l = l.length ↔ l.Nodup
  | [] => by simp [cntR]
  | x :: r => by
    have h1 := cntR_le r
    have h2 := cntR_eq r
    show (if x ∈ r then cntR r else cntR r + 1) = r.length + 1 ↔ _
    rw [List.nodup_cons]
    by_cases h : x ∈ r
    · rw [if_pos h]
      exact ⟨fun e => by omega, fun e => absurd h e.1⟩
    · rw [if_neg h]
      exact ⟨fun e => ⟨h, h2.mp (by omega)⟩, fun e => by rw [h2.mpr e.2]⟩
theorem cnt_le (l : List Str) : cnt l ≤ l.length := by
  have := cntR_le l.reverse
  rw [List.length_reverse] at this
  exact this
theorem cnt_eq (l : List Str) : cnt l = l.length ↔ l.Nodup := by
  have := cntR_eq l.reverse
  rw [List.length_reverse] at this
  refine this.trans ?_
  unfold List.Nodup
  rw [List.pairwise_reverse]
  exact ⟨fun z => z.imp fun h e => h e.symm, fun z => z.imp fun h e => h e.symm⟩
/-- the texts so far, as a test -/
def hasS (l : List Str) (k : Str) : Bool := decide (k ∈ l)
theorem hasS_snoc (l : List Str) (x k : Str) : (hasS l k || decide (k = x)) = hasS (l ++ [x]) k := by
  unfold hasS
  by_cases h : k ∈ l <;> by_cases e : k = x <;> simp [h, e]
theorem taken_more {xs : List Str} {i : Nat} (h : i < xs.length) : xs.take (i + 1) = xs.take i ++ [xs.getD i Str.empty] := by
  rw [List.take_add_one, List.getElem?_eq_getElem h]
  simp [List.getD, List.getElem?_eq_getElem h]
abbrev HasN (prog : Program) (w : World) (h : Heap) (S : Addr) (l : List Str) : Prop := h.SetOf (PySem.strKind prog w) S (hasS l) (cnt l)
theorem HasN.move {prog : Program} {w : World} {h h' : Heap} {S : Addr} {l : List Str} (x : HasN prog w h S l) (k : ∀ o, h.get? S = some o → h'.get? S = some o) : HasN prog w h' S l :=
  let ⟨o, es, ep, t, ho, r⟩ := x; ⟨o, es, ep, t, k o ho, r⟩
section
variable {prog : Program} {w : World} {A : Around} {R : Result → Shared → Prop} {it : Addr} {fp wr : List Addr} {G : Array GenState → Array GenState → Prop} {n : Nat} {P : Nat → Value → Prop} {St : Nat → Shared → Prop}
theorem strs_into (W : WalksS prog w A.in1 it fp wr G n P St) {S : Addr} (out : S ∉ fp) {xs : List Str} (len : xs.length = n) (small : n + 1 < scanBound) (vals : ∀ i v, P i v → ∃ t, v = .str (xs.getD i Str.empty) t) :
    ∀ (left i : Nat) (s : Shared), i + left = n → St i s → HasN prog w s.heap S (xs.take i) →
      (∀ s', Moved (S :: wr) G s s' → HasN prog w s'.heap S xs → R (.ok (.ret .none)) s') → codeAny (model prog w) A (.builtin "set.update.loop" ⟨[.ref S, .ref it], []⟩) R s := by
  have nwr : S ∉ wr := fun z => out (W.sub _ z)
  have sub : ∀ b ∈ wr, b ∈ S :: wr := fun b z => .tail _ z
  intro left
  induction left with
  | zero =>
    intro i s e st has fin
    refine codeAny_builtin PyProof.Rows.F.entry_set_update_loop ?_
    rw [Around.under_plainId PyProof.Rows.F.plain_set_update_loop]
    obtain rfl : i = n := e
    refine wpAny_bind (W.done s _ _ st fun s' mv => ?_)
    rw [List.take_of_length_le (Nat.le_of_eq len)] at has
    exact wpAny_pure (fin s' (mv.mono sub) (has.move fun o ho => mv.heap S o nwr ho))
  | succ left ih =>
    intro i s e st has fin
    have lt : i < n := by omega
    refine codeAny_builtin PyProof.Rows.F.entry_set_update_loop ?_
    rw [Around.under_plainId PyProof.Rows.F.plain_set_update_loop]
    refine wpAny_bind (W.item i s _ _ lt st fun v s' pv st' mv => ?_)
    obtain ⟨t, rfl⟩ := vals i v pv
    have has' : HasN prog w s'.heap S (xs.take i) := has.move fun o ho => mv.heap S o nwr ho
    refine wpAny_bind (wpAny_holding ?_)
    unfold setAdd
    refine wpAny_holding (wpAny_bind ((PySem.strKind prog w).pyHash (k := xs.getD i Str.empty) (strKind_is ..) ?_))
    have room : cnt (xs.take i) + 1 < scanBound := by
      have := cnt_le (xs.take i)
      rw [List.length_take] at this
      omega
    refine wpAny_setAddHashed_of (s := { s' with toks := s'.toks + 1 }) (strKind_is ..) rfl has' room fun h2 but has2 => ?_
    have more : HasN prog w h2 S (xs.take (i + 1)) := by
      rw [taken_more (by omega)]
      refine SetOf_congr has2 (fun k => hasS_snoc ..) ?_
      rw [cnt_snoc]
      unfold hasS
      by_cases z : xs.getD i Str.empty ∈ xs.take i <;> simp [z]
    refine wpAny_pure ⟨plainId_quiet PyProof.Rows.F.plain_set_update_loop _, ih (i + 1) _ (by omega) (W.frame _ s' _ _ st' (Nat.le_succ _) fun b hb o z => ?_) more fun s2 mv2 has3 => ?_⟩
    · exact (but.2 b fun y => out (y ▸ hb)).trans z
    · exact fin s2 (Moved.trans W.gtrans ((mv.mono sub).then_heap (Nat.le_succ _) fun b o hb z => (but.2 b fun y => hb (y ▸ List.mem_cons_self)).trans z) mv2) has3
end

section
variable {prog : Program} {w : World} {A : Around} {E : Value → Shared → Prop} {s : Shared}
abbrev newSet (led : Bool) : Obj := { cls := .type "set", dict := none, data := .set #[] 0 (.fresh 0 0 led) }
/-- behind set(v) -/
def SetEnd (prog : Program) (w : World) (s : Shared) (xs : List Str) (Q : Value → Shared → Prop) : Prop :=
  ∀ (h' : Heap) (tk : Nat), HasN prog w h' s.heap.objs.size xs → (∀ b o, s.heap.get? b = some o → h'.get? b = some o) → Q (.ref s.heap.objs.size) { s with heap := h', toks := tk }
/-- set.__init__ over v, its turns told by W -/
def InitsBy (prog : Program) (w : World) (A : Around) (s : Shared) (v : Value) (xs : List Str) : Prop :=
  ∀ (led : Bool) (R : Fin → Shared → Prop) (E' : Value → Shared → Prop), (∀ h' tk, HasN prog w h' s.heap.objs.size xs → (∀ b o, s.heap.get? b = some o → h'.get? b = some o) → R (.done (.ret .none)) { s with heap := h', toks := tk }) →
    wpAny (model prog w) A (Builtin.«set.__init__» ⟨[.ref s.heap.objs.size, v], []⟩) R E' { s with heap := s.heap.push (newSet led) }
set_option maxHeartbeats 3200000 in
theorem set_of {v : Value} {xs : List Str} {Q : Value → Shared → Prop} (hi : InitsBy prog w A.in1.in1 s v xs) (q : SetEnd prog w s xs Q) : wpAny (model prog w) A (call (.type "set") [v]) Q E s := by
  have CS := PySem.F.called_set
  obtain ⟨c, tl, hmro⟩ := CS.mro
  have f1 := CS.made
  have f2 := CS.sub
  have f3 := CS.notType
  have f4 := CS.canCreate
  have f5 := PySem.F.typeCall_set_1 v
  refine wpAny_call (codeAny_of_tree ?_)
  show wpAny _ _ (callAny (.type "set") _) _ _ _
  refine wpAny_pure ⟨Code.quiet_builtin _ (by decide +kernel), codeAny_builtin PySem.F.entry_type_call ?_⟩
  rw [Around.under_plain (weight_type_call_type "set" [v] []) rfl]
  repeat (any_goals (first | assumption | wp_step))
  refine codeAny_mono (code_set_new_1 v (E := E) (Q₁ := fun x y => ∃ led, x = .ref s.heap.objs.size ∧ y = { s with heap := s.heap.push (newSet led) }) fun led => ⟨led, rfl, rfl⟩) fun r y hr => ?_
  match r, hr with
  | .error _, hr => exact hr
  | .ok (.ret x), hr =>
    obtain ⟨led, rfl, rfl⟩ := hr
    have at0 : (s.heap.push (newSet led)).get? s.heap.objs.size = some (newSet led) := Heap.get?_push_size _ rfl
    have ty : Shared.TypeIs { s with heap := s.heap.push (newSet led) } (.ref s.heap.objs.size) "set" := ⟨_, at0, rfl⟩
    have g1 := CS.init.lookup
    have g2 := CS.init.bind (.ref s.heap.objs.size)
    repeat (any_goals (first | assumption | wp_step))
    refine codeAny_mono (codeAny_call_builtin (R := wants (fun r y => r = .none ∧ ∃ h' tk, y = { s with heap := h', toks := tk } ∧ HasN prog w h' s.heap.objs.size xs ∧ ∀ b o, s.heap.get? b = some o → h'.get? b = some o) E) CS.init.plain PySem.F.entry_set_init (check_set_init_1 ty (hi led _ _ fun h' tk a b => ⟨rfl, h', tk, rfl, a, b⟩))) fun r2 y2 hr2 => ?_
    match r2, hr2 with
    | .error _, hr2 => exact hr2
    | .ok (.ret x), hr2 =>
      obtain ⟨rfl, h', tk, rfl, a, b⟩ := hr2
      repeat (any_goals (first | assumption | wp_step))
      exact q h' tk a b
    | .ok .next, hr2 => exact hr2.elim
    | .ok .brk, hr2 => exact hr2.elim
    | .ok .cont, hr2 => exact hr2.elim
  | .ok .next, hr => exact hr.elim
  | .ok .brk, hr => exact hr.elim
  | .ok .cont, hr => exact hr.elim

theorem not_two {a b c : Addr} (h : a ≠ b) (k : a ≠ c) : a ∉ [b, c] := fun z => by
  rcases List.mem_cons.mp z with z | z
  · exact h z
  · exact k (List.mem_singleton.mp z)
/-- the walk of a list or tuple at l into the new set -/
theorem inits_end {l : Addr} {items : Array Value} {xs : List Str} {led : Bool} {R : Fin → Shared → Prop} {A' : Around} {P : Nat → Value → Prop} {St : Nat → Shared → Prop} {I0 : Obj} (hl : l < s.heap.objs.size)
    (W : WalksS prog w A'.in1 (s.heap.objs.size + 1) [s.heap.objs.size + 1, l] [s.heap.objs.size + 1] (fun g g' => g' = g) items.size P St)
    (vals : ∀ i v, P i v → ∃ t, v = .str (xs.getD i Str.empty) t) (len : xs.length = items.size) (small : items.size + 1 < scanBound)
    (st : St 0 { s with heap := (s.heap.push (newSet led)).push I0 })
    (q : ∀ h' tk, HasN prog w h' s.heap.objs.size xs → (∀ b o, s.heap.get? b = some o → h'.get? b = some o) → R (.done (.ret .none)) { s with heap := h', toks := tk }) :
    codeAny (model prog w) A' (.builtin "set.update.loop" ⟨[.ref s.heap.objs.size, .ref (s.heap.objs.size + 1)], []⟩) (fun r s' => r = .ok (.ret .none) ∧ R (.done (.ret .none)) s') { s with heap := (s.heap.push (newSet led)).push I0 } := by
  have at0 : (s.heap.push (newSet led)).get? s.heap.objs.size = some (newSet led) := Heap.get?_push_size _ rfl
  refine strs_into W (S := s.heap.objs.size) (xs := xs) (not_two (Nat.ne_of_lt (Nat.lt_succ_self _)) (Nat.ne_of_gt hl)) len small vals items.size 0 _ (by omega) st ?_ fun s' mv has => ?_
  · exact SetOf_congr ((setObjOf_fresh (knd := PySem.strKind prog w) led).setOf (Heap.get?_push_of_some _ at0) (by unfold scanBound; omega)) (fun _ => rfl) rfl
  · obtain ⟨h', g', d', tk', os'⟩ := s'
    obtain rfl : g' = s.gens := mv.gens
    obtain rfl : d' = s.drawn := mv.drawn
    obtain rfl : os' = s.os := mv.os
    refine ⟨rfl, q h' tk' has fun b o e => ?_⟩
    have hb := Heap.lt_size e
    exact mv.heap b o (not_two (Nat.ne_of_lt hb) (Nat.ne_of_lt (Nat.lt_succ_of_lt hb))) (Heap.get?_push_of_some _ (Heap.get?_push_of_some _ e))

theorem vals_at {items : Array Value} {xs : List Str} (hi : StrsAre items.toList xs) : ∀ (i : Nat) (v : Value), items[i]? = some v → ∃ t, v = Value.str (xs.getD i Str.empty) t := fun i v hv => SS.strs_at hi i v (by rw [Array.getElem?_toList]; exact hv)
set_option maxHeartbeats 3200000 in
theorem inits_list {l : Addr} {items : Array Value} {xs : List Str} (hh : A.handled = none) (hl : s.heap.IsList l items) (hi : StrsAre items.toList xs) (small : items.size + 1 < scanBound) : InitsBy prog w A s (.ref l) xs := by
  intro led R E' q
  obtain ⟨⟨oc, od, oda, osl⟩, ho, hc, nl, hd⟩ := id hl
  dsimp only at hc hd
  subst hc hd
  have lt := Heap.lt_size ho
  have ho' : (s.heap.push (newSet led)).get? l = some { cls := .type "list", dict := od, data := .seq items nl, slots := osl } := Heap.get?_push_of_some _ ho
  have f1 := PySem.F.sub_list_set
  have f2 := PySem.F.sub_list_frozenset
  have f3 : (Value.type "list" == Value.type "dict") = false := by decide
  have il : (s.heap.push (newSet led)).IsList l items := ⟨_, ho', rfl, nl, rfl⟩
  have len : xs.length = items.size := by rw [← StrsAre.len_eq hi, Array.length_toList]
  unfold Builtin.«set.__init__» noKeywords Builtin.Frozenset.updateFrom
  generalize hP : pyIter = PI
  wp_walk
  subst hP
  refine wpAny_pyIter_list il ?_
  refine wpAny_bind (wpAny_runValue ?_)
  rw [Heap.size_push]
  have h3 : A.in1.handled = none := by simp [hh]
  refine codeAny_mono (inits_end (led := led) lt ((Walks.list h3 (s.heap.objs.size + 1) l (Nat.ne_of_lt (Nat.lt_succ_of_lt lt)) items).toS) (vals_at hi) len small ⟨⟨_, Heap.get?_push_at (Heap.size_push ..).symm rfl, rfl, rfl⟩, il.push _⟩ q) fun r s' h => ?_
  obtain ⟨rfl, h⟩ := h
  show wpAny _ _ _ _ _ _
  refine wpAny_pure ?_
  show wpAny _ _ (ret Value.none) _ _ _
  exact wpAny_pure h
set_option maxHeartbeats 3200000 in
theorem inits_tuple {l : Addr} {items : Array Value} {xs : List Str} (hh : A.handled = none) (hl : s.heap.IsTuple l items) (hi : StrsAre items.toList xs) (small : items.size + 1 < scanBound) : InitsBy prog w A s (.ref l) xs := by
  intro led R E' q
  obtain ⟨⟨oc, od, oda, osl⟩, ho, hc, nl, hd⟩ := id hl
  dsimp only at hc hd
  subst hc hd
  have lt := Heap.lt_size ho
  have ho' : (s.heap.push (newSet led)).get? l = some { cls := .type "tuple", dict := od, data := .seq items nl, slots := osl } := Heap.get?_push_of_some _ ho
  have f1 := PySem.F.sub_tuple_set
  have f2 := PySem.F.sub_tuple_frozenset
  have f3 : (Value.type "tuple" == Value.type "dict") = false := by decide
  have il : (s.heap.push (newSet led)).IsTuple l items := ⟨_, ho', rfl, nl, rfl⟩
  have len : xs.length = items.size := by rw [← StrsAre.len_eq hi, Array.length_toList]
  unfold Builtin.«set.__init__» noKeywords Builtin.Frozenset.updateFrom
  generalize hP : pyIter = PI
  wp_walk
  subst hP
  refine wpAny_pyIter_tuple il ?_
  refine wpAny_bind (wpAny_runValue ?_)
  rw [Heap.size_push]
  have h3 : A.in1.handled = none := by simp [hh]
  refine codeAny_mono (inits_end (led := led) lt ((Walks.tuple h3 (s.heap.objs.size + 1) l (Nat.ne_of_lt (Nat.lt_succ_of_lt lt)) items).toS) (vals_at hi) len small ⟨⟨_, Heap.get?_push_at (Heap.size_push ..).symm rfl, rfl, rfl⟩, il.push _⟩ q) fun r s' h => ?_
  obtain ⟨rfl, h⟩ := h
  show wpAny _ _ _ _ _ _
  refine wpAny_pure ?_
  show wpAny _ _ (ret Value.none) _ _ _
  exact wpAny_pure h

end
end TW
namespace TW
open PySem PySem.Spec PyProof.Rows L2
/-- len(set(words)), the words in a list or tuple -/
def tLenSetN (K : PySem.W.Frag) (ta : TE) : TE := fun σ H Q => ta σ H fun x H1 => ∃ l, ∃ xs : List Str, x = .ref l ∧ (SqL K H1 l (xs.map V.str) ∨ SqT K H1 l (xs.map V.str)) ∧ xs.length ≤ 1000 ∧ Q (.int (cnt xs : Nat)) H1
theorem pe_lenSetN {X : Cx} {a : Expr} {ta : TE} {p p2 q pos : Pos} (hc : X.calm = true) (hg : Gl X "len") (hm : X.mg "len" = none) (hg2 : Gl X "set") (hm2 : X.mg "set" = none) (ha : PE X a ta)
    (na : starEach [a] X.env = (false, eval a X.env) :: starEach [] X.env := by rfl) : PE X (.Call (.Name "len" p) [.Call (.Name "set" p2) [a] [] q] [] pos) (tLenSetN X.K ta) := by
  refine ⟨fun pins s σ H Q I h => ?_⟩
  refine Call_ (ld_blt I hg hm boot_len (PyProof.Rows.callWith_builtin1 (PyProof.Rows.args_cons (Call_ (ld_blt I hg2 hm2 boot_set ?_)) rfl) rfl rfl))
  refine PyProof.Rows.callWith_type1 (PyProof.Rows.args_cons (thn (ha.run pins s σ H _ I h) fun v s1 h1 => PyProof.Rows.args_nil ?_) na) na rfl
  obtain ⟨x, H1, I1, r1, l, xs, rfl, hq, small, q1⟩ := h1
  cases r1
  have go : InitsBy X.prog X.w X.A.in1.in1 s1 (.ref l) xs := by
    have hh : X.A.in1.in1.handled = none := by simp [I1.ok.hd hc]
    rcases hq with hq | hq
    · obtain ⟨its, r, pl, hz⟩ := I1.list hq
      have e : its.toArray.size = xs.length := by rw [List.size_toArray, ← r.length, List.length_map]
      exact inits_list hh pl.isList (by simpa using strsAre_of r) (by rw [e]; unfold scanBound; omega)
    · obtain ⟨its, r, pl, hz⟩ := I1.tuple hq
      have e : its.toArray.size = xs.length := by rw [List.size_toArray, ← r.length, List.length_map]
      exact inits_tuple hh pl (by simpa using strsAre_of r) (by rw [e]; unfold scanBound; omega)
  refine set_of go fun h' tk has keep => PyProof.Rows.args_nil ?_
  have le := cnt_le xs
  obtain ⟨o, es, ep, t, ho, hex, hd, _, _, _, hf, hn⟩ := has
  have I2 : Inv X pins σ H1 { s1 with heap := h', toks := tk } := I1.kept keep
  exact call_len_set ho hex hd hf (by rw [hn]; omega) ⟨.int (cnt xs : Nat), H1, I2.tok _, ⟨_, by rw [hn]⟩, q1⟩
end TW
set_option Elab.async false
set_option linter.all false
set_option maxRecDepth 100000
namespace TW
open PySem PySem.Spec PyProof.Rows L2 TL
/-! ### kinds of values -/
def kd7 : List String := ["NoneType", "bool", "int", "str", "list", "tuple", "dict"]
theorem tyx_same {K : PySem.W.Frag} {H H' : Hp} {x : V} {t : Value} (s : Same H H') (h : TyX K H x t) : TyX K H' x t := by
  cases h with
  | base b =>
    refine .base ?_
    cases b with
    | non => exact .non
    | bl x => exact .bl x
    | int i => exact .int i
    | str z => exact .str z
    | flt z => exact .flt z
    | lst e => exact .lst (s _ _ e)
    | frz e => exact .frz (s _ _ e)
    | tup e => exact .tup (s _ _ e)
    | dK e => exact .dK (s _ _ e)
    | dT e => exact .dT (s _ _ e)
    | ins e cl ha hn ht hm => exact .ins (s _ _ e) cl ha hn ht hm
  | byt b => exact .byt b
  | set e => exact .set (s _ _ e)
  | kList e c => exact .kList e c
  | kTuple e c => exact .kTuple e c
  | kDict e c => exact .kDict e c
  | fTuple e => exact .fTuple (s _ _ e)
  | fDict e => exact .fDict (s _ _ e)
/-- of one of the seven kinds; texts are short -/
structure Kd (K : PySem.W.Frag) (H : Hp) (x : V) (T : String) : Prop where
  m : T ∈ kd7
  t : TyX K H x (.type T)
  z : ∀ z, x = .str z → z.length ≤ 1000000
theorem Kd.same {K : PySem.W.Frag} {H H' : Hp} {x : V} {T : String} (s : Same H H') (h : Kd K H x T) : Kd K H' x T := ⟨h.m, tyx_same s h.t, h.z⟩
theorem ty_inv {K : PySem.W.Frag} {H : Hp} {x : V} {t : Value} (h : TyX K H x t) : (t = .type "int" ↔ ∃ i, x = .int i) ∧ (t = .type "str" ↔ ∃ i, x = .str i) ∧ (t = .type "NoneType" ↔ x = .non) := by
  have no : ∀ {a b : String} {p : Prop}, a ≠ b → Value.type a = Value.type b → p := fun ne e => by injection e with e; exact absurd e ne
  have no2 : ∀ {a : Addr} {b : String} {p : Prop}, Value.ref a = Value.type b → p := fun e => nomatch e
  cases h with
  | base b =>
    cases b with
    | non => exact ⟨⟨no (by decide), fun ⟨_, e⟩ => nomatch e⟩, ⟨no (by decide), fun ⟨_, e⟩ => nomatch e⟩, ⟨fun _ => rfl, fun _ => rfl⟩⟩
    | bl x => exact ⟨⟨no (by decide), fun ⟨_, e⟩ => nomatch e⟩, ⟨no (by decide), fun ⟨_, e⟩ => nomatch e⟩, ⟨no (by decide), fun e => nomatch e⟩⟩
    | int i => exact ⟨⟨fun _ => ⟨_, rfl⟩, fun _ => rfl⟩, ⟨no (by decide), fun ⟨_, e⟩ => nomatch e⟩, ⟨no (by decide), fun e => nomatch e⟩⟩
    | str z => exact ⟨⟨no (by decide), fun ⟨_, e⟩ => nomatch e⟩, ⟨fun _ => ⟨_, rfl⟩, fun _ => rfl⟩, ⟨no (by decide), fun e => nomatch e⟩⟩
    | flt z => exact ⟨⟨no (by decide), fun ⟨_, e⟩ => nomatch e⟩, ⟨no (by decide), fun ⟨_, e⟩ => nomatch e⟩, ⟨no (by decide), fun e => nomatch e⟩⟩
    | lst e => exact ⟨⟨no (by decide), fun ⟨_, e⟩ => nomatch e⟩, ⟨no (by decide), fun ⟨_, e⟩ => nomatch e⟩, ⟨no (by decide), fun e => nomatch e⟩⟩
    | frz e => exact ⟨⟨no (by decide), fun ⟨_, e⟩ => nomatch e⟩, ⟨no (by decide), fun ⟨_, e⟩ => nomatch e⟩, ⟨no (by decide), fun e => nomatch e⟩⟩
    | tup e => exact ⟨⟨no (by decide), fun ⟨_, e⟩ => nomatch e⟩, ⟨no (by decide), fun ⟨_, e⟩ => nomatch e⟩, ⟨no (by decide), fun e => nomatch e⟩⟩
    | dK e => exact ⟨⟨no (by decide), fun ⟨_, e⟩ => nomatch e⟩, ⟨no (by decide), fun ⟨_, e⟩ => nomatch e⟩, ⟨no (by decide), fun e => nomatch e⟩⟩
    | dT e => exact ⟨⟨no (by decide), fun ⟨_, e⟩ => nomatch e⟩, ⟨no (by decide), fun ⟨_, e⟩ => nomatch e⟩, ⟨no (by decide), fun e => nomatch e⟩⟩
    | ins e cl ha hn ht hm => exact ⟨⟨no2, fun ⟨_, e⟩ => nomatch e⟩, ⟨no2, fun ⟨_, e⟩ => nomatch e⟩, ⟨no2, fun e => nomatch e⟩⟩
  | byt b => exact ⟨⟨no (by decide), fun ⟨_, e⟩ => nomatch e⟩, ⟨no (by decide), fun ⟨_, e⟩ => nomatch e⟩, ⟨no (by decide), fun e => nomatch e⟩⟩
  | set e => exact ⟨⟨no (by decide), fun ⟨_, e⟩ => nomatch e⟩, ⟨no (by decide), fun ⟨_, e⟩ => nomatch e⟩, ⟨no (by decide), fun e => nomatch e⟩⟩
  | kList e c => exact ⟨⟨no (by decide), fun ⟨_, e⟩ => nomatch e⟩, ⟨no (by decide), fun ⟨_, e⟩ => nomatch e⟩, ⟨no (by decide), fun e => nomatch e⟩⟩
  | kTuple e c => exact ⟨⟨no (by decide), fun ⟨_, e⟩ => nomatch e⟩, ⟨no (by decide), fun ⟨_, e⟩ => nomatch e⟩, ⟨no (by decide), fun e => nomatch e⟩⟩
  | kDict e c => exact ⟨⟨no (by decide), fun ⟨_, e⟩ => nomatch e⟩, ⟨no (by decide), fun ⟨_, e⟩ => nomatch e⟩, ⟨no (by decide), fun e => nomatch e⟩⟩
  | fTuple e => exact ⟨⟨no (by decide), fun ⟨_, e⟩ => nomatch e⟩, ⟨no (by decide), fun ⟨_, e⟩ => nomatch e⟩, ⟨no (by decide), fun e => nomatch e⟩⟩
  | fDict e => exact ⟨⟨no (by decide), fun ⟨_, e⟩ => nomatch e⟩, ⟨no (by decide), fun ⟨_, e⟩ => nomatch e⟩, ⟨no (by decide), fun e => nomatch e⟩⟩
theorem ty_int {K : PySem.W.Frag} {H : Hp} {x : V} {T : String} (h : TyX K H x (.type T)) : T = "int" ↔ ∃ i, x = .int i :=
  ⟨fun e => (ty_inv h).1.mp (by rw [e]), fun e => by have := (ty_inv h).1.mpr e; injection this⟩
theorem ty_str {K : PySem.W.Frag} {H : Hp} {x : V} {T : String} (h : TyX K H x (.type T)) : T = "str" ↔ ∃ i, x = .str i :=
  ⟨fun e => (ty_inv h).2.1.mp (by rw [e]), fun e => by have := (ty_inv h).2.1.mpr e; injection this⟩
theorem ty_non {K : PySem.W.Frag} {H : Hp} {x : V} {T : String} (h : TyX K H x (.type T)) : T = "NoneType" ↔ x = .non :=
  ⟨fun e => (ty_inv h).2.2.mp (by rw [e]), fun e => by have := (ty_inv h).2.2.mpr e; injection this⟩
theorem all7 {p : String → Bool} (h : kd7.all p = true) {T : String} (m : T ∈ kd7) : p T = true := List.all_eq_true.mp h T m
theorem kit7_int {K : PySem.W.Frag} {T : String} (m : T ∈ kd7) : PySem.W.kitOne K (.type T) (.type "int") = some (T == "int" || T == "bool") :=
  kit_ty (eq_of_beq (all7 (p := fun T => kitB T "int" == some (T == "int" || T == "bool")) (by decide +kernel) m))
theorem kit7_bool {K : PySem.W.Frag} {T : String} (m : T ∈ kd7) : PySem.W.kitOne K (.type T) (.type "bool") = some (T == "bool") :=
  kit_ty (eq_of_beq (all7 (p := fun T => kitB T "bool" == some (T == "bool")) (by decide +kernel) m))
theorem kit7_str {K : PySem.W.Frag} {T : String} (m : T ∈ kd7) : PySem.W.kitOne K (.type T) (.type "str") = some (T == "str") :=
  kit_ty (eq_of_beq (all7 (p := fun T => kitB T "str" == some (T == "str")) (by decide +kernel) m))
theorem kit7_list {K : PySem.W.Frag} {T : String} (m : T ∈ kd7) : PySem.W.kitOne K (.type T) (.type "list") = some (T == "list") :=
  kit_ty (eq_of_beq (all7 (p := fun T => kitB T "list" == some (T == "list")) (by decide +kernel) m))
theorem kit7_tuple {K : PySem.W.Frag} {T : String} (m : T ∈ kd7) : PySem.W.kitOne K (.type T) (.type "tuple") = some (T == "tuple") :=
  kit_ty (eq_of_beq (all7 (p := fun T => kitB T "tuple" == some (T == "tuple")) (by decide +kernel) m))
theorem kit7_dict {K : PySem.W.Frag} {T : String} (m : T ∈ kd7) : PySem.W.kitOne K (.type T) (.type "dict") = some (T == "dict") :=
  kit_ty (eq_of_beq (all7 (p := fun T => kitB T "dict" == some (T == "dict")) (by decide +kernel) m))
theorem kit7_seq {K : PySem.W.Frag} {T : String} (m : T ∈ kd7) : PySem.W.kitAny K (.type T) [.type "list", .type "tuple"] = some (T == "list" || T == "tuple") := by
  unfold PySem.W.kitAny
  rw [kit7_list m]
  by_cases h : T = "list"
  · subst h; rfl
  · have h' : (T == "list") = false := by simpa using h
    rw [h']
    show PySem.W.kitAny K (.type T) [.type "tuple"] = _
    unfold PySem.W.kitAny
    rw [kit7_tuple m]
    by_cases h2 : T = "tuple"
    · subst h2; rfl
    · have h2' : (T == "tuple") = false := by simpa using h2
      rw [h2']
      rfl
/-! ### the mirrors -/
def btw (x : V) (lo hi : Int) : Bool := match x with
  | .int i => decide (lo ≤ i) && decide (i ≤ hi)
  | _ => false
instance (z : Str) : Decidable (IsW z) := by unfold IsW; infer_instance
def isWb (x : V) : Bool := match x with
  | .str z => decide (IsW z)
  | _ => false
/-! ### a comprehension over a text -/
theorem lc_str {x : Str} {g : TG} {tt : TT} {te : TE} {vs : List Nat} {σ : St'} {H1 : Hp} {D : Addr} {Qd : Hp → Prop} (Pv : Nat → Hp → Prop) (h0 : Pv 0 (upd H1 D (.lst [])))
    (hs : ∀ i c H, x.cps[i]? = some c → Pv i H → g (.str ⟨#[c]⟩) (wipe σ vs) H fun σ2 H2 => wipe σ2 vs = wipe σ vs ∧ tt σ2 H2 fun b H3 =>
      if b = true then te σ2 H3 fun y H4 => ∃ acc, H4 D = some (.lst acc) ∧ acc.length < sizeLine ∧ Pv (i + 1) (upd H4 D (.lst (acc ++ [y]))) else Pv (i + 1) H3) (hd : ∀ H, Pv x.cps.size H → Qd H) :
    ∃ W : Nat → Nat → Hp → Prop, (∃ m, W 0 m (upd H1 D (.lst []))) ∧ ∀ i m H, W i m H →
      ((Its x).stop i H ∧ Qd H) ∨ ((Its x).go i H ∧ ∃ Nx : Hp → Prop, (∀ H', Nx H' → ∃ m', m' < m ∧ W (i + 1) m' H') ∧ ∀ y H', (Its x).yld i H y H' → g y (wipe σ vs) H' fun σ2 H2 => wipe σ2 vs = wipe σ vs ∧ tt σ2 H2 fun b H3 =>
        if b = true then te σ2 H3 fun y H4 => ∃ acc, H4 D = some (.lst acc) ∧ acc.length < sizeLine ∧ Nx (upd H4 D (.lst (acc ++ [y]))) else Nx H3) := by
  refine ⟨fun i m H => m = x.cps.size - i ∧ i ≤ x.cps.size ∧ Pv i H, ⟨x.cps.size, by simp, Nat.zero_le _, h0⟩, ?_⟩
  rintro i m H ⟨rfl, hi, p⟩
  by_cases hlt : i < x.cps.size
  · refine .inr ⟨hlt, Pv (i + 1), fun H' p' => ⟨x.cps.size - (i + 1), by omega, rfl, hlt, p'⟩, fun y H' hy => ?_⟩
    obtain ⟨e, c, hc, rfl⟩ := hy
    subst e
    exact hs i c _ hc p
  · have e : i = x.cps.size := by omega
    subst e
    exact .inl ⟨Nat.le_refl _, hd H p⟩
theorem one_lt (a b : Nat) : ([a] : List Nat) < [b] ↔ a < b := by
  rw [List.cons_lt_cons_iff]
  constructor
  · rintro (h | ⟨_, h⟩)
    · exact h
    · exact absurd h (by simp)
  · exact .inl
theorem sign_a : (Str.ofString "a").cps.toList = [97] := by decide +kernel
theorem sign_z : (Str.ofString "z").cps.toList = [122] := by decide +kernel
theorem le_a {c : Nat} {b : Bool} (g : (!decide (([c] : List Nat) < (Str.ofString "a").cps.toList)) = b) : b = decide (97 ≤ c) := by
  rw [sign_a] at g
  rw [← g]
  by_cases h : c < 97
  · rw [decide_eq_true ((one_lt c 97).mpr h), decide_eq_false (by omega)]; rfl
  · rw [decide_eq_false (fun z => h ((one_lt c 97).mp z)), decide_eq_true (by omega)]; rfl
theorem le_z (c : Nat) : (!decide ((Str.ofString "z").cps.toList < ([c] : List Nat))) = decide (c ≤ 122) := by
  rw [sign_z]
  by_cases h : 122 < c
  · rw [decide_eq_true ((one_lt 122 c).mpr h), decide_eq_false (by omega)]; rfl
  · rw [decide_eq_false (fun z => h ((one_lt 122 c).mp z)), decide_eq_true (by omega)]; rfl
theorem take_next' {α : Type} {ws : List α} {i : Nat} {z : α} (hz : ws[i]? = some z) : ws.take (i + 1) = ws.take i ++ [z] := by
  rw [List.take_add_one, hz]; rfl
/-! ### a word, by its kinds of signs -/
set_option maxRecDepth 100000 in
theorem sign_kinds : ∀ c : Fin 128, ((Unicode.isAlpha c.val && !(Unicode.isUpper c.val || Unicode.isTitle c.val)) = (decide (97 ≤ c.val ∧ c.val ≤ 122))) ∧ ((decide (97 ≤ c.val ∧ c.val ≤ 122)) = true → Unicode.isLower c.val = true) := by decide +kernel
theorem word_kinds {z : Str} (h : 0 < z.length) : (Txt.isascii z && (Txt.isalpha z && Txt.islower z)) = decide (∀ c ∈ z.cps.toList, 97 ≤ c ∧ c ≤ 122) := by
  have hl : z.cps.toList.length = z.length := Array.length_toList ..
  unfold Txt.isascii Txt.isalpha Txt.islower
  rw [decide_eq_true (show z.length > 0 from h), Bool.true_and]
  rw [← Array.all_toList, ← Array.all_toList, ← Array.any_toList, ← Array.any_toList]
  by_cases w : ∀ c ∈ z.cps.toList, 97 ≤ c ∧ c ≤ 122
  · rw [decide_eq_true w]
    have k : ∀ c ∈ z.cps.toList, c < 128 ∧ Unicode.isAlpha c = true ∧ (Unicode.isUpper c || Unicode.isTitle c) = false ∧ Unicode.isLower c = true := fun c hc => by
      have b := w c hc
      have s := sign_kinds ⟨c, by omega⟩
      have s1 := s.1
      rw [decide_eq_true b] at s1
      have s2 := s.2 (decide_eq_true b)
      have s3 := Bool.and_eq_true_iff.mp s1
      exact ⟨by omega, s3.1, by simpa using s3.2, s2⟩
    have a1 : (z.cps.toList.all fun x => decide (x < 128)) = true := List.all_eq_true.mpr fun c hc => decide_eq_true (k c hc).1
    have a2 : z.cps.toList.all Unicode.isAlpha = true := List.all_eq_true.mpr fun c hc => (k c hc).2.1
    have a3 : (z.cps.toList.any fun c => Unicode.isUpper c || Unicode.isTitle c) = false := List.any_eq_false.mpr fun c hc => by rw [(k c hc).2.2.1]; simp
    have a4 : z.cps.toList.any Unicode.isLower = true := by
      obtain ⟨c, r, e⟩ : ∃ c r, z.cps.toList = c :: r := by
        cases e : z.cps.toList with
        | nil => rw [e] at hl; simp at hl; omega
        | cons c r => exact ⟨c, r, rfl⟩
      exact List.any_eq_true.mpr ⟨c, by rw [e]; exact List.mem_cons_self .., (k c (by rw [e]; exact List.mem_cons_self ..)).2.2.2⟩
    rw [a1, a2, a3, a4]; rfl
  · rw [decide_eq_false w]
    refine Bool.eq_false_iff.mpr fun e => w fun c hc => ?_
    have e1 := Bool.and_eq_true_iff.mp e
    have e2 := Bool.and_eq_true_iff.mp e1.2
    have e3 := Bool.and_eq_true_iff.mp e2.2
    have l := of_decide_eq_true (List.all_eq_true.mp e1.1 c hc)
    have s := (sign_kinds ⟨c, l⟩).1
    have al := List.all_eq_true.mp e2.1 c hc
    have up : (Unicode.isUpper c || Unicode.isTitle c) = false := by
      have := List.any_eq_false.mp (by simpa using e3.2 : (z.cps.toList.any fun c => Unicode.isUpper c || Unicode.isTitle c) = false) c hc
      simpa using this
    show 97 ≤ c ∧ c ≤ 122
    rw [show Unicode.isAlpha (⟨c, l⟩ : Fin 128).val = true from al, show (Unicode.isUpper (⟨c, l⟩ : Fin 128).val || Unicode.isTitle (⟨c, l⟩ : Fin 128).val) = false from up] at s
    exact of_decide_eq_true s.symm
/-! ### the promises -/
def spIsInt (K : PySem.W.Frag) : Sp := fun vs H Q _ => ∃ x T, vs = [x] ∧ Kd K H x T ∧ Q (.bl (T == "int")) H
def spBtw (K : PySem.W.Frag) : Sp := fun vs H Q _ => ∃ x T lo hi, vs = [x, .int lo, .int hi] ∧ Kd K H x T ∧ Q (.bl (btw x lo hi)) H
def spIsW (K : PySem.W.Frag) : Sp := fun vs H Q _ => ∃ x T, vs = [x] ∧ Kd K H x T ∧ ∀ H', Same H H' → Q (.bl (isWb x)) H'
abbrev S_is_integer : Stmt := topS 10
abbrev N_is_integer : List Str := ["value"]
abbrev P_is_integer : List Str := ["value"]
theorem sc_is_integer : FnScope N_is_integer P_is_integer (defScope S_is_integer) := ⟨rfl, rfl, rfl, by decide +kernel, rfl, by decide +kernel, by decide +kernel⟩
abbrev S_is_between : Stmt := topS 11
abbrev N_is_between : List Str := ["value", "least", "most"]
abbrev P_is_between : List Str := ["value", "least", "most"]
theorem sc_is_between : FnScope N_is_between P_is_between (defScope S_is_between) := ⟨rfl, rfl, rfl, by decide +kernel, rfl, by decide +kernel, by decide +kernel⟩
abbrev S_is_word : Stmt := topS 12
abbrev N_is_word : List Str := ["value"]
abbrev P_is_word : List Str := ["value"]
theorem sc_is_word : FnScope N_is_word P_is_word (defScope S_is_word) := ⟨rfl, rfl, rfl, by decide +kernel, rfl, by decide +kernel, by decide +kernel⟩
section
variable {P : Program} {w : World} {K : PySem.W.Frag} {mg : Str → Option Value} {base : Heap}
set_option maxHeartbeats 4000000 in
theorem ok_is_integer {f : Addr} {fd : FuncData} (F : Fun K "is_integer" "is_integer" S_is_integer f fd) (B : Bl mg) : FnOk P w K mg base CX0 1 f fd P_is_integer (spIsInt K) := by
  refine F.ok sc_is_integer (fun vs H Q E h => ?_) (fun cdv A outer s H vs Q E hr h => ?_)
  · obtain ⟨x, T, rfl, _⟩ := h
    rfl
  · obtain ⟨x, T, rfl, hk, k⟩ := h
    refine ⟨_, (pss_one (ps_ret (pe_and (pe_callB call_isi (by rfl) B.m_isinstance (by decide +kernel) (pa_cons (pv 0) (pa_cons (pe_bltn (v := .ty "int") (by rfl) B.m_int (by decide +kernel) rfl) pa_nil))) (pe_one (pe_not (pe_callB call_isi (by rfl) B.m_isinstance (by decide +kernel) (pa_cons (pv 0) (pa_cons (pe_bltn (v := .ty "bool") (by rfl) B.m_bool (by decide +kernel) rfl) pa_nil)))))))), ?_⟩
    refine ⟨_, rfl, _, _, _, _, _, rfl, .ty "int", hk.t, kit7_int hk.m, _, rfl, ?_⟩
    refine ite_dec (fun hb => ?_) (fun hb => ?_)
    · refine ⟨_, rfl, _, _, _, _, _, rfl, .ty "bool", hk.t, kit7_bool hk.m, _, rfl, ?_⟩
      have e : (!(T == "bool")) = (T == "int") := by
        rcases Bool.or_eq_true_iff.mp hb with h | h
        · have := eq_of_beq h; subst this; rfl
        · have := eq_of_beq h; subst this; rfl
      rw [e]; exact k
    · have e : (T == "int") = false := (Bool.or_eq_false_iff.mp hb).1
      rw [← e]; exact k
set_option maxHeartbeats 4000000 in
theorem ok_is_between {f fI : Addr} {fd fdI : FuncData} (F : Fun K "is_between" "is_between" S_is_between f fd) (B : Bl mg) (d_is_integer : Df K mg "is_integer" S_is_integer fI fdI P_is_integer) (G_is_integer : FnOk P w K mg base CX0 1 fI fdI P_is_integer (spIsInt K)) : FnOk P w K mg base CX0 2 f fd P_is_between (spBtw K) := by
  refine F.ok sc_is_between (fun vs H Q E h => ?_) (fun cdv A outer s H vs Q E hr h => ?_)
  · obtain ⟨x, T, lo, hi, rfl, _⟩ := h
    rfl
  · obtain ⟨x, T, lo, hi, rfl, hk, k⟩ := h
    have hr_is_integer : Room 1 _ := hr.mono (Nat.le_refl 1)
    refine ⟨_, (pss_one (ps_ret (pe_and (pe_call G_is_integer hr_is_integer rfl d_is_integer.g d_is_integer.F.kp d_is_integer.b .nil pass0 (pa_cons (pv 0) pa_nil)) (pe_one (pe_chain op_le op_le (pv 1) (pv 0) (pv 2)))))), ?_⟩
    refine ⟨_, rfl, x, T, rfl, hk, _, rfl, ?_⟩
    refine ite_dec (fun hb => ?_) (fun hb => ?_)
    · obtain ⟨i, rfl⟩ := (ty_int hk.t).mp (eq_of_beq hb)
      refine ⟨_, rfl, _, rfl, _, _, rfl, rfl, _, rfl, ?_⟩
      refine ite_dec (fun h1 => ?_) (fun h1 => ?_)
      · refine ⟨_, rfl, _, _, rfl, rfl, ?_⟩
        have h1' : lo ≤ i := of_decide_eq_true h1
        have e : btw (.int i) lo hi = decide (i ≤ hi) := by simp [btw, h1']
        rw [e] at k; exact k
      · have h1' : ¬ lo ≤ i := of_decide_eq_false h1
        have e : btw (.int i) lo hi = false := by simp [btw, h1']
        rw [e] at k; exact k
    · have e : btw x lo hi = false := by
        cases x <;> try rfl
        have := (ty_int hk.t).mpr ⟨_, rfl⟩
        subst this
        cases hb
      rw [← e]; exact k
set_option maxHeartbeats 4000000 in
theorem ok_is_word {f : Addr} {fd : FuncData} {t : Tok} (F : Fun K "is_word" "is_word" S_is_word f fd) (B : Bl mg) (m_MOST_LETTERS : mg "MOST_LETTERS" = some (.int 8 t)) : FnOk P w K mg base CX0 1 f fd P_is_word (spIsW K) := by
  refine F.ok sc_is_word (fun vs H Q E h => ?_) (fun cdv A outer s H vs Q E hr h => ?_)
  · obtain ⟨x, T, rfl, _⟩ := h
    rfl
  · obtain ⟨x, T, rfl, hk, k⟩ := h
    refine ⟨_, (pss_cons (ps_if (PW.pt (pw_or (pt_not (pt_val (pe_callB call_isi (by rfl) B.m_isinstance (by decide +kernel) (pa_cons (pv 0) (pa_cons (pe_bltn (v := .ty "str") (by rfl) B.m_str (by decide +kernel) rfl) pa_nil))))) (pw_or1 (pt_not (pt_chain op_le op_le pe_int (pe_callB call_len_str (by rfl) B.m_len PySem.boot_len (pa_cons (pv 0) pa_nil)) (pe_glob (v := .int _) rfl m_MOST_LETTERS ⟨_, rfl⟩)))))) (pss_one (ps_ret pe_bl)) pss_nil)
 (pss_one (ps_ret (pe_and (pe_m0 PySem.F.slot_str_isascii PySem.F.type_str_isascii mt_isascii (pv 0)) (pe_and (pe_m0 PySem.F.slot_str_isalpha PySem.F.type_str_isalpha mt_isalpha (pv 0)) (pe_one (pe_m0 PySem.F.slot_str_islower PySem.F.type_str_islower mt_islower (pv 0)))))))), ?_⟩
    refine ⟨_, rfl, _, _, _, _, _, rfl, .ty "str", hk.t, kit7_str hk.m, _, rfl, ?_⟩
    refine ite_dec (fun hb => ?_) (fun hb => ?_)
    · have hb' : (T == "str") = false := by simpa using hb
      have e : isWb x = false := by
        cases x <;> try rfl
        have := (ty_str hk.t).mpr ⟨_, rfl⟩
        subst this
        cases hb'
      refine iteT ?_
      rw [← e]; exact k H (Same.refl H)
    · have hb' : (T == "str") = true := by simpa using hb
      obtain ⟨z, rfl⟩ := (ty_str hk.t).mp (eq_of_beq hb')
      have hz := hk.z z rfl
      have hzl : z.length ≤ sizeLine := Nat.le_trans hz (by decide)
      refine ⟨_, rfl, z, rfl, hzl, _, _, rfl, rfl, _, rfl, ?_⟩
      refine ite_dec (fun h1 => ?_) (fun h1 => ?_)
      · have h1' : (1 : Int) ≤ (z.length : Int) := of_decide_eq_true h1
        refine ⟨_, _, rfl, rfl, _, rfl, ?_⟩
        refine ite_dec (fun h2 => ?_) (fun h2 => ?_)
        · have h2' : ¬ (z.length : Int) ≤ 8 := by simpa using h2
          have e : isWb (.str z) = false := decide_eq_false (fun w => by have := w.2.1; omega)
          rw [← e]; exact k H (Same.refl H)
        · have h2' : (z.length : Int) ≤ 8 := by simpa using h2
          have hl0 : 0 < z.length := by have : (1 : Int) ≤ (z.length : Int) := h1'; omega
          have all : isWb (.str z) = (Txt.isascii z && (Txt.isalpha z && Txt.islower z)) := by
            rw [word_kinds hl0]
            show decide (IsW z) = _
            by_cases wz : ∀ c ∈ z.cps.toList, 97 ≤ c ∧ c ≤ 122
            · rw [decide_eq_true (show IsW z from ⟨by omega, by omega, wz⟩), decide_eq_true wz]
            · rw [decide_eq_false (fun z' : IsW z => wz z'.2.2), decide_eq_false wz]
          refine ⟨_, rfl, ⟨_, rfl⟩, z, rfl, rfl, trivial, _, rfl, ?_⟩
          refine ite_dec (fun g1 => ?_) (fun g1 => ?_)
          · refine ⟨_, rfl, ⟨_, rfl⟩, z, rfl, rfl, trivial, _, rfl, ?_⟩
            refine ite_dec (fun g2 => ?_) (fun g2 => ?_)
            · refine ⟨_, rfl, ⟨_, rfl⟩, z, rfl, rfl, trivial, ?_⟩
              have e : isWb (.str z) = Txt.islower z := by rw [all, g1, g2]; rfl
              rw [← e]; exact k H (Same.refl H)
            · have e : isWb (.str z) = false := by rw [all, g1, g2]; rfl
              rw [← e]; exact k H (Same.refl H)
          · have e : isWb (.str z) = false := by rw [all, g1]; rfl
            rw [← e]; exact k H (Same.refl H)
      · have h1' : ¬ (1 : Int) ≤ (z.length : Int) := of_decide_eq_false h1
        have e : isWb (.str z) = false := decide_eq_false (fun w => by have := w.1; omega)
        refine ⟨_, rfl, ?_⟩
        refine iteT ?_
        rw [← e]; exact k H (Same.refl H)
end
end TW
set_option Elab.async false
set_option linter.all false
set_option maxRecDepth 100000
namespace TW
open PySem PySem.Spec PyProof.Rows L2 TL
/-- what a field or a name holds -/
def hv : Option Nat → V
  | none => .non
  | some i => .int (i : Int)
theorem hv_some {m : Int} (h : 0 ≤ m) : hv (some m.toNat) = .int m := by
  show V.int ((m.toNat : Nat) : Int) = _
  rw [Int.toNat_of_nonneg h]
/-- a dict from words to such -/
def dk (l : List (Str × Option Nat)) : List (Key × V) := l.map fun p => ((Sum.inr p.1 : Key), hv p.2)
theorem dk_len (l : List (Str × Option Nat)) : (dk l).length = l.length := List.length_map ..
theorem dk_valV (k : Str) : ∀ l : List (Str × Option Nat), valV (dk l) (Sum.inr k : Key) = (l.lookup k).map hv
  | [] => rfl
  | (f, v) :: l => by
    have ih := dk_valV k l
    by_cases h : f = k
    · subst h
      rw [show dk ((f, v) :: l) = ((Sum.inr f : Key), hv v) :: dk l from rfl, valV_pos rfl, List.lookup_cons, beq_self_eq_true]
      rfl
    · have h2 : (k == f) = false := by simpa [beq_iff_eq] using fun e : k = f => h e.symm
      rw [show dk ((f, v) :: l) = ((Sum.inr f : Key), hv v) :: dk l from rfl, valV_neg (fun e => h (Sum.inr.inj e)), List.lookup_cons, h2, ih]
theorem lookup_none {k : Str} : ∀ {l : List (Str × Option Nat)}, k ∉ l.map (·.1) → l.lookup k = none
  | [], _ => rfl
  | (f, v) :: l, h => by
    have h2 : (k == f) = false := by simpa [beq_iff_eq] using fun e : k = f => h (e ▸ List.mem_cons_self ..)
    rw [List.lookup_cons, h2]
    exact lookup_none fun z => h (List.mem_cons_of_mem _ z)
theorem dk_put {l : List (Str × Option Nat)} {k : Str} {v : Option Nat} (h : k ∉ l.map (·.1)) : putK (dk l) (Sum.inr k : Key) (hv v) = dk (l ++ [(k, v)]) := by
  rw [putK_new _ (by rw [dk_valV, lookup_none h]; rfl)]
  unfold dk
  rw [List.map_append]
  rfl
theorem dk_map_put {k : Str} {v : Option Nat} : ∀ {l : List (Str × Option Nat)}, k ∉ l.map (·.1) → (dk l).map (fun kv => if kv.1 = (Sum.inr k : Key) then (kv.1, hv v) else kv) = dk l
  | [], _ => rfl
  | (f, x) :: l, h => by
    have hf : f ≠ k := fun e => h (by rw [← e]; exact List.mem_cons_self ..)
    have ih := dk_map_put (v := v) (l := l) (fun z => h (List.mem_cons_of_mem _ z))
    show (if (Sum.inr f : Key) = Sum.inr k then _ else _) :: (dk l).map _ = ((Sum.inr f : Key), hv x) :: dk l
    rw [if_neg (fun e => hf (Sum.inr.inj e)), ih]
theorem dk_again {l : List (Str × Option Nat)} {k : Str} {u v : Option Nat} (h : k ∉ l.map (·.1)) : putK (dk (l ++ [(k, u)])) (Sum.inr k : Key) (hv v) = dk (l ++ [(k, v)]) := by
  unfold putK
  rw [if_pos]
  · show (dk (l ++ [(k, u)])).map _ = _
    unfold dk
    rw [List.map_append, List.map_append, List.map_append]
    have := dk_map_put (v := v) h
    unfold dk at this
    rw [this]
    simp
  · rw [valV_any, dk_valV]
    have : (l ++ [(k, u)]).lookup k = some u := by
      rw [List.lookup_append, lookup_none h]
      simp
    rw [this]
    rfl
/-- values in bounds -/
def okv (n : Nat) : Option Nat → Prop
  | none => True
  | some i => i < n
def okl (n : Nat) (l : List (Str × Option Nat)) : Prop := ∀ p ∈ l, okv n p.2
abbrev Ob := List (Str × Option Nat)
/-- the objects of the law: a list at q of dicts at ds -/
structure ObjsAt (H : Hp) (q : Addr) (ds : List Addr) (fs : List Str) (n : Nat) (os : List Ob) : Prop where
  ls : H q = some (.lst (ds.map V.ref))
  len : ds.length = os.length
  nd : ds.Nodup
  at' : ∀ (i : Nat) (d : Addr) (o : Ob), ds[i]? = some d → os[i]? = some o → H d = some (.dK (dk o))
  ks : ∀ o ∈ os, (o.map (·.1)).Perm fs
  ok : ∀ o ∈ os, okl n o
/-- not the pool's -/
def Off (p c : Addr) (l : List Addr) : Prop := ∀ a ∈ l, a ≠ p ∧ a ≠ c
theorem ObjsAt.fr {p c q : Addr} {H H' : Hp} {ds : List Addr} {fs : List Str} {n : Nat} {os : List Ob} (O : ObjsAt H q ds fs n os) (hq : q ≠ p ∧ q ≠ c) (hd : Off p c ds) (f : Fr p c H H') : ObjsAt H' q ds fs n os :=
  ⟨f _ _ hq.1 hq.2 O.ls, O.len, O.nd, fun i d o h1 h2 => let z := hd d (List.mem_of_getElem? h1); f _ _ z.1 z.2 (O.at' i d o h1 h2), O.ks, O.ok⟩
theorem ObjsAt.same {q : Addr} {H H' : Hp} {ds : List Addr} {fs : List Str} {n : Nat} {os : List Ob} (O : ObjsAt H q ds fs n os) (f : Same H H') : ObjsAt H' q ds fs n os :=
  ⟨f _ _ O.ls, O.len, O.nd, fun i d o h1 h2 => f _ _ (O.at' i d o h1 h2), O.ks, O.ok⟩
def spValue : Sp := fun vs H Q _ => ∃ (p c : Addr) (n : Nat), vs = [.ref p, .int (n : Int)] ∧ Pool p c H ∧ n ≤ 1000 ∧
  ∀ (v : Option Nat) (H' : Hp), okv n v → Pool p c H' → Fr p c H H' → Q (hv v) H'
def spObjects : Sp := fun vs H Q _ => ∃ (p c a : Addr) (fs : List Str) (n : Nat), vs = [.ref p, .ref a, .int (n : Int)] ∧ Pool p c H ∧ (a ≠ p ∧ a ≠ c) ∧ H a = some (.lst (fs.map V.str)) ∧ fs.Nodup ∧ fs.length ≤ 20 ∧ n ≤ 1000 ∧
  ∀ (q : Addr) (ds : List Addr) (os : List Ob) (H' : Hp), H q = none → (∀ d ∈ ds, H d = none ∧ d ≠ q) → os.length = n → ObjsAt H' q ds fs n os → Pool p c H' → Fr p c H H' → Q (.ref q) H'
def spNames : Sp := fun vs H Q _ => ∃ (p c a : Addr) (ws : List Str) (n : Nat), vs = [.ref p, .ref a, .int (n : Int)] ∧ Pool p c H ∧ (a ≠ p ∧ a ≠ c) ∧ H a = some (.lst (ws.map V.str)) ∧ ws.Nodup ∧ ws.length ≤ 20 ∧ n ≤ 1000 ∧
  ∀ (q : Addr) (l : Ob) (H' : Hp), H q = none → H' q = some (.dK (dk l)) → l.map (·.1) = ws → okl n l → Pool p c H' → Fr p c H H' → Q (.ref q) H'
theorem Pool.upd2 {p c q : Addr} {H : Hp} (P : Pool p c H) (h : q ≠ p ∧ q ≠ c) (o : HO) : Pool p c (upd H q o) := by
  obtain ⟨xs, a2, m2, g1, g2, g3⟩ := P.ex
  exact ⟨P.ne, xs, a2, m2, by rw [upd_ne h.1.symm]; exact g1, by rw [upd_ne h.2.symm]; exact g2, g3⟩
theorem get_str {ws : List Str} {i : Nat} {x : V} (hx : (ws.map V.str)[i]? = some x) : ∃ z, ws[i]? = some z ∧ x = V.str z := by
  rw [List.getElem?_map] at hx
  cases e : ws[i]? with
  | none => rw [e] at hx; cases hx
  | some z => rw [e] at hx; exact ⟨z, rfl, (Option.some.inj hx).symm⟩
theorem nodup_fresh {ws : List Str} {i : Nat} {z : Str} (nd : ws.Nodup) (hz : ws[i]? = some z) : z ∉ ws.take i := fun hm => by
  obtain ⟨j, hj, e⟩ := List.mem_take_iff_getElem.mp hm
  have hj' : ws[j]? = some z := by rw [← e]; exact List.getElem?_eq_getElem _
  have hj2 := (List.getElem?_eq_some_iff.mp hj').1
  have := (List.getElem?_inj hj2 nd).mp (hj'.trans hz.symm)
  omega
theorem take_next {α : Type} {ws : List α} {i : Nat} {z : α} (hz : ws[i]? = some z) : ws.take (i + 1) = ws.take i ++ [z] := by
  rw [List.take_add_one, hz]; rfl
abbrev S_law_value : Stmt := topS 72
abbrev N_law_value : List Str := ["_law_pool", "_law_count", "_law_value_here"]
abbrev P_law_value : List Str := ["_law_pool", "_law_count"]
theorem sc_law_value : FnScope N_law_value P_law_value (defScope S_law_value) := ⟨rfl, rfl, rfl, by decide +kernel, rfl, by decide +kernel, by decide +kernel⟩
abbrev S_law_objects : Stmt := topS 73
abbrev N_law_objects : List Str := ["_law_pool", "_law_fields", "_law_count", "_law_objects_here", "_law_k", "_law_item", "_law_field"]
abbrev P_law_objects : List Str := ["_law_pool", "_law_fields", "_law_count"]
theorem sc_law_objects : FnScope N_law_objects P_law_objects (defScope S_law_objects) := ⟨rfl, rfl, rfl, by decide +kernel, rfl, by decide +kernel, by decide +kernel⟩
abbrev S_law_names : Stmt := topS 74
abbrev N_law_names : List Str := ["_law_pool", "_law_names_here", "_law_count", "_law_holders", "_law_name", "_law_number"]
abbrev P_law_names : List Str := ["_law_pool", "_law_names_here", "_law_count"]
theorem sc_law_names : FnScope N_law_names P_law_names (defScope S_law_names) := ⟨rfl, rfl, rfl, by decide +kernel, rfl, by decide +kernel, by decide +kernel⟩
section
variable {P : Program} {w : World} {K : PySem.W.Frag} {mg : Str → Option Value} {base : Heap}
set_option maxHeartbeats 4000000 in
theorem ok_value {f fD : Addr} {fd fdD : FuncData} (F : Fun K "_law_value" "_law_value" S_law_value f fd) (B : Bl mg) (d_law_draw : Df K mg "_law_draw" S_law_draw fD fdD P_law_draw) (G_law_draw : FnOk P w K mg base CX0 1 fD fdD P_law_draw spDraw) : FnOk P w K mg base CX0 2 f fd P_law_value spValue := by
  refine F.ok sc_law_value (fun vs H Q E h => ?_) (fun cdv A outer s H vs Q E hr h => ?_)
  · obtain ⟨p, c, n, rfl, _⟩ := h
    rfl
  · obtain ⟨p, c, n, rfl, PL, hn, k⟩ := h
    have hr_law_draw : Room 1 _ := hr.mono (Nat.le_refl 1)
    refine ⟨_, (pss_cons (ps_set (i := 2) sc_law_value.nd rfl (by first | exact Or.inl rfl | exact Or.inr rfl) (pe_call G_law_draw hr_law_draw rfl d_law_draw.g d_law_draw.F.kp d_law_draw.b .nil pass0 (pa_cons (pv 0) (pa_cons (pe_op op_add (pe_op op_mul pe_int (pv 1)) pe_int) pa_nil))))
 (pss_cons (ps_if (pt_cmpR op_ge (pv 2) (pe_op op_mul pe_int (pv 1)) (nomark _)) (pss_one (ps_ret pe_non)) pss_nil)
 (pss_one (ps_ret (pe_op op_mod (pe_callTy call_int1 (by rfl) B.m_int (by decide +kernel) (pa_cons (pv 2) pa_nil)) (pv 1)))))), ?_⟩
    refine ⟨_, rfl, _, rfl, _, _, rfl, rfl, .inl ⟨by decide, by decide⟩, _, _, rfl, rfl, p, c, _, rfl, PL, by omega, log_small (by omega) (by omega), fun r H1 r0 r1 P1 f1 => ?_⟩
    refine ⟨_, rfl, _, rfl, _, _, rfl, rfl, .inl ⟨by decide, by decide⟩, _, _, rfl, rfl, _, rfl, ?_⟩
    refine ite_dec (fun h => ?_) (fun h => ?_)
    · exact k none H1 trivial P1 f1
    · have h' : ¬ 4 * (n : Int) ≤ r := of_decide_eq_false h
      have hpos : (0 : Int) < (n : Int) := by omega
      refine ⟨_, rfl, .inl ⟨_, rfl, _, rfl, _, _, rfl, rfl, hpos, ?_⟩⟩
      have a1 := Int.emod_nonneg r (show (n : Int) ≠ 0 by omega)
      have a2 := Int.emod_lt_of_pos r hpos
      have q := k (some (r % (n : Int)).toNat) H1 (by show (r % (n : Int)).toNat < n; omega) P1 f1
      rwa [hv_some a1] at q
set_option maxHeartbeats 4000000 in
theorem ok_names {f fD : Addr} {fd fdD : FuncData} (F : Fun K "_law_names" "_law_names" S_law_names f fd) (B : Bl mg) (d_law_draw : Df K mg "_law_draw" S_law_draw fD fdD P_law_draw) (G_law_draw : FnOk P w K mg base CX0 1 fD fdD P_law_draw spDraw) : FnOk P w K mg base CX0 2 f fd P_law_names spNames := by
  refine F.ok sc_law_names (fun vs H Q E h => ?_) (fun cdv A outer s H vs Q E hr h => ?_)
  · obtain ⟨p, c, a, ws, n, rfl, _⟩ := h
    rfl
  · obtain ⟨p, c, a, ws, n, rfl, PL, S, hS, nd, hws, hn, k⟩ := h
    have hr_law_draw : Room 1 _ := hr.mono (Nat.le_refl 1)
    have hu := hu_of hr
    refine ⟨_, (pss_cons (ps_set (i := 3) sc_law_names.nd rfl (by first | exact Or.inl rfl | exact Or.inr rfl) pe_dnewK)
 (pss_cons (ps_for PassesOwn.never rfl (pi_list (pv 1)) (pg_name (i := 4) sc_law_names.nd rfl (by first | exact Or.inl rfl | exact Or.inr rfl)) (pss_cons (ps_set (i := 5) sc_law_names.nd rfl (by first | exact Or.inl rfl | exact Or.inr rfl) (pe_call G_law_draw hr_law_draw rfl d_law_draw.g d_law_draw.F.kp d_law_draw.b .nil pass0 (pa_cons (pv 0) (pa_cons (pe_op op_add (pe_op op_mul pe_int (pv 2)) pe_int) pa_nil))))
 (pss_cons (ps_dput hu (pv 3) (pv 4) pe_non rfl)
 (pss_one (ps_if (pt_cmpR op_lt (pv 5) (pe_op op_mul pe_int (pv 2)) (nomark _)) (pss_one (ps_dput hu (pv 3) (pv 4) (pe_op op_mod (pe_callTy call_int1 (by rfl) B.m_int (by decide +kernel) (pa_cons (pv 5) pa_nil)) (pv 2)) rfl)) pss_nil)))))
 (pss_one (ps_ret (pv 3))))), ?_⟩
    intro q hq
    obtain ⟨qp, qc⟩ := PL.np hq
    have aq : a ≠ q := ne_of_none hS hq
    refine ⟨_, rfl, a, rfl, ⟨_, SqL.of ((upd_ne aq).trans hS)⟩, for_list (xs := ws.map V.str) (fun i σ H2 => ∃ (l : Ob) (z1 z2 : Option V), σ = [some (.ref p), some (.ref a), some (.int (n : Int)), some (.ref q), z1, z2] ∧ H2 q = some (.dK (dk l)) ∧ l.map (·.1) = ws.take i ∧ okl n l ∧ Pool p c H2 ∧ Fr p c H H2) ?_ ?_ ?_ ?_⟩
    · exact ⟨[], _, _, rfl, upd_same, rfl, fun p hp => (nomatch hp), PL.frN hq, (Fr.refl p c H).updN hq⟩
    · rintro i σ H2 hi ⟨l, z1, z2, rfl, h2, hl, hok, P2, f2⟩
      exact SqL.of (f2 _ _ S.1 S.2 hS)
    · rintro i x σ H2 hx ⟨l, z1, z2, rfl, h2, hl, hok, P2, f2⟩
      obtain ⟨z, hz, rfl⟩ : ∃ z, ws[i]? = some z ∧ x = V.str z := by
        rw [List.getElem?_map] at hx
        cases e : ws[i]? with
        | none => rw [e] at hx; cases hx
        | some z => rw [e] at hx; exact ⟨z, rfl, (Option.some.inj hx).symm⟩
      have fresh : z ∉ l.map (·.1) := by
        rw [hl]
        exact nodup_fresh nd hz
      have take1 : ws.take (i + 1) = ws.take i ++ [z] := by rw [List.take_add_one, hz]; rfl
      refine ⟨_, rfl, _, rfl, _, _, rfl, rfl, .inl ⟨by decide, by decide⟩, _, _, rfl, rfl, p, c, _, rfl, P2, by omega, log_small (by omega) (by omega), fun r H3 r0 r1 P3 f3 => ?_⟩
      have h3 := f3 _ _ qp qc h2
      have hlen : (dk l).length < sizeLine := by
        rw [dk_len, ← List.length_map (f := (·.1)), hl, List.length_take]
        exact small1000 (by omega)
      refine ⟨_, rfl, _, rfl, _, _, rfl, DPut.k (k := (Sum.inr z : Key)) (v := V.non) h3 hlen, ?_⟩
      have e1 : putK (dk l) (Sum.inr z : Key) V.non = dk (l ++ [(z, none)]) := dk_put (v := none) fresh
      have hP4 : ∀ o, Pool p c (upd H3 q o) := fun o => by
        obtain ⟨xs, a2, m2, g1, g2, g3⟩ := P3.ex
        exact ⟨P3.ne, xs, a2, m2, by rw [upd_ne qp.symm]; exact g1, by rw [upd_ne qc.symm]; exact g2, g3⟩
      have hF4 : ∀ o, Fr p c H (upd H3 q o) := fun o => (f2.trans f3).updN hq
      refine ⟨_, rfl, _, rfl, _, _, rfl, rfl, .inl ⟨by decide, by decide⟩, _, _, rfl, rfl, _, rfl, ?_⟩
      refine ite_dec (fun hb => ?_) (fun hb => ?_)
      · have hb' : r < 3 * (n : Int) := of_decide_eq_true hb
        have hpos : (0 : Int) < (n : Int) := by omega
        have a1 := Int.emod_nonneg r (show (n : Int) ≠ 0 by omega)
        have a2 := Int.emod_lt_of_pos r hpos
        refine ⟨_, rfl, .inl ⟨_, rfl, _, rfl, _, _, rfl, rfl, hpos, _, rfl, _, rfl, _, _, rfl, DPut.k (k := (Sum.inr z : Key)) upd_same (by rw [e1, dk_len, List.length_append, ← List.length_map (f := (·.1)), hl, List.length_take]; exact small1000 (by simp only [List.length_singleton]; omega)), ?_⟩⟩
        refine ⟨l ++ [(z, some (r % (n : Int)).toNat)], _, _, rfl, ?_, ?_, ?_, ?_, ?_⟩
        · have e2 := dk_again (u := none) (v := some (r % (n : Int)).toNat) fresh
          rw [hv_some a1] at e2
          rw [upd_same, e1]
          exact congrArg (fun x => some (HO.dK x)) e2
        · rw [List.map_append, hl, take1]; rfl
        · intro y hy
          rcases List.mem_append.mp hy with hy | hy
          · exact hok y hy
          · rw [List.mem_singleton.mp hy]
            show (r % (n : Int)).toNat < n
            omega
        · rw [upd_upd]; exact hP4 _
        · rw [upd_upd]; exact hF4 _
      · refine ⟨l ++ [(z, none)], _, _, rfl, by rw [upd_same, e1], by rw [List.map_append, hl, take1]; rfl, ?_, hP4 _, hF4 _⟩
        intro y hy
        rcases List.mem_append.mp hy with hy | hy
        · exact hok y hy
        · rw [List.mem_singleton.mp hy]; trivial
    · rintro σ H2 ⟨l, z1, z2, rfl, h2, hl, hok, P2, f2⟩
      rw [List.length_map, List.take_length] at hl
      exact ⟨_, rfl, k q l H2 hq h2 hl hok P2 f2⟩

set_option maxHeartbeats 4000000 in
theorem ok_objects {f fV : Addr} {fd fdV : FuncData} (F : Fun K "_law_objects" "_law_objects" S_law_objects f fd) (B : Bl mg) (d_law_value : Df K mg "_law_value" S_law_value fV fdV P_law_value) (G_law_value : FnOk P w K mg base CX0 2 fV fdV P_law_value spValue) : FnOk P w K mg base CX0 3 f fd P_law_objects spObjects := by
  refine F.ok sc_law_objects (fun vs H Q E h => ?_) (fun cdv A outer s H vs Q E hr h => ?_)
  · obtain ⟨p, c, a, fs, n, rfl, _⟩ := h
    rfl
  · obtain ⟨p, c, a, fs, n, rfl, PL, S, hS, nd, hfs, hn, k⟩ := h
    have hr_law_value : Room 2 _ := hr.mono (Nat.le_refl 2)
    have hu := hu_of hr
    refine ⟨_, (pss_cons (ps_set (i := 3) sc_law_objects.nd rfl (by first | exact Or.inl rfl | exact Or.inr rfl) (pe_lst pa_nil))
 (pss_cons (ps_for PassesOwn.never rfl (pi_range1 (by rfl) B.m_range (pa_cons (pv 2) pa_nil)) (pg_name (i := 4) sc_law_objects.nd rfl (by first | exact Or.inl rfl | exact Or.inr rfl)) (pss_cons (ps_set (i := 5) sc_law_objects.nd rfl (by first | exact Or.inl rfl | exact Or.inr rfl) pe_dnewK)
 (pss_cons (ps_for PassesOwn.never rfl (pi_list (pv 1)) (pg_name (i := 6) sc_law_objects.nd rfl (by first | exact Or.inl rfl | exact Or.inr rfl)) (pss_one (ps_dput hu (pv 5) (pv 6) (pe_call G_law_value hr_law_value rfl d_law_value.g d_law_value.F.kp d_law_value.b .nil pass0 (pa_cons (pv 0) (pa_cons (pv 2) pa_nil))) rfl)))
 (pss_one (ps_expr (pe_bm PySem.F.plainAttrs_list PySem.F.slot_list_append PySem.F.type_list_append mt_append (pv 3) (pa_cons (pv 5) pa_nil)))))))
 (pss_one (ps_ret (pv 3))))), ?_⟩
    refine ⟨Nat.zero_le _, fun q hq => ?_⟩
    have hqo := PL.np hq
    have aq : a ≠ q := ne_of_none hS hq
    refine ⟨_, rfl, _, rfl, by omega, by omega, ?_⟩
    refine for_range (lo := 0) (n := (n : Int).toNat) (fun i σ H2 => ∃ (ds : List Addr) (os : List Ob) (z1 z2 z3 : Option V), σ = [some (.ref p), some (.ref a), some (.int (n : Int)), some (.ref q), z1, z2, z3] ∧ os.length = i ∧ (∀ d ∈ ds, H d = none ∧ d ≠ q) ∧ ObjsAt H2 q ds fs n os ∧ Pool p c H2 ∧ Fr p c H H2) ?_ ?_ ?_
    · exact ⟨[], [], _, _, _, rfl, rfl, fun d hd => (nomatch hd), ⟨upd_same, rfl, List.nodup_nil, fun i d o h => by simp at h, fun o ho => (nomatch ho), fun o ho => (nomatch ho)⟩, PL.upd2 hqo _, (Fr.refl p c H).updN hq⟩
    · rintro i σ H2 hi ⟨ds, os, z1, z2, z3, rfl, hlen, hds, O, P2, f2⟩
      intro d hd2
      have hd0 : H d = none := by
        cases e : H d with
        | none => rfl
        | some o =>
          by_cases h1 : d = p
          · obtain ⟨xs, a2, m2, g1, g2, g3⟩ := P2.ex
            rw [h1, g1] at hd2; cases hd2
          · by_cases h2 : d = c
            · obtain ⟨xs, a2, m2, g1, g2, g3⟩ := P2.ex
              rw [h2, g2] at hd2; cases hd2
            · rw [f2 _ _ h1 h2 e] at hd2; cases hd2
      have hdo := P2.np hd2
      have dq : d ≠ q := fun e => by rw [e, O.ls] at hd2; cases hd2
      have dds : d ∉ ds := fun hm => by
        obtain ⟨j, hj, e⟩ := List.getElem_of_mem hm
        have hj2 : j < os.length := by rw [← O.len]; exact hj
        have := O.at' j d os[j] (by rw [List.getElem?_eq_getElem hj, e]) (List.getElem?_eq_getElem hj2)
        rw [hd2] at this; cases this
      have hoff : Off p c ds := fun x hx => PL.np (hds x hx).1
      have ad : a ≠ d := ne_of_none hS hd0
      -- the fields of one object
      refine ⟨_, rfl, a, rfl, ⟨_, SqL.of ((upd_ne ad).trans (f2 _ _ S.1 S.2 hS))⟩, for_list (xs := fs.map V.str) (fun j σ H3 => ∃ (l : Ob) (z3 : Option V), σ = [some (.ref p), some (.ref a), some (.int (n : Int)), some (.ref q), some (.int (0 + (i : Int))), some (.ref d), z3] ∧ H3 d = some (.dK (dk l)) ∧ l.map (·.1) = fs.take j ∧ okl n l ∧ ObjsAt H3 q ds fs n os ∧ Pool p c H3 ∧ Fr p c H H3) ?_ ?_ ?_ ?_⟩
      · refine ⟨[], _, rfl, upd_same, rfl, fun p hp => (nomatch hp), ?_, P2.upd2 hdo _, f2.updN hd0⟩
        exact O.same fun b o e => by rw [upd_ne (ne_of_none e hd2)]; exact e
      · rintro j σ H3 hj ⟨l, z3, rfl, h3, hl, hok, O3, P3, f3⟩
        exact SqL.of (f3 _ _ S.1 S.2 hS)
      · rintro j x σ H3 hx ⟨l, z3, rfl, h3, hl, hok, O3, P3, f3⟩
        obtain ⟨z, hz, rfl⟩ := get_str hx
        have fresh : z ∉ l.map (·.1) := by rw [hl]; exact nodup_fresh nd hz
        refine ⟨_, rfl, _, rfl, p, c, n, rfl, P3, hn, fun v H4 hv4 P4 f4 => ?_⟩
        have h4 := f4 _ _ hdo.1 hdo.2 h3
        have hll : l.length < sizeLine := by
          rw [← List.length_map (f := (·.1)), hl, List.length_take]
          exact small1000 (by omega)
        refine ⟨_, rfl, _, rfl, _, _, rfl, DPut.k (k := (Sum.inr z : Key)) h4 (by rw [dk_len]; exact hll), ?_⟩
        rw [dk_put fresh]
        refine ⟨l ++ [(z, v)], _, rfl, upd_same, by rw [List.map_append, hl, take_next hz]; rfl, ?_, ?_, P4.upd2 hdo _, (f3.trans f4).updN hd0⟩
        · intro y hy
          rcases List.mem_append.mp hy with hy | hy
          · exact hok y hy
          · rw [List.mem_singleton.mp hy]; exact hv4
        · have O4 := O3.fr hqo hoff f4
          exact ⟨by rw [upd_ne dq.symm]; exact O4.ls, O4.len, O4.nd, fun i' d' o' g1 g2 => by
            rw [upd_ne (fun e => dds (by rw [← e]; exact List.mem_of_getElem? g1))]; exact O4.at' i' d' o' g1 g2, O4.ks, O4.ok⟩
      · rintro σ H3 ⟨l, z3, rfl, h3, hl, hok, O3, P3, f3⟩
        rw [List.length_map, List.take_length] at hl
        refine ⟨_, rfl, .inl ⟨rfl, _, SqL.of O3.ls⟩, _, rfl, q, _, _, rfl, rfl, O3.ls, by rw [List.length_map, O3.len, hlen]; exact small1000 (by omega), ?_⟩
        refine ⟨ds ++ [d], os ++ [l], _, _, _, rfl, by rw [List.length_append, hlen]; rfl, ?_, ?_, P3.upd2 hqo _, f3.updN hq⟩
        · intro x hx
          rcases List.mem_append.mp hx with hx | hx
          · exact hds x hx
          · rw [List.mem_singleton.mp hx]; exact ⟨hd0, dq⟩
        · refine ⟨by rw [upd_same, List.map_append]; rfl, by rw [List.length_append, List.length_append, O3.len]; rfl, ?_, ?_, ?_, ?_⟩
          · refine List.nodup_append.mpr ⟨O3.nd, by simp, fun x hx y hy => ?_⟩
            rw [List.mem_singleton.mp hy]
            exact fun e => dds (e ▸ hx)
          · intro j d' o' g1 g2
            rcases Nat.lt_or_ge j ds.length with hj | hj
            · rw [List.getElem?_append_left hj] at g1
              rw [List.getElem?_append_left (by rw [← O3.len]; exact hj)] at g2
              have nq : d' ≠ q := (hds d' (List.mem_of_getElem? g1)).2
              rw [upd_ne nq]
              exact O3.at' j d' o' g1 g2
            · rw [List.getElem?_append_right hj] at g1
              rw [List.getElem?_append_right (by rw [← O3.len]; exact hj), ← O3.len] at g2
              have hz : j - ds.length = 0 := by
                have := (List.getElem?_eq_some_iff.mp g1).1
                simp only [List.length_singleton] at this
                omega
              rw [hz] at g1 g2
              have e1 : d = d' := Option.some.inj g1
              have e2 : l = o' := Option.some.inj g2
              subst e1 e2
              rw [upd_ne dq]; exact h3
          · intro o ho
            rcases List.mem_append.mp ho with ho | ho
            · exact O3.ks o ho
            · rw [List.mem_singleton.mp ho, hl]
          · intro o ho
            rcases List.mem_append.mp ho with ho | ho
            · exact O3.ok o ho
            · rw [List.mem_singleton.mp ho]; exact hok
    · rintro σ H2 ⟨ds, os, z1, z2, z3, rfl, hlen, hds, O, P2, f2⟩
      exact ⟨_, rfl, k q ds os H2 hq hds (by rw [hlen]; omega) O P2 f2⟩
end
end TW
set_option Elab.async false
set_option linter.all false
set_option maxRecDepth 100000
namespace TW
open PySem PySem.Spec PyProof.Rows L2 TL
/-- a list or tuple of things of the seven kinds -/
structure SeqK (K : PySem.W.Frag) (H : Hp) (a : Addr) (xs : List V) : Prop where
  at' : SqL K H a xs ∨ SqT K H a xs
  z : xs.length ≤ 1000000
  ks : ∀ y ∈ xs, ∃ T, Kd K H y T
theorem sqt_same {K : PySem.W.Frag} {H H' : Hp} {a : Addr} {xs : List V} (e : Same H H') (h : SqT K H a xs) : SqT K H' a xs := by
  rcases h with (h | ⟨o, h⟩) | h
  · exact .inl (.inl (e _ _ h))
  · exact .inl (.inr ⟨o, e _ _ h⟩)
  · exact .inr h
theorem seq_same {K : PySem.W.Frag} {H H' : Hp} {a : Addr} {xs : List V} (e : Same H H') (h : SqL K H a xs ∨ SqT K H a xs) : SqL K H' a xs ∨ SqT K H' a xs := h.elim (fun h => .inl (e.seq h)) fun h => .inr (sqt_same e h)
theorem SeqK.same {K : PySem.W.Frag} {H H' : Hp} {a : Addr} {xs : List V} (e : Same H H') (S : SeqK K H a xs) : SeqK K H' a xs := ⟨seq_same e S.at', S.z, fun y hy => let ⟨T, h⟩ := S.ks y hy; ⟨T, h.same e⟩⟩
theorem same_new {H : Hp} {p : Addr} {o : HO} (h : H p = none) : Same H (upd H p o) := fun b x e => by
  rw [upd_ne (ne_of_none e h)]; exact e
/-- unlike words, so many -/
def AreW (xs : List V) (lo hi : Int) : Prop := ∃ ws : List Str, xs = ws.map V.str ∧ (∀ z ∈ ws, IsW z) ∧ ws.Nodup ∧ lo ≤ (ws.length : Int) ∧ (ws.length : Int) ≤ hi
theorem isWb_str {x : V} (h : isWb x = true) : ∃ z, x = .str z ∧ IsW z := by
  cases x <;> try (cases h; done)
  exact ⟨_, rfl, of_decide_eq_true h⟩
theorem all_strs : ∀ {xs : List V}, xs.all isWb = true → ∃ ws : List Str, xs = ws.map V.str ∧ ∀ z ∈ ws, IsW z
  | [], _ => ⟨[], rfl, fun z h => (nomatch h)⟩
  | x :: xs, h => by
    rw [List.all_cons, Bool.and_eq_true] at h
    obtain ⟨z, rfl, hz⟩ := isWb_str h.1
    obtain ⟨ws, rfl, hw⟩ := all_strs h.2
    exact ⟨z :: ws, rfl, fun y hy => by
      rcases List.mem_cons.mp hy with rfl | hy
      · exact hz
      · exact hw y hy⟩
theorem all_of_strs {ws : List Str} (h : ∀ z ∈ ws, IsW z) : (ws.map V.str).all isWb = true := List.all_eq_true.mpr fun x hx => by
  obtain ⟨z, hz, rfl⟩ := List.mem_map.mp hx
  exact decide_eq_true (h z hz)
theorem str_inj {l m : List Str} (h : l.map V.str = m.map V.str) : l = m := by
  induction l generalizing m with
  | nil => cases m with
    | nil => rfl
    | cons y m => cases h
  | cons x l ih => cases m with
    | nil => cases h
    | cons y m =>
      injection h with h1 h2
      injection h1 with h1
      rw [h1, ih h2]
def spAreW (K : PySem.W.Frag) : Sp := fun vs H Q _ => ∃ x T lo hi, vs = [x, .int lo, .int hi] ∧ Kd K H x T ∧ hi ≤ 1000 ∧
  ((T ≠ "list" ∧ T ≠ "tuple" ∧ ∀ H', Same H H' → Q (.bl false) H') ∨
    ((T = "list" ∨ T = "tuple") ∧ ∃ a xs, x = .ref a ∧ SeqK K H a xs ∧ ∀ b H', Same H H' → (b = true ↔ AreW xs lo hi) → Q (.bl b) H'))
def spAreF (K : PySem.W.Frag) : Sp := fun vs H Q _ => ∃ x T, vs = [x] ∧ Kd K H x T ∧
  ((T ≠ "list" ∧ T ≠ "tuple" ∧ ∀ H', Same H H' → Q (.bl false) H') ∨
    ((T = "list" ∨ T = "tuple") ∧ ∃ a xs, x = .ref a ∧ SeqK K H a xs ∧ ∀ b H', Same H H' → (b = true ↔ AreW xs 1 2) → Q (.bl b) H'))
abbrev S_are_words : Stmt := topS 14
abbrev N_are_words : List Str := ["value", "least", "most", "word"]
abbrev P_are_words : List Str := ["value", "least", "most"]
theorem sc_are_words : FnScope N_are_words P_are_words (defScope S_are_words) := ⟨rfl, rfl, rfl, by decide +kernel, rfl, by decide +kernel, by decide +kernel⟩
abbrev S_are_fields : Stmt := topS 15
abbrev N_are_fields : List Str := ["value"]
abbrev P_are_fields : List Str := ["value"]
theorem sc_are_fields : FnScope N_are_fields P_are_fields (defScope S_are_fields) := ⟨rfl, rfl, rfl, by decide +kernel, rfl, by decide +kernel, by decide +kernel⟩
abbrev S_is_one_of : Stmt := topS 13
abbrev N_is_one_of : List Str := ["value", "words"]
abbrev P_is_one_of : List Str := ["value", "words"]
theorem sc_is_one_of : FnScope N_is_one_of P_is_one_of (defScope S_is_one_of) := ⟨rfl, rfl, rfl, by decide +kernel, rfl, by decide +kernel, by decide +kernel⟩
/-- what is walked: a name's list or tuple -/
def iSeqv (K : PySem.W.Frag) (i : Nat) : TI := fun σ H R => ∃ a, σ[i]? = some (some (.ref a)) ∧ (((∃ xs, SqL K H a xs) ∧ R (Itl K a) H) ∨ ((∃ xs, SqT K H a xs) ∧ R (Itt K a) H))
theorem pi_seqv {X : Cx} {tg : Expr} (i : Nat) {x : Str} {pos : Pos} (hN : X.N[i]? = some x := by rfl) (hv : Vis X.env.scope x := by first | exact Or.inl rfl | exact Or.inr (Or.inl rfl) | exact Or.inr (Or.inr rfl)) (hd : (x == ("__debug__" : Str)) = false := by decide)
    (hcd : (x == ("__classdict__" : Str)) = false := by decide) : PI X tg (.Name x pos) (iSeqv X.K i) := by
  refine ⟨fun pins s σ H R I h => ?_⟩
  obtain ⟨a, e, h | h⟩ := h
  · exact (pi_list (tg := tg) (pe_var hN hv hd hcd)).run pins s σ H R I ⟨_, e, a, rfl, h⟩
  · exact (pi_tup (tg := tg) (pe_var hN hv hd hcd)).run pins s σ H R I ⟨_, e, a, rfl, h⟩
theorem seq_go {K : PySem.W.Frag} {H : Hp} {a : Addr} {xs : List V} {A C : Prop} (h : SqL K H a xs ∨ SqT K H a xs) (l : SqL K H a xs → A) (t : SqT K H a xs → C) :
    ((∃ xs, SqL K H a xs) ∧ A) ∨ ((∃ xs, SqT K H a xs) ∧ C) := h.elim (fun h => .inl ⟨⟨_, h⟩, l h⟩) fun h => .inr ⟨⟨_, h⟩, t h⟩
theorem lookup_none' {k : Str} : ∀ {l : List (Str × Option Nat)}, l.lookup k = none → k ∉ l.map (·.1)
  | [], _ => by simp
  | (f, v) :: l, h => by
    rw [List.lookup_cons] at h
    cases e : k == f with
    | true => rw [e] at h; cases h
    | false =>
      rw [e] at h
      have := lookup_none' h
      intro hm
      rcases List.mem_cons.mp hm with hm | hm
      · subst hm; simp at e
      · exact this hm
theorem kd_list {K : PySem.W.Frag} {H : Hp} {a : Addr} {T : String} (h : T = "list" ∨ T = "tuple") : (T == "list" || T == "tuple") = true := by
  rcases h with h | h <;> subst h <;> rfl
/-- a comprehension over a list or tuple -/
theorem for_either {K : PySem.W.Frag} {H : Hp} {a : Addr} {xs : List V} {α : Prop} (h : SqL K H a xs ∨ SqT K H a xs) (l : SqL K H a xs → α) (t : SqT K H a xs → α) : α := h.elim l t
section
variable {P : Program} {w : World} {K : PySem.W.Frag} {mg : Str → Option Value} {base : Heap}
set_option maxHeartbeats 8000000 in
theorem ok_are_words {f fW : Addr} {fd fdW : FuncData} (F : Fun K "are_words" "are_words" S_are_words f fd) (B : Bl mg) (d_is_word : Df K mg "is_word" S_is_word fW fdW P_is_word) (G_is_word : FnOk P w K mg base CX0 1 fW fdW P_is_word (spIsW K)) : FnOk P w K mg base CX0 2 f fd P_are_words (spAreW K) := by
  refine F.ok sc_are_words (fun vs H Q E h => ?_) (fun cdv A outer s H vs Q E hr h => ?_)
  · obtain ⟨x, T, lo, hi, rfl, _⟩ := h
    rfl
  · obtain ⟨x, T, lo, hi, rfl, hk, hh, k⟩ := h
    have hr_is_word : Room 1 _ := hr.mono (Nat.le_refl 1)
    rcases k with ⟨n1, n2, k⟩ | ⟨hT, a, xs, rfl, S, k⟩
    · refine ⟨_, (pss_cons (ps_if (PW.pt (pw_or (pt_not (pt_val (pe_callB call_isiT (by rfl) B.m_isinstance (by decide +kernel) (pa_cons (pv 0) (pa_cons (pe_tup (pa_cons (pe_bltn (v := .ty "list") (by rfl) B.m_list (by decide +kernel) rfl) (pa_cons (pe_bltn (v := .ty "tuple") (by rfl) B.m_tuple (by decide +kernel) rfl) pa_nil))) pa_nil))))) (pw_or1 (pt_not (pt_chain op_le op_le (pv 1) (pe_callB call_len_seq (by rfl) B.m_len PySem.boot_len (pa_cons (pv 0) pa_nil)) (pv 2)))))) (pss_one (ps_ret pe_bl)) pss_nil)
 (pss_one (ps_ret (pe_and (pe_callB (cr_all rfl) (by rfl) B.m_all (by decide +kernel) (pa_cons (pe_lc (own := [("word", 3)]) (g := gName 3) (tt := tYes) rfl sc_are_words.nd (pi_seqv 0) (blkOk_by (own := [("word", 3)]) (N := N_are_words) (sc := defScope S_are_words) (by decide +kernel)) (fun _ _ _ _ _ => (pg_name (i := 3) sc_are_words.nd rfl (by first | exact Or.inl rfl | exact Or.inr rfl))) (fun _ _ _ _ _ => pts_nil) (fun _ _ _ _ _ => (pe_call G_is_word hr_is_word rfl d_is_word.g d_is_word.F.kp d_is_word.b .nil pass0 (pa_cons (pv 3) pa_nil)))) pa_nil)) (pe_one (pe_cmpR op_eq (pe_lenSetN rfl (by rfl) B.m_len (by rfl) B.m_set (pv 0)) (pe_callB call_len_seq (by rfl) B.m_len PySem.boot_len (pa_cons (pv 0) pa_nil)) (nomark _))))))), ?_⟩
      refine ⟨_, rfl, (by show 2 ≤ sizeLine; decide), fun t ht => ⟨_, t, _, _, [.type "list", .type "tuple"], _, rfl, upd_same, .cons (.ty "list") (.cons (.ty "tuple") .nil), (hk.same (same_new ht)).t, kit7_seq hk.m, _, rfl, ?_⟩⟩
      have e : (T == "list" || T == "tuple") = false := by simp [n1, n2]
      rw [e]
      exact k _ (same_new ht)
    · refine ⟨_, (pss_cons (ps_if (PW.pt (pw_or (pt_not (pt_val (pe_callB call_isiT (by rfl) B.m_isinstance (by decide +kernel) (pa_cons (pv 0) (pa_cons (pe_tup (pa_cons (pe_bltn (v := .ty "list") (by rfl) B.m_list (by decide +kernel) rfl) (pa_cons (pe_bltn (v := .ty "tuple") (by rfl) B.m_tuple (by decide +kernel) rfl) pa_nil))) pa_nil))))) (pw_or1 (pt_not (pt_chain op_le op_le (pv 1) (pe_callB call_len_seq (by rfl) B.m_len PySem.boot_len (pa_cons (pv 0) pa_nil)) (pv 2)))))) (pss_one (ps_ret pe_bl)) pss_nil)
 (pss_one (ps_ret (pe_and (pe_callB (cr_all rfl) (by rfl) B.m_all (by decide +kernel) (pa_cons (pe_lc (own := [("word", 3)]) (g := gName 3) (tt := tYes) rfl sc_are_words.nd (pi_seqv 0) (blkOk_by (own := [("word", 3)]) (N := N_are_words) (sc := defScope S_are_words) (by decide +kernel)) (fun _ _ _ _ _ => (pg_name (i := 3) sc_are_words.nd rfl (by first | exact Or.inl rfl | exact Or.inr rfl))) (fun _ _ _ _ _ => pts_nil) (fun _ _ _ _ _ => (pe_call G_is_word hr_is_word rfl d_is_word.g d_is_word.F.kp d_is_word.b .nil pass0 (pa_cons (pv 3) pa_nil)))) pa_nil)) (pe_one (pe_cmpR op_eq (pe_lenSetN rfl (by rfl) B.m_len (by rfl) B.m_set (pv 0)) (pe_callB call_len_seq (by rfl) B.m_len PySem.boot_len (pa_cons (pv 0) pa_nil)) (nomark _))))))), ?_⟩
      refine ⟨_, rfl, (by show 2 ≤ sizeLine; decide), fun t ht => ⟨_, t, _, _, [.type "list", .type "tuple"], _, rfl, upd_same, .cons (.ty "list") (.cons (.ty "tuple") .nil), (hk.same (same_new ht)).t, kit7_seq hk.m, _, rfl, ?_⟩⟩
      have s1 := same_new (H := H) (o := HO.tup [V.ty "list", V.ty "tuple"]) ht
      have S1 := S.same s1
      have e : (T == "list" || T == "tuple") = true := kd_list (K := K) (H := H) (a := a) hT
      rw [e]
      refine iteF ?_
      refine ⟨_, rfl, _, rfl, a, xs, rfl, S1.at', _, _, rfl, rfl, _, rfl, ?_⟩
      have no : ∀ H', Same H H' → (¬ lo ≤ (xs.length : Int) ∨ ¬ (xs.length : Int) ≤ hi) → Q (.bl false) H' := fun H' s' n => k false H' s' ⟨fun z => (nomatch z), fun ⟨ws, e, _, _, h1, h2⟩ => by
        rw [e, List.length_map] at n
        rcases n with n | n
        · exact absurd h1 n
        · exact absurd h2 n⟩
      refine ite_dec (fun h1 => ?_) (fun h1 => ?_)
      · have h1' : lo ≤ (xs.length : Int) := of_decide_eq_true h1
        refine ⟨_, rfl, _, _, rfl, rfl, _, rfl, ?_⟩
        refine ite_dec (fun h2 => ?_) (fun h2 => ?_)
        · have h2' : ¬ (xs.length : Int) ≤ hi := by simpa using h2
          exact no _ s1 (.inr h2')
        · have h2' : (xs.length : Int) ≤ hi := by simpa using h2
          -- all([is_word(word) for word in value])
          refine ⟨a, rfl, seq_go S1.at' (fun hS => ?_) (fun hS => ?_)⟩
          all_goals
            intro D hD
            first
              | refine lc_list (xs := xs) (fun i H2 => Same (upd H t (.tup [V.ty "list", V.ty "tuple"])) H2 ∧ H2 D = some (.lst (((xs.take i).map isWb).map V.bl))) ?_ ?_ ?_ ?_
              | refine lc_tup (xs := xs) (fun i H2 => Same (upd H t (.tup [V.ty "list", V.ty "tuple"])) H2 ∧ H2 D = some (.lst (((xs.take i).map isWb).map V.bl))) ?_ ?_ ?_ ?_
            · exact ⟨same_new hD, upd_same⟩
            · rintro i H2 hi2 ⟨s2, h2D⟩
              first
                | exact s2.seq hS
                | exact sqt_same s2 hS
            · rintro i x H2 hx ⟨s2, h2D⟩
              refine ⟨rfl, yes_of ?_⟩
              obtain ⟨T2, hk2⟩ := S.ks x (List.mem_of_getElem? hx)
              refine ⟨_, rfl, x, T2, rfl, hk2.same (s1.trans s2), fun H3 s3 => ?_⟩
              refine ⟨_, s3 _ _ h2D, by rw [List.length_map, List.length_map, List.length_take]; exact Nat.lt_of_le_of_lt (Nat.le_trans (Nat.min_le_right _ _) S.z) (by decide), ?_⟩
              refine ⟨fun b o e => by rw [upd_ne (ne_of_none e hD)]; exact s3 _ _ (s2 _ _ e), ?_⟩
              rw [upd_same, take_next' hx, List.map_append, List.map_append]
              rfl
            · rintro H2 ⟨s2, h2D⟩
              rw [List.take_length] at h2D
              refine ⟨D, _, rfl, SqL.of h2D, _, rfl, ?_⟩
              refine ite_dec (fun hb => ?_) (fun hb => ?_)
              · rw [List.all_map] at hb
                obtain ⟨ws, rfl, hw⟩ := all_strs (xs := xs) hb
                have S2 := S1.same s2
                refine ⟨_, rfl, a, ws, rfl, S2.at', ?_, _, rfl, a, _, rfl, S2.at', rfl, ?_⟩
                · rw [List.length_map] at h2'; omega
                · refine k _ H2 (s1.trans s2) ?_
                  have e2 : (V.int (cnt ws : Nat) = V.int ((ws.map V.str).length : Nat)) ↔ ws.Nodup := by
                    rw [List.length_map, ← cnt_eq ws]
                    exact ⟨fun z => by injection z with z; omega, fun z => by rw [z]⟩
                  rw [List.length_map] at h1' h2'
                  rw [decide_eq_true_iff]
                  refine e2.trans ⟨fun nd => ⟨ws, rfl, hw, nd, h1', h2'⟩, fun ⟨ws2, e, _, nd, _⟩ => by rw [str_inj e]; exact nd⟩
              · refine k _ H2 (s1.trans s2) ⟨fun z => (nomatch z), fun ⟨ws, e, hw, _⟩ => ?_⟩
                rw [List.all_map] at hb
                have : xs.all isWb = true := by rw [e]; exact all_of_strs hw
                rw [show (xs.all (id ∘ isWb)) = xs.all isWb from rfl, this] at hb
                cases hb
      · have h1' : ¬ lo ≤ (xs.length : Int) := of_decide_eq_false h1
        refine ⟨_, rfl, ?_⟩
        refine iteT ?_
        exact no _ s1 (.inl h1')

set_option maxHeartbeats 4000000 in
theorem ok_are_fields {f fW : Addr} {fd fdW : FuncData} {t : Tok} (F : Fun K "are_fields" "are_fields" S_are_fields f fd) (m_MOST_FIELDS : mg "MOST_FIELDS" = some (.int 2 t)) (d_are_words : Df K mg "are_words" S_are_words fW fdW P_are_words) (G_are_words : FnOk P w K mg base CX0 2 fW fdW P_are_words (spAreW K)) : FnOk P w K mg base CX0 3 f fd P_are_fields (spAreF K) := by
  refine F.ok sc_are_fields (fun vs H Q E h => ?_) (fun cdv A outer s H vs Q E hr h => ?_)
  · obtain ⟨x, T, rfl, _⟩ := h
    rfl
  · obtain ⟨x, T, rfl, hk, k⟩ := h
    have hr_are_words : Room 2 _ := hr.mono (Nat.le_refl 2)
    refine ⟨_, (pss_one (ps_ret (pe_call G_are_words hr_are_words rfl d_are_words.g d_are_words.F.kp d_are_words.b .nil pass0 (pa_cons (pv 0) (pa_cons pe_int (pa_cons (pe_glob (v := .int _) rfl m_MOST_FIELDS ⟨_, rfl⟩) pa_nil)))))), ?_⟩
    exact ⟨_, rfl, x, T, 1, 2, rfl, hk, by decide, k⟩
/-- x one of the words of a dict, or of a list or tuple -/
def oneOf (x : V) (ws : List Str) : Bool := match x with
  | .str z => decide (z ∈ ws)
  | _ => false
def spOneOf (K : PySem.W.Frag) : Sp := fun vs H Q _ => ∃ x T a ws, vs = [x, .ref a] ∧ Kd K H x T ∧ ((∃ l : Ob, H a = some (.dK (dk l)) ∧ l.map (·.1) = ws) ∨ SqL K H a (ws.map V.str) ∨ SqT K H a (ws.map V.str)) ∧ Q (.bl (oneOf x ws)) H
set_option maxHeartbeats 4000000 in
theorem ok_is_one_of {f : Addr} {fd : FuncData} (F : Fun K "is_one_of" "is_one_of" S_is_one_of f fd) (B : Bl mg) : FnOk P w K mg base CX0 1 f fd P_is_one_of (spOneOf K) := by
  refine F.ok sc_is_one_of (fun vs H Q E h => ?_) (fun cdv A outer s H vs Q E hr h => ?_)
  · obtain ⟨x, T, a, ws, rfl, _⟩ := h
    rfl
  · obtain ⟨x, T, a, ws, rfl, hk, S, k⟩ := h
    have hu := hu_of hr
    have nstr : (T == "str") = false → oneOf x ws = false := fun h => by
      cases x <;> try rfl
      have := (ty_str hk.t).mpr ⟨_, rfl⟩
      subst this
      cases h
    rcases S with ⟨l, hd, hl⟩ | S
    · refine ⟨_, (pss_one (ps_ret (pe_and (pe_callB call_isi (by rfl) B.m_isinstance (by decide +kernel) (pa_cons (pv 0) (pa_cons (pe_bltn (v := .ty "str") (by rfl) B.m_str (by decide +kernel) rfl) pa_nil))) (pe_one (pe_cmp (pc_din hu (pv 0) (pv 1)) rfl))))), ?_⟩
      refine ⟨_, rfl, _, _, _, _, _, rfl, .ty "str", hk.t, kit7_str hk.m, _, rfl, ?_⟩
      refine ite_dec (fun hb => ?_) (fun hb => ?_)
      · obtain ⟨z, rfl⟩ := (ty_str hk.t).mp (eq_of_beq hb)
        refine ⟨_, rfl, _, rfl, a, _, rfl, DGet.k (k := (Sum.inr z : Key)) hd, ?_⟩
        have e : (valV (dk l) (Sum.inr z : Key)).isSome = oneOf (.str z) ws := by
          rw [dk_valV]
          show ((l.lookup z).map hv).isSome = decide (z ∈ ws)
          rw [← hl, Option.isSome_map]
          by_cases h : z ∈ l.map (·.1)
          · rw [decide_eq_true h]
            cases e : l.lookup z with
            | some v => rfl
            | none => exact absurd h (lookup_none' e)
          · rw [decide_eq_false h, lookup_none h]; rfl
        rw [e]; exact k
      · rw [nstr hb] at k; exact k
    · refine ⟨_, (pss_one (ps_ret (pe_and (pe_callB call_isi (by rfl) B.m_isinstance (by decide +kernel) (pa_cons (pv 0) (pa_cons (pe_bltn (v := .ty "str") (by rfl) B.m_str (by decide +kernel) rfl) pa_nil))) (pe_one (pe_cmpR op_in_seq (pv 0) (pv 1) (by rfl)))))), ?_⟩
      refine ⟨_, rfl, _, _, _, _, _, rfl, .ty "str", hk.t, kit7_str hk.m, _, rfl, ?_⟩
      refine ite_dec (fun hb => ?_) (fun hb => ?_)
      · obtain ⟨z, rfl⟩ := (ty_str hk.t).mp (eq_of_beq hb)
        refine ⟨_, rfl, _, rfl, a, _, rfl, S, rfl, TW.flat_strs ws, ?_⟩
        have e : inV (.str z) (ws.map V.str) = oneOf (.str z) ws := inV_strs
        rw [← e] at k; exact k
      · rw [nstr hb] at k; exact k
end
end TW
set_option Elab.async false
set_option linter.all false
set_option maxRecDepth 100000
set_option maxHeartbeats 2000000
namespace L2
open PySem PySem.Spec PyProof.Rows
/-- the items of a list by their numbers -/
def enK (xs : List V) : List (Key × V) := xs.zipIdx.map fun p => (Sum.inl (p.2 : Int), p.1)
def enU (us : List Value) : List (Key × Value) := us.zipIdx.map fun p => (Sum.inl (p.2 : Int), p.1)
theorem enK_len (xs : List V) : (enK xs).length = xs.length := by unfold enK; rw [List.length_map, List.length_zipIdx]
theorem enU_len (xs : List Value) : (enU xs).length = xs.length := by unfold enU; rw [List.length_map, List.length_zipIdx]
theorem enU_get {us : List Value} {i : Nat} {v : Value} (h : us[i]? = some v) : (enU us)[i]? = some (Sum.inl (i : Int), v) := by
  unfold enU
  rw [List.getElem?_map, List.getElem?_zipIdx, h]
  simp
theorem en_rel : ∀ {xs : List V} {us : List Value} (k : Nat), Vals xs us → KV (xs.zipIdx k |>.map fun p => ((Sum.inl (p.2 : Int) : Key), p.1)) (us.zipIdx k |>.map fun p => ((Sum.inl (p.2 : Int) : Key), p.1))
  | _, _, _, .nil => .nil
  | _, _, k, .cons r t => .cons ⟨rfl, r⟩ (en_rel (k + 1) t)
theorem en_nodup (us : List Value) : ((enU us).map (·.1)).Nodup := by
  unfold enU
  rw [List.map_map]
  have key : ∀ (us : List Value) (k : Nat), (us.zipIdx k |>.map ((fun p : Key × Value => p.1) ∘ fun p => ((Sum.inl (p.2 : Int) : Key), p.1))).Nodup ∧ ∀ x ∈ (us.zipIdx k |>.map ((fun p : Key × Value => p.1) ∘ fun p => ((Sum.inl (p.2 : Int) : Key), p.1))), ∃ n : Nat, k ≤ n ∧ x = Sum.inl (n : Int) := by
    intro us
    induction us with
    | nil => exact fun k => ⟨List.nodup_nil, fun x hx => nomatch hx⟩
    | cons u us ih =>
      intro k
      obtain ⟨h1, h2⟩ := ih (k + 1)
      refine ⟨List.nodup_cons.mpr ⟨fun m => ?_, h1⟩, fun x hx => ?_⟩
      · obtain ⟨n, hn, e⟩ := h2 _ m
        have e2 : ((k : Nat) : Int) = (n : Int) := Sum.inl.inj e
        omega
      · rcases List.mem_cons.mp hx with rfl | hx
        · exact ⟨k, Nat.le_refl _, rfl⟩
        · obtain ⟨n, hn, e⟩ := h2 _ hx
          exact ⟨n, by omega, e⟩
  exact (key us 0).1
/-- dict(enumerate(xs)) -/
def tDictEn (K : PySem.W.Frag) (ta : TE) : TE := fun σ H Q => ta σ H fun x H1 => ∃ a xs, x = .ref a ∧ SqL K H1 a xs ∧ ∀ p, H1 p = none → Q (.ref p) (upd H1 p (.dK (enK xs)))
theorem pe_dictEn {X : Cx} {a : Expr} {ta : TE} {p p2 q pos : Pos} (hc : X.calm = true) (hg : Gl X "dict") (hm : X.mg "dict" = none) (hg2 : Gl X "enumerate") (hm2 : X.mg "enumerate" = none) (ha : PE X a ta)
    (na : starEach [a] X.env = (false, eval a X.env) :: starEach [] X.env := by rfl) : PE X (.Call (.Name "dict" p) [.Call (.Name "enumerate" p2) [a] [] q] [] pos) (tDictEn X.K ta) := by
  refine ⟨fun pins s σ H Q I h => ?_⟩
  refine Call_ (ld_blt I hg hm boot_dict (PyProof.Rows.callWith_type1 (PyProof.Rows.args_cons (Call_ (ld_blt I hg2 hm2 boot_enumerate ?_)) rfl) rfl rfl))
  refine PyProof.Rows.callWith_type1 (PyProof.Rows.args_cons (thn (ha.run pins s σ H _ I h) fun v s1 h1 => PyProof.Rows.args_nil ?_) na) na rfl
  obtain ⟨x, H1, I1, r1, l, xs, rfl, hq, q1⟩ := h1
  cases r1
  obtain ⟨its, r, pl, hz⟩ := I1.list hq
  have llt : l < s1.heap.objs.size := pl.lt
  refine call_enumerate_list pl.isList fun h' he hit hsz hk => PyProof.Rows.args_nil ?_
  have I2 : Inv X pins σ H1 { s1 with heap := h' } := I1.kept (t' := s1.toks) hk
  have hl2 : h'.IsList l its.toArray := pl.isList.at fun o e => hk _ o e
  have hh : X.A.handled = none := I1.ok.hd hc
  refine PySem.call_dict_pairs (s := { s1 with heap := h' }) (knd := mixKind X.prog X.w) (kvs := enU its) (PairArg.enumerate (s1.heap.objs.size + 1) s1.heap.objs.size l (Nat.succ_ne_self _) (Nat.ne_of_lt (Nat.lt_succ_of_lt llt)) (Nat.ne_of_lt llt) its.toArray) hh ⟨⟨_, he⟩, hit, hl2⟩ ⟨by rw [enU_len, List.size_toArray], ?_⟩ ?_ fun h'' tk hd hk2 => ?_
  · rintro i key v ⟨⟨t, rfl⟩, e⟩
    exact ⟨Sum.inl (i : Int), enU_get (by simpa using e), kV_is (P := X.prog) (w := X.w) (k := Sum.inl (i : Int)) (show RelV (V.int (i : Int)) (Value.int (i : Int) t) from ⟨t, rfl⟩)⟩
  · rw [List.size_toArray, ← r.length]
    exact hz
  · rw [merged_nil_of_nodup _ (en_nodup its)] at hd
    have keep : ∀ b o, s1.heap.get? b = some o → h''.get? b = some o := fun b o e => hk2 b o (by
      intro m
      have z : b < s1.heap.objs.size := Heap.lt_size e
      rcases List.mem_cons.mp m with m | m
      · rw [m] at z
        exact Nat.lt_irrefl _ (Nat.lt_of_succ_lt z)
      · rw [List.mem_singleton.mp m] at z
        exact Nat.lt_irrefl _ z) (hk b o e)
    have lz : (enK xs).length ≤ sizeLine := by rw [enK_len]; exact hz
    have hn : H1 h'.objs.size = none := I2.hok.fresh (Nat.le_refl _)
    refine ⟨.ref h'.objs.size, upd H1 h'.objs.size (.dK (enK xs)), ?_, rfl, q1 _ hn⟩
    refine I1.laid (a := h'.objs.size) (o := .dK (enK xs)) (t' := tk) keep (by omega) (dk_new lz (beq_eq_false_iff_ne.mpr (Ne.symm (Nat.ne_of_lt (Nat.lt_of_lt_of_le I1.big (by omega))))) (en_rel 0 r) hd)
end L2
set_option Elab.async false
set_option linter.all false
set_option maxRecDepth 100000
set_option maxHeartbeats 2000000
/-! defs that are called where no repr is under way: they may call repr -/
namespace L2
open PySem PySem.Spec PyProof.Rows
/-- no repr is under way -/
def Still (A : Around) : Prop := A.guards = some []
theorem Still.down {A : Around} (h : Still A) (e : Env) : Still (A.deeper e) := h
theorem still_top : Still callerA := rfl
/-- what a def promises there -/
structure FnG (P : Program) (w : World) (K : PySem.W.Frag) (mg : Str → Option Value) (base : Heap) (CX : CXT) (k : Nat) (f : Addr) (fd : FuncData) (ps : List Str) (sp : Sp) : Prop where
  ln : ∀ vs H Q E, sp vs H Q E → vs.length = ps.length
  go : ∀ A : Around, Still A → Room k A → ∀ (st : List Env) (s : Shared) (H : Hp), Env0 P w K mg base A st s H → ∀ (ag : Args) (us : List Value) (vs : List V) (Q : VK) (E : XK), BindsTo s fd ag (ps.zip us) → Vals vs us → sp vs H Q E →
    codeAny (model P w) A (.call (.ref f) ag) (CR CX st P w H s Q E) s
theorem FnOk.still {P : Program} {w : World} {K : PySem.W.Frag} {mg : Str → Option Value} {base : Heap} {CX : CXT} {k : Nat} {f : Addr} {fd : FuncData} {ps : List Str} {sp : Sp} (F : FnOk P w K mg base CX k f fd ps sp) : FnG P w K mg base CX k f fd ps sp :=
  ⟨F.len, fun A _ hr st s H e0 ag us vs Q E hb r h => F.run A st s H ag us vs Q E hr e0 hb r h⟩
section
variable {P : Program} {w : World} {K : PySem.W.Frag} {mg : Str → Option Value} {base : Heap}
/-- a def by its body, called where no repr is under way -/
theorem Fun.still {x qual : Str} {st : Stmt} {f : Addr} {fd : FuncData} {N ps : List Str} {k : Nat} {sp : Sp} (F : Fun K x qual st f fd) (S : FnScope N ps (defScope st)) (ln : ∀ vs H Q E, sp vs H Q E → vs.length = ps.length)
    (bd : ∀ (cdv : Value) (A : Around) (up : List Env) (s : Shared) (H : Hp) (vs : List V) (Q : VK) (E : XK), Still (A.deeper (envOfC qual (defScope st) s.heap.objs.size f cdv)) → Room k (A.deeper (envOfC qual (defScope st) s.heap.objs.size f cdv)) → sp vs H Q E →
      ∃ t, PSs (cxOf CX0 P w K mg base N qual (defScope st) f cdv A up s H E).nox (defBody st) t ∧ t { nx := fun _ H' => Q .non H', rt := Q } (start N vs) H) : FnG P w K mg base CX0 (k + 1) f fd ps sp := by
  obtain ⟨oc, od, kV, dc, pm, an, cdv, ct, sl, rfl, lk, hc⟩ := F.ex
  refine ⟨ln, fun A hg hr up s H e0 ag us vs Q E bt rv h0 => ?_⟩
  have nl := ln _ _ _ _ h0
  have kin : K.In s.heap := e0.mod.kin.keeps fun _ _ z => (e0.bs _ _ z).1
  have free : s.heap.NoLimit := e0.mod.nolimit.keeps fun _ _ z => (e0.bs _ _ z).1
  have kinds : ∀ y ∈ ps.zip us, (defScope st).names.lookup y.1 = some .local ∨ ((defScope st).names.lookup y.1 = some .cell ∧ ((cellsFrom (s.heap.objs.size + 1) (defScope st).names []).lookup y.1).isSome = true) := by
    rintro ⟨n, v⟩ hy
    exact (S.par n (List.of_mem_zip hy).1).imp id fun c => ⟨c, PySem.W.cellsFrom_some _ _ _ (.inl c)⟩
  refine codeAny_call_function hr.depth (kin _ _ lk) rfl S.co S.gen rfl (PySem.W.codeRec_of kin hc) (bt _ _ _ _ (wpAny_newFunctionEnv_cells S.kind kinds fun en hn s1 y => ?_))
  subst hn
  refine ⟨free.keeps y.toInCall.keep, codeAny_func ?_⟩
  obtain ⟨t, ht, q0⟩ := bd cdv A up s H vs Q E (hg.down _) (hr.deeper _) h0
  have I0 : Inv (cxOf CX0 P w K mg base N qual (defScope st) f cdv A up s H E) [] (start N vs) H s1 := inv_start S hr.hd e0 nl rv y
  refine wpAny_mono (ht.nox.run [] s1 (start N vs) H _ I0 q0) (fun fl s2 z => ?_) fun _ _ z => z
  match fl, z with
  | .ret u, ⟨v, _, H2, J, r, q⟩ => exact ⟨v, H2, J.os, J.bare, J.base, J.hok, r, q⟩
  | .next, ⟨_, H2, J, q⟩ => exact ⟨.non, H2, J.os, J.bare, J.base, J.hok, rfl, q⟩
  | .brk, ⟨_, _, _, q⟩ => exact False.elim q
  | .cont, ⟨_, _, _, q⟩ => exact False.elim q
end
section
variable {X : Cx} {CX : CXT} {k : Nat} {f : Addr} {fd : FuncData} {ps : List Str} {sp : Sp} {dvs : List V} {ds : List Value} {E : XK} {x : Str} {p pos : Pos} {e : Expr} {es : List Expr} {t : TA}
theorem run_still {pins : List (Addr × Obj)} {σ : St} {H : Hp} {s : Shared} {Q : VK} {us : List Value} {vs : List V} (F : FnG X.prog X.w X.K X.mg X.base CX k f fd ps sp) (hs : Still X.A) (hr : Room k X.A) (hb : Binds X.K fd ps ds) (hd : Vals dvs ds) (hx : Passes CX X E)
    (I : Inv X pins σ H s) (r : Vals vs us) (h : sp (vs ++ dvs) H Q E) : wpAny (model X.prog X.w) X.A (call (.ref f) us) (EP X pins σ Q) X.xe s := by
  have rr : Vals (vs ++ dvs) (us ++ ds) := r.append hd
  have nl : (us ++ ds).length = ps.length := rr.length.symm.trans (F.ln _ _ _ _ h)
  refine wpAny_call (codeAny_mono (F.go X.A hs hr X.stack s H I.env0 ⟨us, []⟩ _ _ Q E (hb s us I.kIn nl) rr h) fun z s2 hz => ?_)
  match z, hz with
  | .error er, hz => exact hx pins σ H s er s2 I hz
  | .ok (.ret u), hz => exact I.after hz
  | .ok .next, hz => exact False.elim hz
  | .ok .brk, hz => exact False.elim hz
  | .ok .cont, hz => exact False.elim hz
/-- f(e, ..) of such a def -/
theorem pe_callG (F : FnG X.prog X.w X.K X.mg X.base CX k f fd ps sp) (hs : Still X.A) (hr : Room k X.A) (hg : Gl X x) (hm : X.mg x = some (.ref f)) (hk : PySem.W.keepIn X.K (.ref f) = true) (hb : Binds X.K fd ps ds) (hd : Vals dvs ds) (hx : Passes CX X E)
    (ha : PA X (e :: es) t) (ndb : (x == ("__debug__" : Str)) = false := by decide) (hst : starEach (e :: es) X.env = (false, eval e X.env) :: starEach es X.env := by rfl) (hpl : (backTo pos (starEach es X.env)).any (·.1) = false := by rfl) :
    PE X (.Call (.Name x p) (e :: es) [] pos) (tCall sp dvs E t) := by
  constructor
  intro pins s σ H Q I h
  refine wpAny_Call_Name_kw (ld_glob I hg hm (PySem.W.callWith_K (h₀ := X.base) I.ok.mod.kin hk (thn (ha.run pos pins s σ H _ I h) ?_) hst hpl) ndb)
  rintro us s1 ⟨vs, H1, I1, r, q⟩
  exact ⟨I1.kIn, run_still F hs hr hb hd hx I1 r q⟩
/-- repr(x), x data of any depth -/
def rRepr (K : PySem.W.Frag) : List V → Hp → VK → Prop := fun vs H Q => ∃ (a : Addr) (d : PyData), vs = [.ref a] ∧ Dp K H (.ref a) d ∧ d.showable = true ∧ d.hasDict = false ∧ d.depth ≤ 60 ∧ d.shown.length ≤ sizeLine ∧ Q (.str d.shown) H
theorem call_reprD (hs : Still X.A) (hu : X.A.units + 64 < cLine) : CallR X (.builtin "repr") (rRepr X.K) := by
  rintro pins s σ H vs us Q I r ⟨a, d, rfl, hd, sh, nd, dp, sz, q⟩
  obtain rfl := Vals.ref1 r
  obtain ⟨as, rd⟩ := Dp.reads I d _ _ hd rfl
  exact repr_of_reads' rd sh (PyData.noDict_hsm nd) hs (by omega) (fun _ _ z => z) (fun h' u tk hk => ⟨.str d.shown, H, I.kept hk, ⟨u, rfl⟩, q⟩) sz
end
/-! the law's own def, from the top -/
section
variable {P : Program} {w : World} {K : PySem.W.Frag} {mg mb : Str → Option Value} {CX : CXT} {k : Nat} {fa a : Addr} {fd : FuncData} {x : Str} {sp : Sp} {t : Shared} {vs : List Value} {ns : List Int}
theorem still_from {H : Hp} (kin : K.In t.heap) (gl : t.heap.Ns mainGlobals mg) (bl : t.heap.Ns builtinsNs mb) (bb : ∀ x : Str, x ≠ "__name__" → mb x = bootBuiltins x) (nolim : t.heap.NoLimit) (gen : t.gens = #[]) (ha : t.heap.get? a = some { cls := .type "list", data := .seq vs.toArray }) (hr : Room k callerA)
    (F : ∀ base : Heap, K.In base → base.Ns mainGlobals mg → FnG P w K mg base CX k fa fd [x] sp) (bind : ∀ (s : Shared) (u : Value), BindsTo s fd ⟨[u], []⟩ [(x, u)]) (low : ∀ H e s', CX [] H t (fun _ _ _ => False) e s' → False)
    (hO : Only H) (hs : sp [.ref a] H (fun v _ => v = .bl true) fun _ _ _ => False) (ok : HOk P w H t.heap) (one : ∀ b, H b ≠ none → b = a) (off : H a ≠ none → K.lookup a = none) :
    codeAny (model P w) callerA (.call (.ref fa) ⟨[.ref a], []⟩) (fun r s' => r = .ok (.ret (.bool true)) ∧ OldK t.heap s'.heap ∧ s'.os = t.os ∧ AllBare s'.gens) t := by
  have away : ∀ {b : Addr} {o : Obj}, t.heap.get? b = some o → o.data ≠ .seq vs.toArray → H b = none := fun {b o} g ne => by
    refine Decidable.byContradiction fun z => ?_
    rw [one b z, ha] at g
    cases g
    exact ne rfl
  have ns' : ∀ {b : Addr} {m : Str → Option Value}, t.heap.Ns b m → (hidT t.heap H).Ns b m := fun {b m} h => by
    obtain ⟨o, es, ep, g, d, r⟩ := h
    exact ⟨o, es, ep, hidT_get g (away g (by rw [d]; exact fun z => nomatch z)), d, r⟩
  have kin' : K.In (hidT t.heap H) := fun b o g => hidT_get (kin b o g) (Decidable.byContradiction fun z => by
    have e := one b z
    subst e
    rw [off z] at g
    cases g)
  have md : Mod K mg (hidT t.heap H) := by
    obtain ⟨mc, l1, l2⟩ := nolim
    exact ⟨kin', ns' gl, ⟨mb, ns' bl, bb⟩, mc, ns' l1, l2⟩
  have e0 : Env0 P w K mg (hidT t.heap H) callerA [] t H := ⟨rfl, md, fun _ _ g => of_hidT g, Nat.le_of_eq (hidT_size _ _), trivial, fun b z => (nomatch z), ok, .of_eq gen⟩
  refine codeAny_mono ((F _ kin' (ns' gl)).go callerA still_top hr [] t H e0 ⟨[.ref a], []⟩ [.ref a] [.ref a] _ _ (bind t _) (.cons rfl .nil) hs) fun z s2 hz => ?_
  match z, hz with
  | .error er, hz => exact (low H er s2 hz).elim
  | .ok .next, hz => exact False.elim hz
  | .ok .brk, hz => exact False.elim hz
  | .ok .cont, hz => exact False.elim hz
  | .ok (.ret u), ⟨v, H2, os, bare, un, ok2, rv, ev⟩ =>
    have ev' : v = .bl true := ev
    subst ev'
    have eu : u = Value.bool true := rv
    subst eu
    refine ⟨rfl, OldK.of_keep fun b o g => ?_, os, bare⟩
    rcases hO b with n | ⟨ob, xs, e⟩
    · exact un.keep b o g n (fun z => (nomatch z)) (fun z => (nomatch z))
    · have g1 := (ok b _ e).1
      rw [g] at g1
      cases g1
      exact (ok2 b _ (un.frzs b _ _ e)).1
theorem law_still (kin : K.In t.heap) (gl : t.heap.Ns mainGlobals mg) (bl : t.heap.Ns builtinsNs mb) (bb : ∀ x : Str, x ≠ "__name__" → mb x = bootBuiltins x) (nolim : t.heap.NoLimit) (gen : t.gens = #[]) (ha : t.heap.get? a = some { cls := .type "list", data := .seq vs.toArray })
    (hi : IntsAre vs ns) (hl : ns.length ≤ sizeLine) (hr : Room k callerA)
    (F : ∀ base : Heap, K.In base → base.Ns mainGlobals mg → FnG P w K mg base CX k fa fd [x] sp) (bind : ∀ (s : Shared) (u : Value), BindsTo s fd ⟨[u], []⟩ [(x, u)]) (low : ∀ H e s', CX [] H t (fun _ _ _ => False) e s' → False)
    (hs : ∀ H : Hp, Only H → SqL K H a (ns.map V.int) → sp [.ref a] H (fun v _ => v = .bl true) fun _ _ _ => False) :
    codeAny (model P w) callerA (.call (.ref fa) ⟨[.ref a], []⟩) (fun r s' => r = .ok (.ret (.bool true)) ∧ OldK t.heap s'.heap ∧ s'.os = t.os ∧ AllBare s'.gens) t := by
  have rv := vals_ints hi
  have nl := hi.length
  obtain ⟨ob, eo⟩ : ∃ ob : Obj, ob = { cls := .type "list", data := .seq vs.toArray } := ⟨_, rfl⟩
  cases hk : K.lookup a with
  | some o =>
    have g := kin a o hk
    rw [ha] at g
    cases g
    have hO : Only fun _ => none := fun _ => .inl rfl
    refine still_from kin gl bl bb nolim gen ha hr F bind low hO (hs _ hO (.inr ⟨_, vs.toArray, _, hk, rfl, rfl, rfl, ?_, ?_⟩)) (fun b u z => nomatch z) (fun b z => absurd rfl z) (fun z => absurd rfl z)
    · rw [List.size_toArray, nl]
      exact hl
    · simpa using rv
  | none =>
    have here : ∀ b, (upd (fun _ => none) a (.frz ob (.lst (ns.map V.int)))) b ≠ none → b = a := fun b z => Decidable.byContradiction fun n => z (upd_ne n)
    have hO : Only (upd (fun _ => none) a (.frz ob (.lst (ns.map V.int)))) := fun b => by
      by_cases n : b = a
      · subst n
        exact .inr ⟨_, _, upd_same⟩
      · exact .inl (upd_ne n)
    refine still_from kin gl bl bb nolim gen ha hr F bind low hO (hs _ hO (.inl (.inr ⟨ob, upd_same⟩))) (fun b u z => ?_) here (fun _ => hk)
    have e := here b (by rw [z]; exact fun y => nomatch y)
    subst e
    rw [upd_same] at z
    cases z
    subst eo
    exact ⟨ha, by rw [List.length_map]; exact hl, vs, _, rv, ha⟩
end
/-- what k_head leaves, for a law whose def needs that no repr is under way -/
theorem walk_still {l : PySem.W.OpenLaw} {n k : Nat} {q : Program} {loose : List Str} {XP : (Str → Option Value) → Heap → Prop} {YP : World → Heap → Prop} {d : DefRec} {K : Params → PySem.W.Frag} {sp : World → Sp} {x : Str}
    (m1 : l.most = some n) (m2 : n ≤ sizeLine) (nd : d.params.defaults = []) (hr : Room k callerA) (hY : ∀ (w : World) (h : Heap), YP w h → (K w.params).In h)
    (F : ∀ (w : World) (mg : Str → Option Value) (fa : Addr) (h : Heap), (K w.params).In h → h.Ns mainGlobals mg → mg d.name = some (.ref fa) →
      ∃ fd : FuncData, (∀ (s : Shared) (u : Value), BindsTo s fd ⟨[u], []⟩ [(x, u)]) ∧ ∀ base : Heap, (K w.params).In base → base.Ns mainGlobals mg → FnG l.prog w (K w.params) mg base CX0 k fa fd [x] (sp w))
    (hs : ∀ (w : World) (H : Hp) (a : Addr) (ns : List Int), ns.length ≤ n → Only H → SqL (K w.params) H a (ns.map V.int) → sp w [.ref a] H (fun v _ => v = .bl true) fun _ _ _ => False) :
    PySem.W.WalkO q loose XP YP l.row.toRowW d [] (fun f vs => PySem.call f vs) := by
  refine Att.attach_call m1 nd fun w s0 s1 mg mb fa o pm cd doc a vs ns G Y e1 e2 e3 e4 e5 e6 e7 e8 => ?_
  have kin := hY w _ Y
  obtain ⟨fd, hb, hF⟩ := F w mg fa _ kin G.T.g e4
  exact law_still kin G.T.g G.T.b G.T.builtins G.T.nolimit e8 e5 e6 (Nat.le_trans e7 m2) hr hF hb (fun _ _ _ z => z) fun H hO hS => hs w H a ns e7 hO hS
end L2
set_option Elab.async false
set_option linter.all false
set_option maxRecDepth 100000
namespace TW
open PySem PySem.Spec PyProof.Rows L2 TL
theorem ix_listK {X : Cx} {K : PySem.W.Frag} (h : X.K = K) : IxR X (rIxL K) := h ▸ ix_list
theorem ix_tupK {X : Cx} {K : PySem.W.Frag} (h : X.K = K) : IxR X (rIxT K) := h ▸ ix_tup
theorem ix_seqK {X : Cx} {K : PySem.W.Frag} (h : X.K = K) : IxR X (rIx K) := h ▸ ix_seq
theorem pi_listK {X : Cx} {K : PySem.W.Frag} {tg l : Expr} {tl : TE} (h : X.K = K) (hl : PE X l tl) : PI X tg l (iList K tl) := h ▸ pi_list hl
theorem pi_tupK {X : Cx} {K : PySem.W.Frag} {tg l : Expr} {tl : TE} (h : X.K = K) (hl : PE X l tl) : PI X tg l (iTup K tl) := h ▸ pi_tup hl
theorem sl_listK {X : Cx} {K : PySem.W.Frag} (h : X.K = K) : SlR X (rSlL K) := h ▸ sl_list
theorem op_in_seqK {X : Cx} {K : PySem.W.Frag} (h : X.K = K) : OpR X (compareOp .In) (rIn K false) := h ▸ op_in_seq
theorem op_notIn_seqK {X : Cx} {K : PySem.W.Frag} (h : X.K = K) : OpR X (compareOp .NotIn) (rIn K true) := h ▸ op_notIn_seq
theorem call_isiK {X : Cx} {K : PySem.W.Frag} (h : X.K = K) : CallR X (.builtin "isinstance") (rIsi K) := h ▸ call_isi
end TW
set_option Elab.async false
set_option linter.all false
set_option maxRecDepth 100000
set_option maxHeartbeats 2000000
/-! A lambda with parameters, handed to a def beside other arguments, and called there. -/
namespace LamQ
open PySem PySem.Spec PyProof.Rows L2 LamX NdefX
/-- the object of the lambda F at its address -/
abbrev lamO (F : NF) (body : Expr) (pm ctv : Value) : Obj := PySem.W.kla_obj "<lambda>" F.qual F.params body F.scope F.cl pm F.c ctv
section
variable {CX : CXT} {P : Program} {w : World} {K : PySem.W.Frag} {mg : Str → Option Value} {base : Heap} {N ps fr : List Str} {F : NF} {f : Addr} {A : Around} {outer : List Env} {s : Shared} {H : Hp} {E : XK} {us : List Value} {vs : List V} {ws : List (Option V)} {Q : VK} {k : Nat} {body : Expr} {pm ctv : Value}
/-- a lambda called -/
theorem lam_call (S : NScope N ps fr F.scope) (ho : s.heap.get? f = some (lamO F body pm ctv)) (hc : H F.c = some (CodeO F.c F.qual)) (hb : ∀ us : List Value, us.length = ps.length → bindArgs (PySem.W.kla_fn "<lambda>" F.qual F.params body F.scope F.cl pm (.ref F.c) ctv) ⟨us, []⟩ = pure (ps.zip us))
    (hr : Room (k + 1) A) (e0 : Env0 P w K mg base A outer s H) (C : CellsAt F.cl fr ws s.heap H) (r : Vals vs us) (hl : vs.length = ps.length)
    (hbody : Room k (A.deeper (envF F f s.heap.objs.size)) → ∃ t, PE (ncx CX P w K mg base N F f A outer s H E) body t ∧ t (startF N vs ws) H Q) :
    codeAny (model P w) A (.call (.ref f) ⟨us, []⟩) (CR CX outer P w H s Q E) s := by
  have lim : s.heap.NoLimit := e0.mod.nolimit.keeps fun b o e => (e0.bs b o e).1
  refine PySem.W.kla_callFunE hr.depth ho rfl S.co S.gen rfl (codeO_at e0.hok hc) ?_
  rw [hb us (by rw [← r.length]; exact hl)]
  refine wpAny_pure (wpAny_newFunctionEnv S.nocell (fun ⟨n, _⟩ hy => S.par n (List.of_mem_zip hy).1) (fun h₁ hns hsb => ⟨lim.fresh _ hsb, ?_⟩) S.kind)
  show codeAny _ _ (.expr body (envF F f s.heap.objs.size)) _ _
  have kp : ∀ b o, s.heap.get? b = some o → h₁.get? b = some o := fun b o e => hsb.extBut b o (Nat.ne_of_lt (Heap.lt_size e)) (Heap.get?_push_of_some _ e)
  obtain ⟨t, ht, hq⟩ := hbody (hr.deeper _)
  have I : Inv (ncx CX P w K mg base N F f A outer s H E) [] (startF N vs ws) H { s with heap := h₁, toks := s.toks + (ps.zip us).length } := inv_startN S hr.hd e0 hl r C hns kp
  refine PySem.W.kla_codeExpr (wpAny_mono (ht.run [] _ (startF N vs ws) H _ I hq) (fun v s' hs => ?_) fun e s' hs => hs)
  obtain ⟨w', H', J, rv, q⟩ := hs
  exact ⟨w', H', J.os, J.bare, J.base, J.hok, rv, q⟩
end
/-- cells keep what they hold while others run -/
theorem cells_un {cl : List (Str × Addr)} {fr : List Str} {ws : List (Option V)} {h h' : Heap} {H H' : Hp} {fs : List Addr} (C : CellsAt cl fr ws h H) (un : Un fs [] H H' h h') : CellsAt cl fr ws h' H' := by
  have kp : ∀ y c, cl.lookup y = some c → ∀ v, h.IsCell c v → h'.IsCell c v := fun y c e v ⟨o, ho, hd⟩ => by
    obtain ⟨sl, q⟩ := un.any ho (C.all y c e).1 (by simp)
    exact ⟨_, q, hd⟩
  refine ⟨C.len, fun y c e => ?_, C.inj, fun i y e => ?_⟩
  · obtain ⟨n, v, z⟩ := C.all y c e
    refine ⟨?_, v, kp y c e v z⟩
    obtain ⟨o, ho, _⟩ := z
    exact un.free c o ho n (by simp)
  · obtain ⟨c, hc, hv⟩ := C.has i y e
    exact ⟨c, hc, fun v ev => by
      obtain ⟨u, r, z⟩ := hv v ev
      exact ⟨u, r, kp y c hc _ z⟩⟩
/-- where a def entered at (s, H) stands to a lambda made ahead of it -/
structure Lam (Z : Cx) (N ps fr : List Str) (F : NF) (f : Addr) (body : Expr) (ws : List (Option V)) : Prop where
  S : NScope N ps fr F.scope
  ob : ∃ pm ctv, Z.s_0.heap.get? f = some (lamO F body pm ctv)
  nH : Z.H_0 f = none
  nf : f ∉ Z.fs
  nx : Z.ex = []
  C : CellsAt F.cl fr ws Z.s_0.heap Z.H_0
  hb : ∀ (pm ctv : Value) (us : List Value), us.length = ps.length → bindArgs (PySem.W.kla_fn "<lambda>" F.qual F.params body F.scope F.cl pm (.ref F.c) ctv) ⟨us, []⟩ = pure (ps.zip us)
/-- what the body gives, run anywhere -/
def Body (P : Program) (w : World) (K : PySem.W.Frag) (mg : Str → Option Value) (base : Heap) (N : List Str) (F : NF) (body : Expr) (k : Nat) (t : TE) : Prop :=
  ∀ (f : Addr) (A : Around) (outer : List Env) (s : Shared) (H : Hp), Room k (A.deeper (envF F f s.heap.objs.size)) → PE (ncx C8.CX0 P w K mg base N F f A outer s H C8.E0) body t
/-- a(e ..), a the name that holds the lambda -/
def tAct (f : Addr) (F : NF) (i : Nat) (N : List Str) (ws : List (Option V)) (t : TE) (ta : TA) : TE := fun σ H Q => σ[i]? = some (some (.ref f)) ∧ ta σ H fun vs H1 => vs.length = 1 ∧ H1 F.c = some (CodeO F.c F.qual) ∧ t (startF N vs ws) H1 Q
theorem pe_act1 {Z : Cx} {N fr : List Str} {y : Str} {F : NF} {f : Addr} {body : Expr} {ws : List (Option V)} {k i : Nat} {t : TE} {ta : TA} {a : Str} {e : Expr} {p pos : Pos} (L : Lam Z N [y] fr F f body ws) (B : Body Z.prog Z.w Z.K Z.mg Z.base N F body k t) (hr : Room (k + 1) Z.A)
    (hN : Z.N[i]? = some a) (hv : Vis Z.env.scope a) (ha : PA Z [e] ta) (hd : (a == ("__debug__" : Str)) = false := by decide) (hcd : (a == ("__classdict__" : Str)) = false := by decide)
    (he : starEach [e] Z.env = (false, eval e Z.env) :: starEach [] Z.env := by rfl) (hpl : (backTo pos (starEach [] Z.env)).any (·.1) = false := by rfl) :
    PE Z (.Call (.Name a p) [e] [] pos) (tAct f F i N ws t ta) := by
  refine ⟨fun pins s σ H Q I h => ?_⟩
  obtain ⟨hs, ht⟩ := h
  obtain ⟨pm, ctv, ob⟩ := L.ob
  have at_ : ∀ {s1 : Shared} {σ1 : L2.St} {H1 : Hp}, Inv Z pins σ1 H1 s1 → s1.heap.get? f = some (lamO F body pm ctv) := fun {s1 σ1 H1} I1 => I1.base.keep f _ ob L.nH L.nf (by rw [L.nx]; simp)
  refine wpAny_Call_Name_kw (thn ((pe_var (pos := p) hN hv hd hcd).run pins s σ H (fun v H1 => v = .ref f ∧ H1 = H) I ⟨.ref f, hs, rfl, rfl⟩) fun u s1 ⟨v, H1, I1, r1, q1⟩ => ?_)
  obtain ⟨ev, eH⟩ := q1
  subst ev
  rw [eH] at I1
  obtain rfl : u = Value.ref f := r1
  refine PySem.W.callWith_F (first := []) ⟨_, _, _, _, at_ I1⟩ (thn (ha.run pos pins s1 σ H _ I1 ht) fun us s2 ⟨vs, H2, I2, r, hl, hc, q⟩ => ⟨⟨_, _, _, _, at_ I2⟩, ?_⟩) he hpl
  show wpAny _ _ (call (.ref f) us) _ _ _
  have un := I2.base
  rw [L.nx] at un
  have rc := lam_call (CX := C8.CX0) (E := C8.E0) (N := N) (f := f) (Q := Q) L.S (at_ I2) hc (L.hb pm ctv) hr I2.env0 (cells_un L.C un) r hl fun hr2 => ⟨t, B f Z.A Z.stack s2 H2 hr2, q⟩
  refine wpAny_call (codeAny_mono rc fun r s' hq => ?_)
  cases r with
  | error e => exact (show False from hq).elim
  | ok fl =>
    cases fl with
    | ret u => exact I2.after hq
    | next => exact False.elim hq
    | brk => exact False.elim hq
    | cont => exact False.elim hq
/-- the lambda that X makes, with its code object at c' -/
abbrev lamF (X : Cx) (params : Arguments) (scope : Scope) (c' : Addr) : NF := ⟨"<lambda>", X.env.qual ++ "<lambda>", params, [], scope, cloFrom X.env.cells scope.names [], c'⟩
/-- g(e, lambda y: body): what is asked of g, told of the lambda at f -/
def tLam2 (H00 : Hp) (T : List (Addr × Str)) (q : Str) (js : List Nat) (ta : TE) (TT : Addr → Addr → List (Option V) → V → Hp → VK → Prop) : TE := fun σ H Q => ta σ H fun v H0 =>
  Tabs T H0 ∧ ∀ (f c' : Addr) (H1 : Hp), ExtN H0 H1 → (∀ b ps, H00 b = some (.tbl ps) → H1 b ≠ none) → Tabs T H1 → H1 f = none → H1 c' = some (CodeO c' q) → TT c' f (js.map (slotAt σ)) v H1 Q
theorem pe_lam2 {X : Cx} {T : List (Addr × Str)} {x a0 a1 y : Str} {st : Stmt} {g c P : Addr} {fd : FuncData} {Ng N fr : List Str} {js : List Nat} {k : Nat} {params : Arguments} {body : Expr} {scope : Scope} {ta : TE} {TT : Addr → Addr → List (Option V) → V → Hp → VK → Prop} {e : Expr} {p lpos pos : Pos}
    (hg : Gl X x) (hm : X.mg x = some (.ref g)) (Fg : Fun X.K x x st g fd) (hb : L2.Binds X.K fd [a0, a1] []) (Sg : FnScope Ng [a0, a1] (defScope st))
    (TB : TabB X.base X.mg c P) (hcode : X.env.code = .ref c) (hmT : (P, X.env.qual ++ "<lambda>") ∈ T) (hu : ∀ p ∈ T, p.1 = P → p.2 = X.env.qual ++ "<lambda>") (hr : Room (k + 1) X.A)
    (hdef : defaultsOf params X.env = ([], [])) (hfree : ∀ y ∈ scope.names, y.2 = .free → X.env.scope.names.lookup y.1 = some .cell ∨ X.env.scope.names.lookup y.1 = some .free) (SL : NScope N [y] fr scope) (hfr : ∀ y ∈ fr, (y, NameKind.free) ∈ scope.names) (hjs : js.map (fun j => X.N[j]?) = fr.map some)
    (hbind : ∀ (q : Str) (cl : List (Str × Addr)) (pm cv ctv : Value) (us : List Value), us.length = 1 → bindArgs (PySem.W.kla_fn "<lambda>" q params body scope cl pm cv ctv) ⟨us, []⟩ = pure ([y].zip us))
    (ha : PE X e ta)
    (hG : ∀ (cdv : Value) (f c' : Addr) (s' : Shared) (H1 : Hp) (v : V) (ws : List (Option V)) (Q : VK), Room k (X.A.deeper (envOfC x (defScope st) s'.heap.objs.size g cdv)) →
      Lam (cxOf L2.CX0 X.prog X.w X.K X.mg X.base Ng x (defScope st) g cdv X.A X.stack s' H1 L2.E0).nox N [y] fr (lamF X params scope c') f body ws → TT c' f ws v H1 Q →
      ∃ tb, PSs (cxOf L2.CX0 X.prog X.w X.K X.mg X.base Ng x (defScope st) g cdv X.A X.stack s' H1 L2.E0).nox (defBody st) tb ∧ tb { nx := fun _ H' => Q .non H', rt := Q } (L2.start Ng [v, .ref f]) H1)
    (hdb : (x == ("__debug__" : Str)) = false := by decide) (hs1 : starEach [e, .Lambda params body scope lpos] X.env = (false, eval e X.env) :: starEach [.Lambda params body scope lpos] X.env := by rfl) :
    PE X (.Call (.Name x p) [e, .Lambda params body scope lpos] [] pos) (tLam2 X.H_0 T (X.env.qual ++ "<lambda>") js ta TT) := by
  refine ⟨fun pins s σ H Q I h => ?_⟩
  refine wpAny_Call_Name_kw (ld_glob I hg hm ?_ hdb)
  refine PySem.W.callWith_K (h₀ := X.base) I.ok.mod.kin Fg.kp ?_ hs1 (by rfl)
  rw [hs1]
  show wpAny _ _ (spliced ((false, eval e X.env) :: backTo pos (starEach [.Lambda params body scope lpos] X.env))) _ _ s
  refine Calls.spliced_cons (thn (ha.run pins s σ H _ I h) fun u0 s1 ⟨v, H0, I1, r0, hT, hq⟩ => ?_)
  show wpAny _ _ (spliced ((false, eval (.Lambda params body scope lpos) X.env) :: backTo pos (starEach [] X.env))) _ _ s1
  refine Calls.spliced_cons (lam_make2 I1 TB hcode hmT hu hT hdef (fun z hz e => (hfree z hz e).elim (fun k => I1.ok.has _ (.inl k)) fun k => I1.ok.has _ (.inr k)) fun f c' pm' ctv H1 s' I2 eN T1 hf hfn hfr' hco => ?_)
  refine Calls.spliced_nil ⟨I2.kIn, ?_⟩
  have C : CellsAt (cloFrom X.env.cells scope.names []) fr (js.map (slotAt σ)) s'.heap H1 := cells_of I2 (Caps.made I2.ok hfree hfr hjs)
  obtain ⟨oc, od, kV, doc, pm, an, cdv, ct, osl, rfl, lk, hcd⟩ := Fg.ex
  have rc : codeAny (model X.prog X.w) X.A (.call (.ref g) ⟨[u0, .ref f], []⟩) (CR L2.CX0 X.stack X.prog X.w H1 s' Q L2.E0) s' := by
    refine run_ofS (N := Ng) (ps := [a0, a1]) (us := [u0, .ref f]) (vs := [v, .ref f]) lk hcd Sg hr I2.env0 (hb s' [u0, .ref f] I2.kIn rfl) (.cons r0 (.cons rfl .nil)) rfl fun hr' => ?_
    obtain ⟨t', ht', hq'⟩ := hG cdv f c' s' H1 v _ Q hr' ⟨SL, ⟨_, _, hf⟩, hfn, hfr', rfl, C, fun pm ctv us hl => hbind _ _ _ _ _ us hl⟩ (hq f c' H1 eN (fun b ps eb z => by
      obtain ⟨more, e2⟩ := I2.base.tbls b ps eb
      rw [z] at e2
      cases e2) T1 hfn hco)
    exact ⟨t', ht'.nox, hq'⟩
  refine wpAny_call (codeAny_mono rc fun r s2 hq => ?_)
  cases r with
  | error e => exact (show False from hq).elim
  | ok fl =>
    cases fl with
    | ret u => exact I2.after hq
    | next => exact False.elim hq
    | brk => exact False.elim hq
    | cont => exact False.elim hq
end LamQ
set_option Elab.async false
set_option linter.all false
set_option maxRecDepth 100000
namespace TW
open PySem PySem.Spec PyProof.Rows L2 TL LamX NdefX LamQ
abbrev S_normal_form : Stmt := topS 26
abbrev N_normal_form : List Str := ["fields", "objects", "names", "numbers", "renumbered", "field", "old", "name"]
abbrev P_normal_form : List Str := ["fields", "objects", "names"]
theorem sc_normal_form : FnScope N_normal_form P_normal_form (defScope S_normal_form) := ⟨rfl, rfl, rfl, by decide +kernel, rfl, by decide +kernel, by decide +kernel⟩
/-- the lambda that normal_form hands on -/
def L_nf : Expr := match defBody S_normal_form with
  | .Assign _ (.Call _ [_, l] _ _) _ :: _ => l
  | _ => .Name "x" ⟨0, 0, 0, 0⟩
def lamScope : Expr → Scope
  | .Lambda _ _ sc _ => sc
  | _ => { kind := .function, names := [], isGenerator := false, isCoroutine := false }
def lamBody : Expr → Expr
  | .Lambda _ b _ _ => b
  | e => e
def lamArgs : Expr → Arguments
  | .Lambda a _ _ _ => a
  | _ => { posonlyargs := [], args := [], vararg := none, kwonlyargs := [], kw_defaults := [], kwarg := none, defaults := [] }
def lamPos : Expr → Pos
  | .Lambda _ _ _ p => p
  | _ => ⟨0, 0, 0, 0⟩
def N_lam : List Str := ["fresh", "objects", "fields", "one", "field"]
theorem L_nf_eq : L_nf = .Lambda (lamArgs L_nf) (lamBody L_nf) (lamScope L_nf) (lamPos L_nf) := by rfl
theorem sc_lam : NScope N_lam ["fresh"] ["objects", "fields"] (lamScope L_nf) := nscope_by (by decide +kernel)
section
variable {P : Program} {w : World} {K : PySem.W.Frag} {mg : Str → Option Value} {base : Heap} {X : Cx}
def tLamB (K : PySem.W.Frag) : TE := tLc2 (iList K (tVar 0)) (gName 3) tYes (iTup K (tVar 2)) (gName 4) tYes (tDGet (tOp (rIxL K) (tVar 1) (tVar 3)) (tVar 4)) [3, 4] [4]
theorem lam_body {k : Nat} {F : NF} (hs : F.scope = lamScope L_nf) : Body P w K mg base N_lam F (lamBody L_nf) k (tLamB K) := by
  intro f A outer s H hr
  obtain ⟨nm, qu, pa, bd, sc, cl, c⟩ := F
  cases hs
  have hu := hu_of hr
  exact (pe_lc2 (own := [("one", 3), ("field", 4)]) (vs1 := [4]) (g := gName 3) (g1 := gName 4) (tt := tYes) (tt1 := tYes) rfl sc_lam.nd (pi_list (pv 0)) (blkOk_by (own := [("one", 3), ("field", 4)]) (N := N_lam) (sc := lamScope L_nf) (by decide +kernel)) (by decide) (fun _ _ _ _ _ => pg_name (i := 3) sc_lam.nd rfl (by first | exact Or.inl rfl | exact Or.inr rfl)) (fun _ _ _ _ _ => pts_nil) (fun _ _ _ _ _ => (pi_tupK (K := K) rfl (pv 2))) (fun _ _ _ _ _ => pg_name (i := 4) sc_lam.nd rfl (by first | exact Or.inl rfl | exact Or.inr rfl)) (fun _ _ _ _ _ => pts_nil) (fun _ _ _ _ _ => (pe_dget hu (pe_ix (ix_listK (K := K) rfl) (pv 1) (pv 3) (fun _ _ => rfl)) (pv 4) (fun _ _ => rfl))))
end
end TW
set_option Elab.async false
set_option linter.all false
set_option maxRecDepth 100000
namespace TW
open PySem PySem.Spec PyProof.Rows L2 TL LamX NdefX LamQ
/-! ### the mirror of the numbering -/
def fld (os : List Ob) (k : Nat) (f : Str) : Option Nat := ((os[k]?).bind (·.lookup f)).join
def meet (ord : List Nat) (v : Option Nat) : List Nat := match v with
  | none => ord
  | some k => if k ∈ ord then ord else ord ++ [k]
def kids (os : List Ob) (fs : List Str) (k : Nat) : List (Option Nat) := fs.map (fld os k)
/-- one round: the numbers so far, the edge -/
def lvl (os : List Ob) (fs : List Str) (s : List Nat × List (Option Nat)) : List Nat × List (Option Nat) :=
  let o := s.2.foldl meet s.1
  (o, (o.drop s.1.length).flatMap (kids os fs))
def lvs (os : List Ob) (fs : List Str) (e : List (Option Nat)) : Nat → List Nat × List (Option Nat)
  | 0 => ([], e)
  | j + 1 => lvl os fs (lvs os fs e j)
def nmv (l : Ob) (n : Str) : Option Nat := (l.lookup n).join
/-- a dict from the old to the new numbers -/
def nk (ord : List Nat) : List (Key × V) := ord.zipIdx.map fun p => ((Sum.inl (p.1 : Int) : Key), V.int (p.2 : Int))
theorem nk_len (ord : List Nat) : (nk ord).length = ord.length := by unfold nk; rw [List.length_map, List.length_zipIdx]
theorem nk_snoc (ord : List Nat) (k : Nat) : nk (ord ++ [k]) = nk ord ++ [((Sum.inl (k : Int) : Key), V.int (ord.length : Int))] := by
  unfold nk
  rw [List.zipIdx_append, List.map_append]
  simp
theorem idx_ne {x k : Nat} {r : List Nat} (h : x ≠ k) : (x :: r).idxOf k = r.idxOf k + 1 := by
  rw [List.idxOf_cons]
  have : (x == k) = false := by simpa using h
  rw [this]
  rfl
theorem nk_at (k : Nat) : ∀ (ord : List Nat) (j : Nat), valV ((ord.zipIdx j).map fun p => ((Sum.inl (p.1 : Int) : Key), V.int (p.2 : Int))) (Sum.inl (k : Int) : Key) = if k ∈ ord then some (V.int ((j + ord.idxOf k : Nat) : Int)) else none
  | [], j => rfl
  | x :: r, j => by
    rw [List.zipIdx_cons, List.map_cons]
    by_cases h : x = k
    · subst h
      rw [valV_pos rfl, if_pos (List.mem_cons_self ..), List.idxOf_cons_self]
      rfl
    · rw [valV_neg (fun e => h (by injection e with e; omega)), nk_at k r (j + 1)]
      by_cases m : k ∈ r
      · rw [if_pos m, if_pos (List.mem_cons_of_mem _ m), idx_ne h]
        congr 3
        omega
      · rw [if_neg m, if_neg (fun z => by rcases List.mem_cons.mp z with z | z; exact h z.symm; exact m z)]
theorem nk_val (ord : List Nat) (k : Nat) : valV (nk ord) (Sum.inl (k : Int) : Key) = if k ∈ ord then some (V.int (ord.idxOf k : Int)) else none := by
  have := nk_at k ord 0
  rw [Nat.zero_add] at this
  exact this
theorem meet_in {ord : List Nat} {v : Option Nat} {n : Nat} (h : ∀ k ∈ ord, k < n) (hv : okv n v) : ∀ k ∈ meet ord v, k < n := by
  cases v with
  | none => exact h
  | some i =>
    unfold meet
    dsimp only
    split
    · exact h
    · intro k hk
      rcases List.mem_append.mp hk with hk | hk
      · exact h k hk
      · rw [List.mem_singleton.mp hk]; exact hv
theorem meet_nd {ord : List Nat} {v : Option Nat} (h : ord.Nodup) : (meet ord v).Nodup := by
  cases v with
  | none => exact h
  | some i =>
    unfold meet
    dsimp only
    split
    · exact h
    · rename_i hi
      refine List.nodup_append.mpr ⟨h, by simp, fun x hx y hy => ?_⟩
      rw [List.mem_singleton.mp hy]
      exact fun e => hi (by rw [← e]; exact hx)
theorem meets_pre (vs : List (Option Nat)) : ∀ ord : List Nat, ∃ t, vs.foldl meet ord = ord ++ t := by
  induction vs with
  | nil => exact fun ord => ⟨[], (List.append_nil _).symm⟩
  | cons v vs ih =>
    intro ord
    obtain ⟨t, ht⟩ := ih (meet ord v)
    have : ∃ u, meet ord v = ord ++ u := by
      cases v with
      | none => exact ⟨[], (List.append_nil _).symm⟩
      | some k =>
        unfold meet
        dsimp only
        split
        · exact ⟨[], (List.append_nil _).symm⟩
        · exact ⟨[k], rfl⟩
    obtain ⟨u, hu⟩ := this
    exact ⟨u ++ t, by rw [List.foldl_cons, ht, hu, List.append_assoc]⟩
theorem okv_fld {os : List Ob} {n : Nat} (h : ∀ o ∈ os, okl n o) (k : Nat) (f : Str) : okv n (fld os k f) := by
  unfold fld
  cases e : os[k]? with
  | none => trivial
  | some o =>
    show okv n ((o.lookup f).join)
    cases e2 : o.lookup f with
    | none => trivial
    | some v =>
      have hm : (f, v) ∈ o := by
        clear e h
        induction o with
        | nil => cases e2
        | cons p r ih =>
          obtain ⟨g, u⟩ := p
          rw [List.lookup_cons] at e2
          cases z : f == g with
          | true =>
            rw [z] at e2
            have : f = g := by simpa using z
            rw [this, ← Option.some.inj e2]
            exact List.mem_cons_self ..
          | false =>
            rw [z] at e2
            exact List.mem_cons_of_mem _ (ih e2)
      exact h o (List.mem_of_getElem? e) _ hm
theorem okv_look {l : Ob} {n : Nat} (h : okl n l) (f : Str) : okv n (nmv l f) := by
  have := okv_fld (os := [l]) (n := n) (fun o ho => by rw [List.mem_singleton.mp ho]; exact h) 0 f
  exact this
theorem lc2_go {K : PySem.W.Frag} {a b : Addr} {xs ys : List V} {o p ib : Nat} {te : TE} {vs vs1 : List Nat} {σ : St'} {H1 : Hp} {D : Addr} {Qd : Hp → Prop} (Pv : Nat → Nat → Hp → Prop)
    (hw : ∀ x, wipe ((wipe σ vs).set o (some x)) vs = wipe σ vs) (hb : ∀ x, ((wipe σ vs).set o (some x))[ib]? = some (some (.ref b)))
    (hw1 : ∀ x y, wipe ((wipe ((wipe σ vs).set o (some x)) vs1).set p (some y)) vs1 = wipe ((wipe σ vs).set o (some x)) vs1)
    (h0 : Pv 0 0 (upd H1 D (.lst []))) (hl : ∀ i H, Pv i 0 H → SqL K H a xs) (ht : ∀ i j H, Pv i j H → SqT K H b ys)
    (step : ∀ i H, i < xs.length → Pv i ys.length H → Pv (i + 1) 0 H)
    (hs : ∀ i j x y H, xs[i]? = some x → ys[j]? = some y → Pv i j H → te ((wipe ((wipe σ vs).set o (some x)) vs1).set p (some y)) H fun v H7 => ∃ acc, H7 D = some (.lst acc) ∧ acc.length < sizeLine ∧ Pv i (j + 1) (upd H7 D (.lst (acc ++ [v]))))
    (hd : ∀ H, Pv xs.length 0 H → Qd H) :
    ∃ W : Nat → Nat → Hp → Prop, (∃ m, W 0 m (upd H1 D (.lst []))) ∧ ∀ i m H, W i m H →
      ((Itl K a).stop i H ∧ Qd H) ∨ ((Itl K a).go i H ∧ ∃ Nx : Hp → Prop, (∀ H', Nx H' → ∃ m', m' < m ∧ W (i + 1) m' H') ∧ ∀ x H', (Itl K a).yld i H x H' → gName o x (wipe σ vs) H' fun σ2 H2 => wipe σ2 vs = wipe σ vs ∧ tYes σ2 H2 fun c H3 =>
        if c = true then iTup K (tVar ib) σ2 H3 fun J1 H4 => ∃ W1 : Nat → Nat → Hp → Prop, (∃ m, W1 0 m H4) ∧ ∀ j k H, W1 j k H →
          (J1.stop j H ∧ Nx H) ∨ (J1.go j H ∧ ∃ Nx1 : Hp → Prop, (∀ H', Nx1 H' → ∃ k', k' < k ∧ W1 (j + 1) k' H') ∧ ∀ x H', J1.yld j H x H' → gName p x (wipe σ2 vs1) H' fun σ3 H5 => wipe σ3 vs1 = wipe σ2 vs1 ∧ tYes σ3 H5 fun c H6 =>
            if c = true then te σ3 H6 fun y H7 => ∃ acc, H7 D = some (.lst acc) ∧ acc.length < sizeLine ∧ Nx1 (upd H7 D (.lst (acc ++ [y]))) else Nx1 H6)
        else Nx H3) := by
  refine ⟨fun i m H => m = xs.length - i ∧ i ≤ xs.length ∧ Pv i 0 H, ⟨_, rfl, Nat.zero_le _, h0⟩, ?_⟩
  rintro i m H ⟨rfl, hi, pv⟩
  have q := hl i H pv
  by_cases lt : i < xs.length
  · refine .inr ⟨⟨xs, xs[i], q, List.getElem?_eq_getElem lt⟩, Pv (i + 1) 0, fun H' p' => ⟨xs.length - (i + 1), by omega, rfl, lt, p'⟩, fun x H' hy => ?_⟩
    obtain ⟨e, y⟩ := hy
    subst e
    have hx := y xs q
    refine ⟨hw x, yes_of ⟨_, hb x, b, rfl, ⟨_, ht i 0 H' pv⟩, fun j k H2 => k = ys.length - j ∧ j ≤ ys.length ∧ Pv i j H2, ⟨_, rfl, Nat.zero_le _, pv⟩, ?_⟩⟩
    rintro j k H2 ⟨rfl, hj, pv2⟩
    have q2 := ht i j H2 pv2
    by_cases lt2 : j < ys.length
    · refine .inr ⟨⟨ys, ys[j], q2, List.getElem?_eq_getElem lt2⟩, Pv i (j + 1), fun H' p' => ⟨ys.length - (j + 1), by omega, rfl, lt2, p'⟩, fun z H3 hz => ?_⟩
      obtain ⟨e, y2⟩ := hz
      subst e
      exact ⟨hw1 x z, yes_of (hs i j x z H3 hx (y2 ys q2) pv2)⟩
    · have e : j = ys.length := by omega
      subst e
      exact .inl ⟨⟨ys, q2, Nat.le_refl _⟩, step i H2 lt pv2⟩
  · have e : i = xs.length := by omega
    subst e
    exact .inl ⟨⟨xs, q, Nat.le_refl _⟩, hd H pv⟩
theorem get_hv {vs : List (Option Nat)} {i : Nat} {x : V} (hx : (vs.map hv)[i]? = some x) : ∃ v, vs[i]? = some v ∧ x = hv v := by
  rw [List.getElem?_map] at hx
  cases e : vs[i]? with
  | none => rw [e] at hx; cases hx
  | some z => rw [e] at hx; exact ⟨z, rfl, (Option.some.inj hx).symm⟩
theorem get_nat {vs : List Nat} {i : Nat} {x : V} (hx : (vs.map fun k : Nat => V.int (k : Int))[i]? = some x) : ∃ v, vs[i]? = some v ∧ x = V.int (v : Int) := by
  rw [List.getElem?_map] at hx
  cases e : vs[i]? with
  | none => rw [e] at hx; cases hx
  | some z => rw [e] at hx; exact ⟨z, rfl, (Option.some.inj hx).symm⟩
theorem dget_dk {H : Hp} {a : Addr} {kvs : List (Key × V)} {k : Key} {v : V} (e : H a = some (.dK kvs)) (h : valV kvs k = some v) : DGet H a (kV k) (some v) := h ▸ DGet.k e
theorem lookup_some {k : Str} : ∀ {l : List (Str × Option Nat)}, k ∈ l.map (·.1) → ∃ v, l.lookup k = some v
  | [], h => by simp at h
  | (f, v) :: l, h => by
    rw [List.lookup_cons]
    cases e : k == f with
    | true => exact ⟨v, rfl⟩
    | false =>
      rcases List.mem_cons.mp h with h | h
      · subst h; simp at e
      · exact lookup_some h
theorem nmv_val {l : Ob} {z : Str} (h : z ∈ l.map (·.1)) : valV (dk l) (Sum.inr z : Key) = some (hv (nmv l z)) := by
  obtain ⟨v, e⟩ := lookup_some h
  rw [dk_valV]
  unfold nmv
  rw [e]
  rfl
theorem fld_val {os : List Ob} {k : Nat} {o : Ob} {f : Str} (ho : os[k]? = some o) (h : f ∈ o.map (·.1)) : valV (dk o) (Sum.inr f : Key) = some (hv (fld os k f)) := by
  have := nmv_val h
  unfold fld
  rw [ho]
  exact this
theorem flat_take {α β : Type} {xs : List α} {i : Nat} {x : α} (h : xs[i]? = some x) (g : α → List β) : (xs.take (i + 1)).flatMap g = (xs.take i).flatMap g ++ g x := by
  rw [take_next' h, List.flatMap_append]
  simp
theorem flat_len {os : List Ob} {fs : List Str} : ∀ ks : List Nat, (ks.flatMap (kids os fs)).length = ks.length * fs.length
  | [] => by simp
  | k :: ks => by
    have ih := flat_len (os := os) (fs := fs) ks
    rw [List.flatMap_cons, List.length_append, ih, List.length_cons]
    unfold kids
    rw [List.length_map, Nat.succ_mul]
    omega
theorem nd_len {ks : List Nat} {n : Nat} (nd : ks.Nodup) (h : ∀ k ∈ ks, k < n) : ks.length ≤ n := by
  have := len_le_of_sub ks (List.range n) nd fun x hx => List.mem_range.mpr (h x hx)
  rwa [List.length_range] at this
/-- the edge in the making -/
def part (os : List Ob) (fs : List Str) (fr : List Nat) (i j : Nat) : List (Option Nat) := (fr.take i).flatMap (kids os fs) ++ (match fr[i]? with
  | some k => (fs.take j).map (fld os k)
  | none => [])
theorem part_00 (os : List Ob) (fs : List Str) (fr : List Nat) : part os fs fr 0 0 = [] := by
  unfold part
  cases fr <;> rfl
theorem part_end {os : List Ob} {fs : List Str} {fr : List Nat} {i : Nat} (h : i < fr.length) : part os fs fr i fs.length = part os fs fr (i + 1) 0 := by
  unfold part
  rw [List.getElem?_eq_getElem h, flat_take (List.getElem?_eq_getElem h)]
  dsimp only
  rw [List.take_length]
  have : (match fr[i + 1]? with | some k => (fs.take 0).map (fld os k) | none => []) = ([] : List (Option Nat)) := by
    cases fr[i + 1]? <;> rfl
  rw [this, List.append_nil]
  rfl
theorem part_next {os : List Ob} {fs : List Str} {fr : List Nat} {i j k : Nat} {f : Str} (h : fr[i]? = some k) (hf : fs[j]? = some f) : part os fs fr i (j + 1) = part os fs fr i j ++ [fld os k f] := by
  unfold part
  rw [h]
  dsimp only
  rw [take_next' hf, List.map_append, List.append_assoc]
  rfl
theorem part_all (os : List Ob) (fs : List Str) (fr : List Nat) : part os fs fr fr.length 0 = fr.flatMap (kids os fs) := by
  unfold part
  rw [List.take_length, List.getElem?_eq_none (Nat.le_refl _), List.append_nil]
theorem part_len (os : List Ob) (fs : List Str) (fr : List Nat) (i j : Nat) : (part os fs fr i j).length ≤ fr.length * fs.length + fs.length := by
  unfold part
  rw [List.length_append, flat_len, List.length_take]
  have h1 : min i fr.length * fs.length ≤ fr.length * fs.length := Nat.mul_le_mul_right _ (Nat.min_le_right _ _)
  have h2 : (match fr[i]? with | some k => (fs.take j).map (fld os k) | none => []).length ≤ fs.length := by
    cases fr[i]? with
    | none => exact Nat.zero_le _
    | some k =>
      show ((fs.take j).map (fld os k)).length ≤ _
      rw [List.length_map, List.length_take]
      exact Nat.min_le_right _ _
  omega
/-- what new_numbers is asked, told of the lambda at fl -/
def spNL (K : PySem.W.Frag) (F : NF) (fl : Addr) (ws : List (Option V)) (v : V) (H : Hp) (Q : VK) : Prop := ∃ (aF aO aN : Addr) (fs : List Str) (ds : List Addr) (os : List Ob) (l : Ob), v = .ref aN ∧ ws = [some (.ref aO), some (.ref aF)] ∧ H F.c = some (CodeO F.c F.qual) ∧ SqT K H aF (fs.map V.str) ∧ fs.length ≤ 1000 ∧ ObjsAt H aO ds fs os.length os ∧ os.length ≤ 1000 ∧
  H aN = some (.dK (dk l)) ∧ (l.map (·.1)).Nodup ∧ l.length < 64 ∧ okl os.length l ∧
  ∀ (d : Addr) (ys : List Str) (j : Nat) (ord : List Nat) (H' : Hp), Same H H' → H d = none → H' d = some (.dK (nk ord)) → ys.Perm (l.map (·.1)) → sortedS ys = true → lvs os fs (ys.map (nmv l)) j = (ord, []) → ord.Nodup → (∀ k ∈ ord, k < os.length) → Q (.ref d) H'
abbrev S_new_numbers : Stmt := topS 27
abbrev N_new_numbers : List Str := ["names", "held_by", "numbers", "met", "name", "fresh", "number"]
abbrev P_new_numbers : List Str := ["names", "held_by"]
theorem sc_new_numbers : FnScope N_new_numbers P_new_numbers (defScope S_new_numbers) := ⟨rfl, rfl, rfl, by decide +kernel, rfl, by decide +kernel, by decide +kernel⟩
section
variable {P : Program} {w : World} {K : PySem.W.Frag} {mg : Str → Option Value} {base : Heap}
set_option maxHeartbeats 8000000 in
theorem ok_new_numbers {cdv : Value} {A : Around} {outer : List Env} {s : Shared} {H : Hp} {g fl : Addr} {F : NF} {ws : List (Option V)} {v : V} {Q : VK} (B : Bl mg) (hs : F.scope = lamScope L_nf)
    (L : Lam (cxOf CX0 P w K mg base N_new_numbers "new_numbers" (defScope S_new_numbers) g cdv A outer s H E0).nox N_lam ["fresh"] ["objects", "fields"] F fl (lamBody L_nf) ws) (hr : Room 1 (A.deeper (envOfC "new_numbers" (defScope S_new_numbers) s.heap.objs.size g cdv))) (h : spNL K F fl ws v H Q) :
    ∃ tb, PSs (cxOf CX0 P w K mg base N_new_numbers "new_numbers" (defScope S_new_numbers) g cdv A outer s H E0).nox (defBody S_new_numbers) tb ∧ tb { nx := fun _ H' => Q .non H', rt := Q } (L2.start N_new_numbers [v, .ref fl]) H := by
    obtain ⟨aF, aO, aN, fs, ds, os, l, rfl, rfl, hco, hF, hfs, O, hos, hN, nd, h64, hl, k⟩ := h
    have hu := hu_of hr
    refine ⟨_, (pss_cons (ps_set (i := 2) sc_new_numbers.nd rfl (by first | exact Or.inl rfl | exact Or.inr rfl) pe_dnewK)
 (pss_cons (ps_setLc (i := 3) (own := [("name", 4)]) (g := gName 4) (tt := tYes) rfl sc_new_numbers.nd rfl rfl (sw_true rfl rfl rfl (by decide +kernel)) (pi_list (pe_callB (call_sortedD rfl) (by rfl) B.m_sorted (by decide +kernel) (pa_cons (pv 0) pa_nil))) (blkOk_by (own := [("name", 4)]) (N := N_new_numbers) (sc := defScope S_new_numbers) (by decide +kernel)) (fun _ _ _ _ _ => (pg_name (i := 4) sc_new_numbers.nd rfl (by first | exact Or.inl rfl | exact Or.inr rfl))) (fun _ _ _ _ _ => pts_nil) (fun _ _ _ _ _ => (pe_dget hu (pv 0) (pv 4) (fun _ _ => rfl))))
 (pss_cons (ps_while PassesOwn.never (pt_truth (pv 3) (by intro _; rfl)) (pss_cons (ps_set (i := 5) sc_new_numbers.nd rfl (by first | exact Or.inl rfl | exact Or.inr rfl) (pe_lst pa_nil))
 (pss_cons (ps_for PassesOwn.never rfl (pi_list (pv 3)) (pg_name (i := 6) sc_new_numbers.nd rfl (by first | exact Or.inl rfl | exact Or.inr rfl)) (pss_one (ps_if (PW.pt (pw_and (pt_cmpR op_notN (pv 6) pe_non (nomark _)) (pw_and1 (pt_cmp (pc_dnotin hu (pv 6) (pv 2)))))) (pss_cons (ps_dput hu (pv 2) (pv 6) (pe_callB call_lenD (by rfl) B.m_len PySem.boot_len (pa_cons (pv 2) pa_nil)) rfl)
 (pss_one (ps_expr (pe_bm PySem.F.plainAttrs_list PySem.F.slot_list_append PySem.F.type_list_append mt_append (pv 5) (pa_cons (pv 6) pa_nil))))) pss_nil)))
 (pss_one (ps_set (i := 3) sc_new_numbers.nd rfl (by first | exact Or.inl rfl | exact Or.inr rfl) (pe_act1 (i := 1) L (lam_body (k := 0) hs) hr rfl (Or.inl rfl) (pa_cons (pv 5) pa_nil)))))))
 (pss_one (ps_ret (pv 2)))))), ?_⟩
    intro d hd
    have s1 : Same H (upd H d (.dK [])) := same_new hd
    -- edge = [names[name] for name in sorted(names)]
    refine ⟨_, rfl, aN, dk l, l.map (·.1), rfl, .inl (s1 _ _ hN), by unfold dk; rw [List.map_map, List.map_map]; rfl, by rw [List.length_map]; exact h64, fun ys p perm srt hp => ⟨p, rfl, ⟨_, SqL.of upd_same⟩, fun D hD => ?_⟩⟩
    have hym : ∀ z ∈ ys, z ∈ l.map (·.1) := fun z hz => perm.mem_iff.mp hz
    have hyl : ys.length < 64 := by rw [perm.length_eq, List.length_map]; exact h64
    have hd1 : (upd H d (.dK [])) d = some (.dK []) := upd_same
    have s2 : Same (upd H d (.dK [])) (upd (upd H d (.dK [])) p (.lst (ys.map V.str))) := same_new hp
    refine lc_list (xs := ys.map V.str) (fun i H2 => Same (upd (upd H d (.dK [])) p (.lst (ys.map V.str))) H2 ∧ H2 D = some (.lst (((ys.take i).map (nmv l)).map hv))) ⟨same_new hD, upd_same⟩ (fun i H2 _ h => SqL.of (h.1 _ _ upd_same)) ?_ ?_
    · rintro i x H2 hx ⟨s3, h2⟩
      obtain ⟨z, hz, rfl⟩ := get_str hx
      refine ⟨rfl, yes_of ?_⟩
      have hN2 := s3 _ _ (s2 _ _ (s1 _ _ hN))
      refine ⟨_, rfl, _, rfl, aN, hv (nmv l z), rfl, dget_dk (k := (Sum.inr z : Key)) hN2 (nmv_val (hym z (List.mem_of_getElem? hz))), _, h2, ?_, ?_⟩
      · rw [List.length_map, List.length_map, List.length_take]
        exact small1000 (by omega)
      · refine ⟨fun b o e => by rw [upd_ne (ne_of_none e hD)]; exact s3 _ _ e, ?_⟩
        rw [upd_same, take_next' hz, List.map_append, List.map_append]
        rfl
    · rintro H2 ⟨s3, h2⟩
      rw [List.length_map, List.take_length] at h2
      have hDd : d ≠ D := ne_of_none (s2 _ _ hd1) hD
      have S0 : Same H H2 := fun b o e => s3 _ _ (s2 _ _ (s1 _ _ e))
      have hd2 : H2 d = some (.dK []) := s3 _ _ (s2 _ _ hd1)
      -- while edge
      refine ⟨fun m σ H3 => ∃ (j : Nat) (ord : List Nat) (edge : List (Option Nat)) (E : Addr) (z4 z5 z6 : Option V), σ = [some (.ref aN), some (.ref fl), some (.ref d), some (.ref E), z4, z5, z6] ∧
        lvs os fs (ys.map (nmv l)) j = (ord, edge) ∧ ord.Nodup ∧ (∀ k ∈ ord, k < os.length) ∧ (∀ v ∈ edge, okv os.length v) ∧ edge.length ≤ 1000000 ∧ H3 d = some (.dK (nk ord)) ∧ H3 E = some (.lst (edge.map hv)) ∧ Same H H3 ∧
        m = 2 * (os.length - ord.length) + (if edge = [] then 0 else 1), ⟨_, 0, [], ys.map (nmv l), D, _, _, _, rfl, rfl, List.nodup_nil, fun k hk => (nomatch hk), ?_, ?_, hd2, h2, S0, rfl⟩, ?_⟩
      · intro v hv'
        obtain ⟨z, _, rfl⟩ := List.mem_map.mp hv'
        exact okv_look hl z
      · rw [List.length_map]; omega
      · rintro m σ H3 ⟨j, ord, edge, E, z4, z5, z6, rfl, hlv, hnd, hlt, hok, hel, h3d, h3E, S3, rfl⟩
        refine ⟨_, rfl, _, .inl ⟨_, SqL.of h3E, rfl⟩, ?_⟩
        have S1 : ∀ {A C : Prop}, (edge ≠ [] → A) → (edge = [] → C) → if (!(edge.map hv).isEmpty) = true then A else C := fun {A C} h1 h2 => by
          cases edge with
          | nil => exact iteF (h2 rfl)
          | cons v r => exact iteT (h1 (by simp))
        refine S1 (fun hne => ?_) (fun he => ?_)
        · refine ⟨fun σ' H' => ∃ m' : Nat, m' < 2 * (os.length - ord.length) + (if edge = [] then 0 else 1) ∧ ∃ (j : Nat) (ord : List Nat) (edge : List (Option Nat)) (E : Addr) (z4 z5 z6 : Option V), σ' = [some (.ref aN), some (.ref fl), some (.ref d), some (.ref E), z4, z5, z6] ∧
            lvs os fs (ys.map (nmv l)) j = (ord, edge) ∧ ord.Nodup ∧ (∀ k ∈ ord, k < os.length) ∧ (∀ v ∈ edge, okv os.length v) ∧ edge.length ≤ 1000000 ∧ H' d = some (.dK (nk ord)) ∧ H' E = some (.lst (edge.map hv)) ∧ Same H H' ∧
            m' = 2 * (os.length - ord.length) + (if edge = [] then 0 else 1), fun σ' H' h => h, ?_⟩
          -- fresh = []
          refine ⟨Nat.zero_le _, fun R hR => ?_⟩
          have dR : d ≠ R := ne_of_none h3d hR
          have ER : E ≠ R := ne_of_none h3E hR
          have hRH : H R = none := S3.free hR
          have pre : ∀ i, ∃ t, (edge.take i).foldl meet ord = ord ++ t := fun i => meets_pre _ ord
          refine ⟨_, rfl, E, rfl, ⟨_, SqL.of ((upd_ne ER).trans h3E)⟩, for_list (xs := edge.map hv) (fun i σ H4 => ∃ (z6 : Option V), σ = [some (.ref aN), some (.ref fl), some (.ref d), some (.ref E), z4, some (.ref R), z6] ∧
            H4 d = some (.dK (nk ((edge.take i).foldl meet ord))) ∧ H4 R = some (.lst ((((edge.take i).foldl meet ord).drop ord.length).map fun k : Nat => V.int (k : Int))) ∧ H4 E = some (.lst (edge.map hv)) ∧ ((edge.take i).foldl meet ord).Nodup ∧ (∀ k ∈ (edge.take i).foldl meet ord, k < os.length) ∧ Same H H4) ?_ ?_ ?_ ?_⟩
          · exact ⟨_, rfl, (upd_ne dR).trans h3d, by rw [upd_same]; simp, (upd_ne ER).trans h3E, hnd, hlt, fun b o e => by rw [upd_ne (ne_of_none e hRH)]; exact S3 _ _ e⟩
          · rintro i σ H4 hi ⟨z6, rfl, g1, g2, g3, g4, g5, g6⟩
            exact SqL.of g3
          · rintro i x σ H4 hx ⟨z6, rfl, g1, g2, g3, g4, g5, g6⟩
            obtain ⟨v, hv', rfl⟩ := get_hv hx
            have tk : (edge.take (i + 1)).foldl meet ord = meet ((edge.take i).foldl meet ord) v := by rw [take_next' hv', List.foldl_append]; rfl
            refine ⟨_, rfl, rfl, _, rfl, ?_⟩
            cases v with
            | none =>
              refine iteF ?_
              refine iteF ?_
              exact ⟨_, rfl, by rw [tk]; exact g1, by rw [tk]; exact g2, g3, by rw [tk]; exact g4, by rw [tk]; exact g5, g6⟩
            | some k0 =>
              refine iteT ?_
              refine ⟨_, rfl, _, rfl, d, _, rfl, DGet.k (k := (Sum.inl (k0 : Int) : Key)) g1, _, rfl, ?_⟩
              rw [nk_val]
              have hk0 : k0 < os.length := hok _ (List.mem_of_getElem? hv')
              by_cases hin : k0 ∈ (edge.take i).foldl meet ord
              · rw [if_pos hin]
                refine iteF ?_
                have e : meet ((edge.take i).foldl meet ord) (some k0) = (edge.take i).foldl meet ord := if_pos hin
                exact ⟨_, rfl, by rw [tk, e]; exact g1, by rw [tk, e]; exact g2, g3, by rw [tk, e]; exact g4, by rw [tk, e]; exact g5, g6⟩
              · rw [if_neg hin]
                refine iteT ?_
                have e : meet ((edge.take i).foldl meet ord) (some k0) = (edge.take i).foldl meet ord ++ [k0] := if_neg hin
                have hol := nd_len g4 g5
                refine ⟨_, rfl, d, _, rfl, g1, _, rfl, _, rfl, d, _, rfl, DPut.k (k := (Sum.inl (k0 : Int) : Key)) g1 (by rw [nk_len]; exact small1000 (by omega)), ?_⟩
                have ep : putK (nk ((edge.take i).foldl meet ord)) (Sum.inl (k0 : Int) : Key) (V.int ((nk ((edge.take i).foldl meet ord)).length : Int)) = nk ((edge.take i).foldl meet ord ++ [k0]) := by
                  rw [putK_new _ (by rw [nk_val, if_neg hin]), nk_snoc, nk_len]
                have g2' : (upd H4 d (.dK (putK (nk ((edge.take i).foldl meet ord)) (Sum.inl (k0 : Int) : Key) (V.int ((nk ((edge.take i).foldl meet ord)).length : Int))))) R = some (.lst ((((edge.take i).foldl meet ord).drop ord.length).map fun k : Nat => V.int (k : Int))) := (upd_ne dR.symm).trans g2
                refine ⟨_, rfl, .inl ⟨rfl, _, SqL.of g2'⟩, _, rfl, R, _, _, rfl, rfl, g2', by rw [List.length_map, List.length_drop]; exact small1000 (by omega), ?_⟩
                obtain ⟨t, ht⟩ := pre i
                refine ⟨_, rfl, ?_, ?_, ?_, ?_, ?_, ?_⟩
                · rw [upd_ne dR, upd_same, tk, e, ep]
                · rw [upd_same, tk, e, ht, List.append_assoc, List.drop_left, List.drop_left, List.map_append]
                  rfl
                · rw [upd_ne ER, upd_ne (ne_of h3d h3E (by intro z; cases z)).symm]; exact g3
                · rw [tk]; exact meet_nd g4
                · rw [tk]; exact meet_in g5 hk0
                · intro b o e2
                  rw [upd_ne (ne_of_none e2 hRH), upd_ne (ne_of_none e2 hd)]
                  exact g6 _ _ e2
          · rintro σ H4 ⟨z6, rfl, g1, g2, g3, g4, g5, g6⟩
            rw [List.length_map, List.take_length] at g1 g2 g4 g5
            have hol := nd_len g4 g5
            obtain ⟨t, ht⟩ := meets_pre edge ord
            have hfl : ((edge.foldl meet ord).drop ord.length).length ≤ os.length := by rw [List.length_drop]; omega
            have hmul : ((edge.foldl meet ord).drop ord.length).length * fs.length ≤ 1000000 := Nat.le_trans (Nat.mul_le_mul (Nat.le_trans hfl hos) hfs) (by decide)
            have O4 := O.same g6
            refine ⟨rfl, _, rfl, rfl, g6 _ _ hco, ?_⟩
            refine ⟨_, rfl, R, rfl, ⟨_, SqL.of g2⟩, fun D2 hD2 => lc2_go (b := aF) (xs := ((edge.foldl meet ord).drop ord.length).map fun k : Nat => V.int (k : Int)) (ys := fs.map V.str)
              (fun i j H5 => Same H4 H5 ∧ H5 D2 = some (.lst ((part os fs ((edge.foldl meet ord).drop ord.length) i j).map hv))) (fun x => rfl) (fun x => rfl) (fun x y => rfl) ⟨same_new hD2, by rw [upd_same, part_00]; rfl⟩ (fun i H5 h => SqL.of (h.1 _ _ g2)) (fun i j H5 h => sqt_same (fun b o e => h.1 _ _ (g6 _ _ e)) hF) ?_ ?_ ?_⟩
            · rintro i H5 hi ⟨s5, h5⟩
              rw [List.length_map] at hi h5
              rw [part_end hi] at h5
              exact ⟨s5, h5⟩
            · rintro i j2 x y H5 hx hy ⟨s5, h5⟩
              obtain ⟨k0, hk0, rfl⟩ := get_nat hx
              obtain ⟨f0, hf0, rfl⟩ := get_str hy
              have hk0' : k0 < os.length := g5 k0 (List.mem_of_mem_drop (List.mem_of_getElem? hk0))
              have hkd : k0 < ds.length := by rw [O.len]; exact hk0'
              have O5 := O4.same s5
              have ho : os[k0]? = some os[k0] := List.getElem?_eq_getElem hk0'
              have hdk : ds[k0]? = some ds[k0] := List.getElem?_eq_getElem hkd
              have hf1 : f0 ∈ (os[k0]).map (·.1) := (O.ks _ (List.getElem_mem hk0')).mem_iff.mpr (List.mem_of_getElem? hf0)
              refine ⟨_, rfl, _, rfl, aO, _, _, _, rfl, rfl, SqL.of O5.ls, atI_nat (j := k0) (by rw [List.getElem?_map, hdk]; rfl), _, rfl, ds[k0], hv (fld os k0 f0), rfl, dget_dk (k := (Sum.inr f0 : Key)) (O5.at' k0 _ _ hdk ho) (fld_val ho hf1), _, h5, ?_, ?_, ?_⟩
              · rw [List.length_map]
                refine Nat.lt_of_le_of_lt (part_len ..) ?_
                exact Nat.lt_of_le_of_lt (show _ ≤ 1001000 by omega) (by decide)
              · intro b o e
                rw [upd_ne (ne_of_none e hD2)]
                exact s5 _ _ e
              · rw [upd_same, part_next hk0 hf0, List.map_append]
                rfl
            · rintro H5 ⟨s5, h5⟩
              rw [List.length_map, part_all] at h5
              have hkids : ∀ v ∈ ((edge.foldl meet ord).drop ord.length).flatMap (kids os fs), okv os.length v := by
                intro v hv'
                obtain ⟨k0, _, hv2⟩ := List.mem_flatMap.mp hv'
                obtain ⟨f0, _, rfl⟩ := List.mem_map.mp hv2
                exact okv_fld O.ok k0 f0
              refine ⟨_, ?_, j + 1, edge.foldl meet ord, ((edge.foldl meet ord).drop ord.length).flatMap (kids os fs), D2, _, _, _, rfl, ?_, g4, g5, hkids, ?_, s5 _ _ g1, h5, fun b o e => s5 _ _ (g6 _ _ e), rfl⟩
              · rw [if_neg hne]
                have hlen : (edge.foldl meet ord).length = ord.length + t.length := by rw [ht, List.length_append]
                cases t with
                | nil =>
                  rw [List.append_nil] at ht
                  rw [ht]
                  simp
                | cons x r =>
                  rw [List.length_cons] at hlen
                  split <;> omega
              · show lvl os fs (lvs os fs (ys.map (nmv l)) j) = _
                rw [hlv]
                rfl
              · rw [flat_len]; exact hmul
        · subst he
          exact ⟨_, rfl, k d ys j ord H3 S3 hd h3d perm srt hlv hnd hlt⟩
end
end TW
set_option Elab.async false
set_option linter.all false
set_option maxRecDepth 100000
namespace TW
open PySem PySem.Spec PyProof.Rows L2 TL LamX NdefX LamQ
def passS : Stmt := .Pass ⟨0, 0, 0, 0⟩
def asgVal (s : Stmt) : Expr := match s with
  | .Assign _ v _ => v
  | .Return (some v) _ => v
  | _ => .Constant .none 0 ⟨0, 0, 0, 0⟩
def lcScope (e : Expr) : Scope := match e with
  | .ListComp _ _ sc _ => sc
  | _ => defScope passS
/-! ### d.get(None) -/
section
variable {X : Cx} {pins : List (Addr × Obj)} {σ : St'} {H : Hp} {s : Shared} {a : Addr} {kvs : List (Key × V)} {A : Around} {E : Value → Shared → Prop}
theorem d_getNone {Q : Value → Shared → Prop} (I : Inv X pins σ H s) (e : Rd H a (.dK kvs)) (h : ∀ s', Inv X pins σ H s' → Q .none s') : wpAny (model X.prog X.w) A (call (.builtin "dict.get") [.ref a, .none]) Q E s := by
  obtain ⟨_, hd, vs, _, dd⟩ := dk_rd I.hok e
  obtain ⟨f, hm, hf⟩ := none_map dd
  refine call_meetsIn PySem.F.slot_dict_get dd.typeIs PySem.F.entry_dict_get (PySem.F.args_dict_get_2 _ _) (meets_dict_get (noneKind X.prog X.w) a (show (noneKind X.prog X.w).is none .none = true from rfl) hd) ⟨f, hm, ?_⟩
  rw [hf]
  exact h _ (I.tok _)
def tDGet1N (td ty : TE) : TE := fun σ H Q => td σ H fun x H1 => ∃ a, x = .ref a ∧ IsD H1 a ∧ ty σ H1 fun y H2 => (∃ o, DGet H2 a y o ∧ Q (o.getD .non) H2) ∨ (y = .non ∧ ∃ kvs, Rd H2 a (.dK kvs) ∧ Q .non H2)
variable {o e : Expr} {apos cpos : Pos} {td ty : TE}
theorem pe_dget1N (hu : X.A.units + 1 < cLine) (ho : PE X o td) (he : PE X e ty) (m : M1 X o "get" apos e cpos) : PE X (.Call (.Attribute o "get" apos) [e] [] cpos) (tDGet1N td ty) := by
  refine ⟨fun pins s σ H Q I h => wpAny_Call_method m.base m.few m.line PySem.F.plainAttrs_dict PySem.F.slot_dict_get PySem.F.type_dict_get (thn (ho.run pins s σ H _ I h) fun u s1 h1 => ?_)⟩
  obtain ⟨x, H1, I1, rx, a, rfl, d, q1⟩ := h1
  cases rx
  obtain ⟨t1, t2, _⟩ := isD_at I1 d
  refine ⟨t1, t2, ?_⟩
  rw [m.trees]
  refine Calls.callWith_builtin rfl (Calls.evalArgs_plain (Calls.spliced_cons (thn (he.run pins s1 σ H1 _ I1 q1) fun iv s2 h2 => Calls.spliced_nil ?_)))
  obtain ⟨y, H2, I2, ry, ⟨ov, g, q2⟩ | ⟨rfl, kvs, g, q2⟩⟩ := h2
  · exact d_get1 hu I2 g ry fun w' s3 I3 rw' => ⟨_, H2, I3, rw', q2⟩
  · cases ry
    exact d_getNone I2 g fun s3 I3 => ⟨.non, H2, I3, rfl, q2⟩
end
/-! ### comprehensions over a locked dict -/
theorem lc_keys {d : Addr} {o : Obj} {kvs : List (Key × V)} {g : TG} {tt : TT} {te : TE} {vs : List Nat} {σ : St'} {H1 : Hp} {D : Addr} {Qd : Hp → Prop} (Pv : Nat → Hp → Prop) (h0 : Pv 0 (upd H1 D (.lst []))) (hl : ∀ i H, Pv i H → H d = some (.frz o (.dK kvs)))
    (hs : ∀ i k v H, kvs[i]? = some (k, v) → Pv i H → g (kV k) (wipe σ vs) H fun σ2 H2 => wipe σ2 vs = wipe σ vs ∧ tt σ2 H2 fun b H3 =>
      if b = true then te σ2 H3 fun y H4 => ∃ acc, H4 D = some (.lst acc) ∧ acc.length < sizeLine ∧ Pv (i + 1) (upd H4 D (.lst (acc ++ [y]))) else Pv (i + 1) H3) (hd : ∀ H, Pv kvs.length H → Qd H) :
    ∃ W : Nat → Nat → Hp → Prop, (∃ m, W 0 m (upd H1 D (.lst []))) ∧ ∀ i m H, W i m H →
      ((Itk d o kvs).stop i H ∧ Qd H) ∨ ((Itk d o kvs).go i H ∧ ∃ Nx : Hp → Prop, (∀ H', Nx H' → ∃ m', m' < m ∧ W (i + 1) m' H') ∧ ∀ x H', (Itk d o kvs).yld i H x H' → g x (wipe σ vs) H' fun σ2 H2 => wipe σ2 vs = wipe σ vs ∧ tt σ2 H2 fun b H3 =>
        if b = true then te σ2 H3 fun y H4 => ∃ acc, H4 D = some (.lst acc) ∧ acc.length < sizeLine ∧ Nx (upd H4 D (.lst (acc ++ [y]))) else Nx H3) := by
  refine ⟨fun i m H => m = kvs.length - i ∧ i ≤ kvs.length ∧ Pv i H, ⟨_, rfl, Nat.zero_le _, h0⟩, ?_⟩
  rintro i m H ⟨rfl, hi, p⟩
  have q := hl i H p
  by_cases lt : i < kvs.length
  · refine .inr ⟨⟨q, lt⟩, Pv (i + 1), fun H' p' => ⟨kvs.length - (i + 1), by omega, rfl, lt, p'⟩, fun x H' hy => ?_⟩
    obtain ⟨rfl, k, v, hk, rfl⟩ := hy
    exact hs i k v _ hk p
  · have e : i = kvs.length := by omega
    subst e
    exact .inl ⟨⟨q, Nat.le_refl _⟩, hd H p⟩
theorem dc_keys {d : Addr} {o : Obj} {kws : List (Key × V)} {g : TG} {tt : TT} {tk tv : TE} {vs : List Nat} {σ : St'} {H1 : Hp} {D : Addr} {Qd : Hp → Prop} (Pv : Nat → Hp → Prop) (h0 : Pv 0 (upd H1 D (.dK []))) (hl : ∀ i H, Pv i H → H d = some (.frz o (.dK kws)))
    (hs : ∀ i k v H, kws[i]? = some (k, v) → Pv i H → g (kV k) (wipe σ vs) H fun σ2 H2 => wipe σ2 vs = wipe σ vs ∧ tt σ2 H2 fun b H3 =>
      if b = true then tk σ2 H3 fun y H4 => tv σ2 H4 fun z H5 => ∃ kvs k, y = kV k ∧ H5 D = some (.dK kvs) ∧ kvs.length < sizeLine ∧ Pv (i + 1) (upd H5 D (.dK (putK kvs k z))) else Pv (i + 1) H3) (hd : ∀ H, Pv kws.length H → Qd H) :
    ∃ W : Nat → Nat → Hp → Prop, (∃ m, W 0 m (upd H1 D (.dK []))) ∧ ∀ i m H, W i m H →
      ((Itk d o kws).stop i H ∧ Qd H) ∨ ((Itk d o kws).go i H ∧ ∃ Nx : Hp → Prop, (∀ H', Nx H' → ∃ m', m' < m ∧ W (i + 1) m' H') ∧ ∀ x H', (Itk d o kws).yld i H x H' → g x (wipe σ vs) H' fun σ2 H2 => wipe σ2 vs = wipe σ vs ∧ tt σ2 H2 fun b H3 =>
        if b = true then tk σ2 H3 fun y H4 => tv σ2 H4 fun z H5 => ∃ kvs k, y = kV k ∧ H5 D = some (.dK kvs) ∧ kvs.length < sizeLine ∧ Nx (upd H5 D (.dK (putK kvs k z))) else Nx H3) := by
  refine ⟨fun i m H => m = kws.length - i ∧ i ≤ kws.length ∧ Pv i H, ⟨_, rfl, Nat.zero_le _, h0⟩, ?_⟩
  rintro i m H ⟨rfl, hi, p⟩
  have q := hl i H p
  by_cases lt : i < kws.length
  · refine .inr ⟨⟨q, lt⟩, Pv (i + 1), fun H' p' => ⟨kws.length - (i + 1), by omega, rfl, lt, p'⟩, fun x H' hy => ?_⟩
    obtain ⟨rfl, k, v, hk, rfl⟩ := hy
    exact hs i k v _ hk p
  · have e : i = kws.length := by omega
    subst e
    exact .inl ⟨⟨q, Nat.le_refl _⟩, hd H p⟩
/-- behind a lock -/
theorem same_unlock {H H2 : Hp} {d : Addr} {o : Obj} {u : HO} (e : H d = some u) (s : Same (upd H d (.frz o u)) H2) : Same H (upd H2 d u) := fun b x h => by
  by_cases hb : b = d
  · subst hb
    rw [upd_same]
    rw [e] at h
    exact h
  · rw [upd_ne hb]
    exact s _ _ (by rw [upd_ne hb]; exact h)
/-! ### the mirror -/
def ren (ord : List Nat) (v : Option Nat) : Option Nat := v.bind fun k => if k ∈ ord then some (ord.idxOf k) else none
def row (os : List Ob) (fs : List Str) (ord : List Nat) (k : Nat) : Ob := fs.map fun f => (f, ren ord (fld os k f))
def renL (ord : List Nat) (l : Ob) : Ob := l.map fun p => (p.1, ren ord p.2)
theorem ren_ok (ord : List Nat) (v : Option Nat) : okv ord.length (ren ord v) := by
  cases v with
  | none => trivial
  | some k =>
    unfold ren
    show okv _ (if k ∈ ord then some (ord.idxOf k) else none)
    by_cases h : k ∈ ord
    · rw [if_pos h]; exact List.idxOf_lt_length_of_mem h
    · rw [if_neg h]; trivial
theorem ren_val (ord : List Nat) (k : Nat) : (valV (nk ord) (Sum.inl (k : Int) : Key)).getD .non = hv (ren ord (some k)) := by
  rw [nk_val]
  unfold ren
  show _ = hv (if k ∈ ord then some (ord.idxOf k) else none)
  by_cases h : k ∈ ord
  · rw [if_pos h, if_pos h]; rfl
  · rw [if_neg h, if_neg h]; rfl
/-- numbers.get(v) -/
theorem get_ren {H : Hp} {a : Addr} {ord : List Nat} (v : Option Nat) (e : Rd H a (.dK (nk ord))) : (hv v = .non ∧ hv (ren ord v) = .non) ∨ ∃ o, DGet H a (hv v) o ∧ o.getD .non = hv (ren ord v) := by
  cases v with
  | none => exact .inl ⟨rfl, rfl⟩
  | some k => exact .inr ⟨valV (nk ord) (Sum.inl (k : Int) : Key), .inl ⟨_, Sum.inl (k : Int), e, rfl, rfl⟩, ren_val ord k⟩
theorem put_ren {l : Ob} {f : Str} {x : V} {v : Option Nat} (e : x = hv v) (h : f ∉ l.map (·.1)) : putK (dk l) (Sum.inr f : Key) x = dk (l ++ [(f, v)]) := by
  rw [e]; exact dk_put h
theorem row_take {os : List Ob} {fs : List Str} {ord : List Nat} {k j : Nat} {f : Str} (h : fs[j]? = some f) : (row os fs ord k).take (j + 1) = (row os fs ord k).take j ++ [(f, ren ord (fld os k f))] := by
  refine take_next' ?_
  unfold row
  rw [List.getElem?_map, h]; rfl
theorem row_fst (os : List Ob) (fs : List Str) (ord : List Nat) (k : Nat) : (row os fs ord k).map (·.1) = fs := by
  unfold row
  rw [List.map_map]
  exact List.map_id' fs
theorem nk_get {ord : List Nat} {i : Nat} {kk : Key} {vv : V} (h : (nk ord)[i]? = some (kk, vv)) : ∃ k, ord[i]? = some k ∧ kk = Sum.inl (k : Int) := by
  unfold nk at h
  rw [List.getElem?_map, List.getElem?_zipIdx] at h
  cases e : ord[i]? with
  | none => rw [e] at h; cases h
  | some k =>
    rw [e] at h
    refine ⟨k, rfl, ?_⟩
    have := Option.some.inj h
    exact (congrArg Prod.fst this).symm
theorem dk_get {l : Ob} {i : Nat} {kk : Key} {vv : V} (h : (dk l)[i]? = some (kk, vv)) : ∃ n v, l[i]? = some (n, v) ∧ kk = Sum.inr n ∧ vv = hv v := by
  unfold dk at h
  rw [List.getElem?_map] at h
  cases e : l[i]? with
  | none => rw [e] at h; cases h
  | some p =>
    rw [e] at h
    have := Option.some.inj h
    exact ⟨p.1, p.2, rfl, (congrArg Prod.fst this).symm, (congrArg Prod.snd this).symm⟩
theorem nmv_at : ∀ {l : Ob} {i : Nat} {n : Str} {v : Option Nat}, (l.map (·.1)).Nodup → l[i]? = some (n, v) → nmv l n = v
  | [], _, _, _, _, h => by simp at h
  | (f, u) :: l, 0, n, v, _, h => by
    have e := Option.some.inj h
    injection e with e1 e2
    subst e1 e2
    unfold nmv
    rw [List.lookup_cons, beq_self_eq_true]
    rfl
  | (f, u) :: l, i + 1, n, v, nd, h => by
    rw [List.map_cons, List.nodup_cons] at nd
    have h' : l[i]? = some (n, v) := h
    have ih := nmv_at nd.2 h'
    unfold nmv at ih ⊢
    have hne : (n == f) = false := by
      have : n ≠ f := fun e => nd.1 (by rw [← e]; exact List.mem_map.mpr ⟨_, List.mem_of_getElem? h', rfl⟩)
      simpa using this
    rw [List.lookup_cons, hne]
    exact ih
theorem renL_fst (ord : List Nat) (l : Ob) : (renL ord l).map (·.1) = l.map (·.1) := by
  unfold renL
  rw [List.map_map]
  rfl
theorem renL_take {ord : List Nat} {l : Ob} {i : Nat} {n : Str} {v : Option Nat} (h : l[i]? = some (n, v)) : (renL ord l).take (i + 1) = (renL ord l).take i ++ [(n, ren ord v)] := by
  refine take_next' ?_
  unfold renL
  rw [List.getElem?_map, h]; rfl
/-- the table of normal_form's code objects: its lambda's alone -/
def tabQ : Str := ("normal_form" : Str) ++ ".<locals>." ++ "<lambda>"
abbrev TB1 (Pt : Addr) : List (Addr × Str) := [(Pt, tabQ)]
/-- all but the table stays, nothing goes -/
structure SamN (Pt : Addr) (H H' : Hp) : Prop where
  k : ExtN H H'
  f : ∀ x, H' x = none → H x = none
  t : Tabs (TB1 Pt) H'
theorem SamN.of {Pt : Addr} {H H1 : Hp} (e : ExtN H H1) (o : ∀ b ps, H b = some (.tbl ps) → H1 b ≠ none) (t : Tabs (TB1 Pt) H1) : SamN Pt H H1 := by
  refine ⟨e, fun x hx => ?_, t⟩
  cases ex : H x with
  | none => rfl
  | some u =>
    by_cases hu : ∃ ps, u = .tbl ps
    · obtain ⟨ps, eu⟩ := hu
      rw [eu] at ex
      exact absurd hx (o x ps ex)
    · have e3 := e x u ex fun ps z => hu ⟨ps, z⟩
      rw [hx] at e3
      cases e3
theorem SamN.same {Pt : Addr} {H H1 H2 : Hp} (a : SamN Pt H H1) (s : Same H1 H2) : SamN Pt H H2 := ⟨fun b o e n => s _ _ (a.k b o e n), fun x hx => a.f x (s.free hx), a.t.ext s⟩
/-- the lambda, its code object at c1 -/
abbrev nfL (c1 : Addr) : NF := ⟨"<lambda>", tabQ, lamArgs L_nf, [], lamScope L_nf, [], c1⟩
theorem nf_caps : ndefB (defScope S_normal_form) (lamScope L_nf) ["objects", "fields"] = true := by decide +kernel
theorem bind_lam : ∀ (q : Str) (cl : List (Str × Addr)) (pm cv ctv : Value) (us : List Value), us.length = 1 → bindArgs (PySem.W.kla_fn "<lambda>" q (lamArgs L_nf) (lamBody L_nf) (lamScope L_nf) cl pm cv ctv) ⟨us, []⟩ = pure ((["fresh"] : List Str).zip us) := fun q cl pm cv ctv us hl => match us, hl with
  | [_], _ => rfl
/-- a def of the text whose code object is at c -/
structure FunC (K : PySem.W.Frag) (x qual : Str) (st : Stmt) (f : Addr) (fd : FuncData) (c : Addr) : Prop where
  ex : ∃ (oc : Value) (od : Option Addr) (kV doc pm : Value) (an : Option Addr) (ct : Value) (osl : Array (Option Value)),
    fd = PySem.W.fnOf x qual (defArgs st) (defBody st) (defScope st) .none kV doc pm an (.ref c) ct ∧ K.lookup f = some ⟨oc, od, .func fd, osl⟩ ∧ PySem.W.codeIn K (.ref c) qual = true
theorem FunC.ok {P : Program} {w : World} {K : PySem.W.Frag} {mg : Str → Option Value} {base : Heap} {x qual : Str} {st : Stmt} {f c : Addr} {fd : FuncData} {N ps : List Str} {k : Nat} {sp : Sp} (F : FunC K x qual st f fd c) (S : FnScope N ps (defScope st)) (len : ∀ vs H Q E, sp vs H Q E → vs.length = ps.length)
    (hbody : ∀ (A : Around) (outer : List Env) (s : Shared) (H : Hp) (vs : List V) (Q : VK) (E : XK), Room k (A.deeper (envOfC qual (defScope st) s.heap.objs.size f (.ref c))) → sp vs H Q E →
      ∃ t, PSs (cxOf CX0 P w K mg base N qual (defScope st) f (.ref c) A outer s H E).nox (defBody st) t ∧ t { nx := fun _ H' => Q .non H', rt := Q } (start N vs) H) : FnOk P w K mg base CX0 (k + 1) f fd ps sp := by
  obtain ⟨oc, od, kV, doc, pm, an, ct, osl, rfl, lk, hcd⟩ := F.ex
  refine fn_of lk hcd S len fun A outer s H vs Q E hr hsp => ?_
  obtain ⟨t, h, q⟩ := hbody A outer s H vs Q E hr hsp
  exact ⟨t, h.nox, q⟩
def spNF (K : PySem.W.Frag) (Pt : Addr) : Sp := fun vs H Q _ => ∃ (aF aO aN : Addr) (fs : List Str) (ds : List Addr) (os : List Ob) (l : Ob), vs = [.ref aF, .ref aO, .ref aN] ∧ Tabs (TB1 Pt) H ∧ SqT K H aF (fs.map V.str) ∧ fs.length ≤ 1000 ∧ fs.Nodup ∧ ObjsAt H aO ds fs os.length os ∧ os.length ≤ 1000 ∧
  H aN = some (.dK (dk l)) ∧ (l.map (·.1)).Nodup ∧ l.length < 64 ∧ okl os.length l ∧
  ∀ (t rD nD : Addr) (ds' : List Addr) (ys : List Str) (j : Nat) (ord : List Nat) (H' : Hp), SamN Pt H H' → H t = none → H rD = none → H nD = none → (∀ d ∈ ds', H d = none) → H' t = some (.tup [.ref aF, .ref rD, .ref nD]) → ys.Perm (l.map (·.1)) → sortedS ys = true → lvs os fs (ys.map (nmv l)) j = (ord, []) → ord.Nodup → (∀ k ∈ ord, k < os.length) →
    ObjsAt H' rD ds' fs ord.length (ord.map (row os fs ord)) → H' nD = some (.dK (dk (renL ord l))) → Q (.ref t) H'
section
variable {P : Program} {w : World} {K : PySem.W.Frag} {mg : Str → Option Value} {base : Heap}
theorem sqt_ext {H H1 : Hp} {a : Addr} {xs : List V} (e : ExtN H H1) (h : SqT K H a xs) : SqT K H1 a xs := by
  rcases h with (h | ⟨o, h⟩) | h
  · exact .inl (.inl (e _ _ h fun ps z => nomatch z))
  · exact .inl (.inr ⟨o, e _ _ h fun ps z => nomatch z⟩)
  · exact .inr h
theorem objs_ext {H H1 : Hp} {aO : Addr} {ds : List Addr} {fs : List Str} {n : Nat} {os : List Ob} (e : ExtN H H1) (O : ObjsAt H aO ds fs n os) : ObjsAt H1 aO ds fs n os := ⟨e _ _ O.ls (fun ps z => (nomatch z)), O.len, O.nd, fun i d o h1 h2 => e _ _ (O.at' i d o h1 h2) (fun ps z => (nomatch z)), O.ks, O.ok⟩
set_option maxHeartbeats 8000000 in
theorem ok_normal_form {f fN Cn Pt : Addr} {fd fdN : FuncData} (F : FunC K "normal_form" "normal_form" S_normal_form f fd Cn) (TB : TabB base mg Cn Pt) (B : Bl mg) (d_new_numbers : Df K mg "new_numbers" S_new_numbers fN fdN P_new_numbers) : FnOk P w K mg base CX0 3 f fd P_normal_form (spNF K Pt) := by
  refine F.ok sc_normal_form (fun vs H Q E h => ?_) (fun A outer s H vs Q E hr h => ?_)
  · obtain ⟨aF, aO, aN, fs, ds, os, l, rfl, _⟩ := h
    rfl
  · obtain ⟨aF, aO, aN, fs, ds, os, l, rfl, hT, hF0, hfs, fnd, O0, hos, hN0, nd, h64, hl, k0⟩ := h
    have hu := hu_of hr
    have hr2 : Room 2 _ := hr
    refine ⟨_, (pss_cons (ps_set (i := 3) sc_normal_form.nd rfl (by first | exact Or.inl rfl | exact Or.inr rfl) (pe_lam2 (T := TB1 Pt) (Ng := N_new_numbers) (N := N_lam) (y := "fresh") (fr := ["objects", "fields"]) (js := [1, 0]) (k := 1) (params := lamArgs L_nf) (body := lamBody L_nf) (scope := lamScope L_nf) (lpos := lamPos L_nf) (TT := fun c1 fl ws v H1 Q => spNL K (nfL c1) fl ws v H1 Q) rfl d_new_numbers.g d_new_numbers.F d_new_numbers.b sc_new_numbers TB rfl (List.mem_singleton.mpr rfl) (fun p hp _ => congrArg Prod.snd (List.mem_singleton.mp hp)) hr2 rfl (ndef_free nf_caps) sc_lam (ndef_fr nf_caps) rfl bind_lam (pv 2) (fun cdv fl c1 s1 H1 v ws Q hr1 L h => ok_new_numbers (P := P) (w := w) (K := K) (mg := mg) (base := base) B rfl L hr1 h)))
 (pss_cons (ps_lock (ps_setLc (i := 4) (own := [("old", 6)]) (g := gName 6) (tt := tYes) rfl sc_normal_form.nd rfl rfl (sw_true rfl rfl rfl (by decide +kernel)) (pi_keys (pv 3)) (blkOk_by (own := [("old", 6)]) (N := N_normal_form) (sc := defScope S_normal_form) (by decide +kernel)) (fun _ _ _ _ _ => (pg_name (i := 6) sc_normal_form.nd rfl (by first | exact Or.inl rfl | exact Or.inr rfl))) (fun _ _ _ _ _ => pts_nil) (fun _ _ _ _ _ => (pe_dc (own := [("field", 5)]) (g := gName 5) (tt := tYes) rfl sc_normal_form.nd (pi_tupK (K := K) rfl (pv 0)) (blkOk_by (own := [("field", 5)]) (N := N_normal_form) (sc := { kind := .function, names := [(".0", .local), ("old", .cell), ("fields", .cell), ("numbers", .cell), ("objects", .cell)], isGenerator := false, isCoroutine := false }) (by decide +kernel)) (fun _ _ _ _ _ => pg_name (i := 5) sc_normal_form.nd rfl (by first | exact Or.inl rfl | exact Or.inr rfl)) (fun _ _ _ _ _ => pts_nil) (fun _ _ _ _ _ => (pv 5)) (fun _ _ _ _ _ => (pe_dget1N hu (pv 3) (pe_dget hu (pe_ix (ix_listK (K := K) rfl) (pv 1) (pv 6) (fun _ _ => rfl)) (pv 5) (fun _ _ => rfl)) ⟨rfl, rfl, rfl, rfl⟩))))))
 (pss_one (ps_ret (pe_tup (pa_cons (pv 0) (pa_cons (pv 4) (pa_cons (pe_lock (pe_dc (own := [("name", 7)]) (g := gName 7) (tt := tYes) rfl sc_normal_form.nd (pi_keys (pv 2)) (blkOk_by (own := [("name", 7)]) (N := N_normal_form) (sc := defScope S_normal_form) (by decide +kernel)) (fun _ _ _ _ _ => pg_name (i := 7) sc_normal_form.nd rfl (by first | exact Or.inl rfl | exact Or.inr rfl)) (fun _ _ _ _ _ => pts_nil) (fun _ _ _ _ _ => (pv 7)) (fun _ _ _ _ _ => (pe_dget1N hu (pv 3) (pe_dget hu (pv 2) (pv 7) (fun _ _ => rfl)) ⟨rfl, rfl, rfl, rfl⟩)))) pa_nil)))))))), ?_⟩
    refine ⟨_, rfl, hT, fun fl c1 Hm eN eT TM nfl hco => ?_⟩
    have hF := sqt_ext eN hF0
    have O := objs_ext eN O0
    have hN : Hm aN = some (.dK (dk l)) := eN _ _ hN0 fun ps z => nomatch z
    have SN := SamN.of eN eT TM
    have k : ∀ (t rD nD : Addr) (ds' : List Addr) (ys : List Str) (j : Nat) (ord : List Nat) (H' : Hp), Same Hm H' → Hm t = none → Hm rD = none → Hm nD = none → (∀ d ∈ ds', Hm d = none) → H' t = some (.tup [.ref aF, .ref rD, .ref nD]) → ys.Perm (l.map (·.1)) → sortedS ys = true → lvs os fs (ys.map (nmv l)) j = (ord, []) → ord.Nodup → (∀ k ∈ ord, k < os.length) →
      ObjsAt H' rD ds' fs ord.length (ord.map (row os fs ord)) → H' nD = some (.dK (dk (renL ord l))) → Q (.ref t) H' := fun t rD nD ds' ys j ord H' s1 e1 e2 e3 e4 => k0 t rD nD ds' ys j ord H' (SN.same s1) (SN.f _ e1) (SN.f _ e2) (SN.f _ e3) fun d m => SN.f _ (e4 d m)
    refine ⟨aF, aO, aN, fs, ds, os, l, rfl, rfl, hco, hF, hfs, O, hos, hN, nd, h64, hl, fun d ys j ord H1 S1 hd hd1 perm srt hlv hnd hlt => ?_⟩
    have hol := nd_len hnd hlt
    -- renumbered
    refine ⟨d, .dK (nk ord), hd1, trivial, fun od => ?_⟩
    refine ⟨_, rfl, d, od, rfl, .inl ⟨nk ord, upd_same, fun D hD => ?_⟩⟩
    have aNd : aN ≠ d := ne_of_none hN hd
    have stay : ∀ {b : Addr} {o : HO}, Hm b = some o → (upd H1 d (.frz od (.dK (nk ord)))) b = some o := fun {b o} e => by
      rw [upd_ne (ne_of_none e hd)]
      exact S1 _ _ e
    have sL : Same Hm (upd H1 d (.frz od (.dK (nk ord)))) := fun b o e => stay e
    refine lc_keys (d := d) (o := od) (kvs := nk ord) (fun i H2 => ∃ ds' : List Addr, Same (upd H1 d (.frz od (.dK (nk ord)))) H2 ∧ H2 D = some (.lst (ds'.map V.ref)) ∧ ds'.length = i ∧ ds'.Nodup ∧ (∀ x ∈ ds', (upd H1 d (.frz od (.dK (nk ord)))) x = none ∧ x ≠ D) ∧
      (∀ (i' : Nat) (d' : Addr) (k : Nat), ds'[i']? = some d' → ord[i']? = some k → H2 d' = some (.dK (dk (row os fs ord k))))) ?_ ?_ ?_ ?_
    · exact ⟨[], same_new hD, upd_same, rfl, List.nodup_nil, fun x hx => (nomatch hx), fun i' d' k h => by simp at h⟩
    · rintro i H2 ⟨ds', s2, _⟩
      exact s2 _ _ upd_same
    · rintro i kk vv H2 hkk ⟨ds', s2, hD2, hlen, dnd, dfr, dat⟩
      obtain ⟨k0, hk0, rfl⟩ := nk_get hkk
      have hi : i < ord.length := (List.getElem?_eq_some_iff.mp hk0).1
      refine ⟨rfl, yes_of ?_⟩
      have hF2 : SqT K H2 aF (fs.map V.str) := sqt_same (fun b o e => s2 _ _ (sL _ _ e)) hF
      refine ⟨_, rfl, aF, rfl, ⟨_, hF2⟩, fun E hE => ?_⟩
      have hEL := s2.free hE
      have DE : D ≠ E := ne_of_none hD2 hE
      refine dc_tup (xs := fs.map V.str) (fun j H3 => Same H2 H3 ∧ H3 E = some (.dK (dk ((row os fs ord k0).take j)))) ⟨same_new hE, upd_same⟩ (fun j H3 _ h => sqt_same h.1 hF2) ?_ ?_
      · rintro j x H3 hx ⟨s3, hE3⟩
        obtain ⟨f0, hf0, rfl⟩ := get_str hx
        have s03 : Same Hm H3 := fun b o e => s3 _ _ (s2 _ _ (sL _ _ e))
        have O3 := O.same s03
        have hd3 : H3 d = some (.frz od (.dK (nk ord))) := s3 _ _ (s2 _ _ upd_same)
        have hk0' : k0 < os.length := hlt k0 (List.mem_of_getElem? hk0)
        have hkd : k0 < ds.length := by rw [O.len]; exact hk0'
        have ho : os[k0]? = some os[k0] := List.getElem?_eq_getElem hk0'
        have hdk : ds[k0]? = some ds[k0] := List.getElem?_eq_getElem hkd
        have hf1 : f0 ∈ (os[k0]).map (·.1) := (O.ks _ (List.getElem_mem hk0')).mem_iff.mpr (List.mem_of_getElem? hf0)
        refine ⟨rfl, yes_of ⟨_, rfl, _, rfl, d, rfl, .inl ⟨_, .inr ⟨od, hd3⟩⟩, _, rfl, _, rfl, aO, _, _, _, rfl, rfl, SqL.of O3.ls, atI_nat (j := k0) (by rw [List.getElem?_map, hdk]; rfl), _, rfl, ds[k0], hv (fld os k0 f0), rfl, dget_dk (k := (Sum.inr f0 : Key)) (O3.at' k0 _ _ hdk ho) (fld_val ho hf1), ?_⟩⟩
        refine (get_ren (a := d) (ord := ord) (H := H3) (fld os k0 f0) (.inr ⟨od, hd3⟩)).elim (fun ⟨e1, e2⟩ => .inr ⟨e1, nk ord, .inr ⟨od, hd3⟩, ?_⟩) (fun ⟨ov, g, e2⟩ => .inl ⟨ov, g, ?_⟩)
        all_goals refine ⟨_, (Sum.inr f0 : Key), rfl, hE3, ?_, fun b o e => ?_, ?_⟩
        any_goals
          rw [upd_same, row_take hf0]
          refine congrArg (fun z => some (HO.dK z)) (put_ren (by first | exact e2.symm | exact e2) ?_)
          rw [List.map_take, row_fst]
          exact nodup_fresh fnd hf0
        any_goals
          rw [upd_ne (ne_of_none e hE)]
          exact s3 _ _ e
        all_goals
          rw [dk_len, List.length_take]
          refine Nat.lt_of_le_of_lt (Nat.min_le_right _ _) ?_
          rw [← List.length_map (f := (·.1)), row_fst]
          exact Nat.lt_of_le_of_lt hfs (by decide)
      · rintro H3 ⟨s3, hE3⟩
        have hfull : (row os fs ord k0).take (fs.map V.str).length = row os fs ord k0 := by
          rw [List.length_map]
          refine List.take_of_length_le ?_
          rw [← List.length_map (f := (·.1)), row_fst]
          exact Nat.le_refl _
        rw [hfull] at hE3
        refine ⟨_, s3 _ _ hD2, by rw [List.length_map, hlen]; exact small1000 (by omega), ds' ++ [E], ?_, ?_, ?_, ?_, ?_, ?_⟩
        · intro b o e
          rw [upd_ne (ne_of_none e hD)]
          exact s3 _ _ (s2 _ _ e)
        · rw [upd_same, List.map_append]; rfl
        · rw [List.length_append, hlen]; rfl
        · refine List.nodup_append.mpr ⟨dnd, by simp, fun x hx y hy => ?_⟩
          rw [List.mem_singleton.mp hy]
          intro e
          obtain ⟨i', hi', e'⟩ := List.getElem_of_mem hx
          have hi2 : i' < ord.length := by omega
          have := dat i' x ord[i'] (by rw [List.getElem?_eq_getElem hi', e']) (List.getElem?_eq_getElem hi2)
          rw [e, hE] at this
          cases this
        · intro x hx
          rcases List.mem_append.mp hx with hx | hx
          · exact dfr x hx
          · rw [List.mem_singleton.mp hx]; exact ⟨hEL, DE.symm⟩
        · intro i' d' k g1 g2
          rcases Nat.lt_or_ge i' ds'.length with hj | hj
          · rw [List.getElem?_append_left hj] at g1
            rw [upd_ne (dfr d' (List.mem_of_getElem? g1)).2]
            exact s3 _ _ (dat i' d' k g1 g2)
          · rw [List.getElem?_append_right hj] at g1
            have hz : i' = ds'.length := by
              have := (List.getElem?_eq_some_iff.mp g1).1
              simp only [List.length_singleton] at this
              omega
            subst hz
            rw [Nat.sub_self] at g1
            have e1 : E = d' := Option.some.inj g1
            subst e1
            rw [hlen, hk0] at g2
            have e2 : k0 = k := Option.some.inj g2
            subst e2
            rw [upd_ne DE.symm]; exact hE3
    · rintro H2 ⟨ds', s2, hD2, hlen, dnd, dfr, dat⟩
      rw [nk_len] at hlen
      refine ⟨s2 _ _ upd_same, ?_⟩
      have dD : D ≠ d := fun e => by rw [e, upd_same] at hD; cases hD
      have S2 : Same H1 (upd H2 d (.dK (nk ord))) := same_unlock hd1 s2
      have hD3 : (upd H2 d (.dK (nk ord))) D = some (.lst (ds'.map V.ref)) := (upd_ne dD).trans hD2
      have hN3 : (upd H2 d (.dK (nk ord))) aN = some (.dK (dk l)) := S2 _ _ (S1 _ _ hN)
      have hd3 : (upd H2 d (.dK (nk ord))) d = some (.dK (nk ord)) := upd_same
      have at3 : ∀ (i' : Nat) (d' : Addr) (k : Nat), ds'[i']? = some d' → ord[i']? = some k → (upd H2 d (.dK (nk ord))) d' = some (.dK (dk (row os fs ord k))) := fun i' d' k g1 g2 => by
        have n := (dfr d' (List.mem_of_getElem? g1)).1
        rw [upd_ne (fun e => by rw [e, upd_same] at n; cases n)]
        exact dat i' d' k g1 g2
      have fr0 : ∀ {x : Addr}, (upd H1 d (.frz od (.dK (nk ord)))) x = none → Hm x = none := fun {x} n => by
        have hx : x ≠ d := fun e => by rw [e, upd_same] at n; cases n
        rw [upd_ne hx] at n
        exact S1.free n
      generalize upd H2 d (.dK (nk ord)) = H3 at *
      -- the tuple
      refine ⟨_, rfl, _, rfl, aN, .dK (dk l), hN3, trivial, fun od2 => ⟨_, rfl, aN, od2, rfl, .inl ⟨dk l, upd_same, fun E hE => ?_⟩⟩⟩
      have hNE : aN ≠ E := fun e => by rw [← e, upd_same] at hE; cases hE
      have hE3 : H3 E = none := by rw [upd_ne hNE.symm] at hE; exact hE
      have dN : d ≠ aN := aNd.symm
      refine dc_keys (d := aN) (o := od2) (kws := dk l) (fun i H4 => Same (upd H3 aN (.frz od2 (.dK (dk l)))) H4 ∧ H4 E = some (.dK (dk ((renL ord l).take i)))) ⟨same_new hE, upd_same⟩ (fun i H4 h => h.1 _ _ upd_same) ?_ ?_
      · rintro i kk vv H4 hkk ⟨s4, hE4⟩
        obtain ⟨n0, v0, hn0, rfl, rfl⟩ := dk_get hkk
        have hd4 : H4 d = some (.dK (nk ord)) := s4 _ _ ((upd_ne dN).trans hd3)
        have hN4 : H4 aN = some (.frz od2 (.dK (dk l))) := s4 _ _ upd_same
        have hv0 : nmv l n0 = v0 := nmv_at nd hn0
        have hm : n0 ∈ l.map (·.1) := List.mem_map.mpr ⟨_, List.mem_of_getElem? hn0, rfl⟩
        refine ⟨rfl, yes_of ⟨_, rfl, _, rfl, d, rfl, .inl ⟨_, .inl hd4⟩, _, rfl, _, rfl, aN, hv v0, rfl, .inl ⟨dk l, Sum.inr n0, .inr ⟨od2, hN4⟩, rfl, by rw [nmv_val hm, hv0]⟩, ?_⟩⟩
        refine (get_ren (a := d) (ord := ord) (H := H4) v0 (.inl hd4)).elim (fun ⟨e1, e2⟩ => .inr ⟨e1, nk ord, .inl hd4, ?_⟩) (fun ⟨ov, g, e2⟩ => .inl ⟨ov, g, ?_⟩)
        all_goals refine ⟨_, (Sum.inr n0 : Key), rfl, hE4, ?_, fun b o e => ?_, ?_⟩
        any_goals
          rw [upd_same, renL_take hn0]
          refine congrArg (fun z => some (HO.dK z)) (put_ren (by first | exact e2.symm | exact e2) ?_)
          rw [List.map_take, renL_fst]
          exact nodup_fresh nd (by rw [List.getElem?_map, hn0]; rfl)
        any_goals
          rw [upd_ne (ne_of_none e hE)]
          exact s4 _ _ e
        all_goals
          rw [dk_len, List.length_take]
          refine Nat.lt_of_le_of_lt (Nat.min_le_right _ _) ?_
          unfold renL
          rw [List.length_map]
          exact small1000 (by omega)
      · rintro H4 ⟨s4, hE4⟩
        have hfull : (renL ord l).take (dk l).length = renL ord l := by
          rw [dk_len]
          refine List.take_of_length_le ?_
          unfold renL
          rw [List.length_map]
          exact Nat.le_refl _
        rw [hfull] at hE4
        refine ⟨s4 _ _ upd_same, ?_⟩
        have S4 : Same H3 (upd H4 aN (.dK (dk l))) := same_unlock hN3 s4
        refine ⟨(by show 3 ≤ sizeLine; decide), fun t ht => ?_⟩
        have hE5 : (upd H4 aN (.dK (dk l))) E = some (.dK (dk (renL ord l))) := (upd_ne hNE.symm).trans hE4
        have S5 : Same (upd H4 aN (.dK (dk l))) (upd (upd H4 aN (.dK (dk l))) t (.tup [.ref aF, .ref D, .ref E])) := same_new ht
        have hts : Hm t = none := S1.free (S2.free (S4.free ht))
        refine k t D E ds' ys j ord _ (fun b o e => S5 _ _ (S4 _ _ (S2 _ _ (S1 _ _ e)))) hts (fr0 hD) (S1.free (S2.free hE3)) (fun x hx => fr0 (dfr x hx).1) upd_same perm srt hlv hnd hlt ?_ (S5 _ _ hE5)
        refine ⟨S5 _ _ (S4 _ _ hD3), by rw [hlen, List.length_map], dnd, fun i' d' o' g1 g2 => ?_, fun o ho => ?_, fun o ho => ?_⟩
        · rw [List.getElem?_map] at g2
          cases e : ord[i']? with
          | none => rw [e] at g2; cases g2
          | some k0 =>
            rw [e] at g2
            have e2 : row os fs ord k0 = o' := Option.some.inj g2
            rw [← e2]
            exact S5 _ _ (S4 _ _ (at3 i' d' k0 g1 e))
        · obtain ⟨k0, _, rfl⟩ := List.mem_map.mp ho
          rw [row_fst]
        · obtain ⟨k0, _, rfl⟩ := List.mem_map.mp ho
          intro p hp2
          obtain ⟨f0, _, rfl⟩ := List.mem_map.mp hp2
          exact ren_ok ..
end
end TW
set_option Elab.async false
set_option linter.all false
set_option maxRecDepth 100000
namespace TW
open PySem PySem.Spec PyProof.Rows L2 TL
def heldb (x : V) (n : Nat) : Bool := decide (x = .non) || btw x 0 ((n : Int) - 1)
theorem held_hv {v : Option Nat} {n : Nat} (h : okv n v) : heldb (hv v) n = true := by
  cases v with
  | none => rfl
  | some i =>
    have h' : i < n := h
    show (decide (V.int (i : Int) = .non) || (decide (0 ≤ (i : Int)) && decide ((i : Int) ≤ (n : Int) - 1))) = true
    rw [decide_eq_true (show (0 : Int) ≤ (i : Int) by omega), decide_eq_true (show (i : Int) ≤ (n : Int) - 1 by omega)]
    simp
theorem kd_hv {K : PySem.W.Frag} {H : Hp} (v : Option Nat) : ∃ T, Kd K H (hv v) T := by
  cases v with
  | none => exact ⟨"NoneType", by decide, .base .non, fun z e => nomatch e⟩
  | some i => exact ⟨"int", by decide, .base (.int _), fun z e => nomatch e⟩
def spHeld (K : PySem.W.Frag) : Sp := fun vs H Q _ => ∃ x T n, vs = [x, .int ((n : Nat) : Int)] ∧ Kd K H x T ∧ Q (.bl (heldb x n)) H
/-- an object that is one -/
def spObj (K : PySem.W.Frag) : Sp := fun vs H Q _ => ∃ (d a : Addr) (o : Ob) (n : Nat) (fs : List Str), vs = [.ref d, .ref a, .int (n : Int)] ∧ H d = some (.dK (dk o)) ∧ (SqL K H a (fs.map V.str) ∨ SqT K H a (fs.map V.str)) ∧ (o.map (·.1)).Perm fs ∧ o.length ≤ 1000 ∧ okl n o ∧ ∀ H', Same H H' → Q (.bl true) H'
def spPath (K : PySem.W.Frag) : Sp := fun vs H Q _ => ∃ (x : V) (T : String) (b : Addr) (ws : List Str), vs = [x, .ref b] ∧ Kd K H x T ∧ SqT K H b (ws.map V.str) ∧
  ((T ≠ "list" ∧ T ≠ "tuple" ∧ ∀ H', Same H H' → Q (.bl false) H') ∨
    ((T = "list" ∨ T = "tuple") ∧ ∃ a xs, x = .ref a ∧ SeqK K H a xs ∧ ∀ H', Same H H' → Q (.bl (xs.all fun y => oneOf y ws)) H'))
abbrev S_is_held : Stmt := topS 23
abbrev N_is_held : List Str := ["value", "many"]
abbrev P_is_held : List Str := ["value", "many"]
theorem sc_is_held : FnScope N_is_held P_is_held (defScope S_is_held) := ⟨rfl, rfl, rfl, by decide +kernel, rfl, by decide +kernel, by decide +kernel⟩
abbrev S_is_object : Stmt := topS 22
abbrev N_is_object : List Str := ["value", "fields", "many", "field"]
abbrev P_is_object : List Str := ["value", "fields", "many"]
theorem sc_is_object : FnScope N_is_object P_is_object (defScope S_is_object) := ⟨rfl, rfl, rfl, by decide +kernel, rfl, by decide +kernel, by decide +kernel⟩
abbrev S_is_path : Stmt := topS 24
abbrev N_is_path : List Str := ["value", "fields", "step"]
abbrev P_is_path : List Str := ["value", "fields"]
theorem sc_is_path : FnScope N_is_path P_is_path (defScope S_is_path) := ⟨rfl, rfl, rfl, by decide +kernel, rfl, by decide +kernel, by decide +kernel⟩
section
variable {P : Program} {w : World} {K : PySem.W.Frag} {mg : Str → Option Value} {base : Heap}
set_option maxHeartbeats 4000000 in
theorem ok_is_held {f fB : Addr} {fd fdB : FuncData} (F : Fun K "is_held" "is_held" S_is_held f fd) (d_is_between : Df K mg "is_between" S_is_between fB fdB P_is_between) (G_is_between : FnOk P w K mg base CX0 2 fB fdB P_is_between (spBtw K)) : FnOk P w K mg base CX0 3 f fd P_is_held (spHeld K) := by
  refine F.ok sc_is_held (fun vs H Q E h => ?_) (fun cdv A outer s H vs Q E hr h => ?_)
  · obtain ⟨x, T, n, rfl, _⟩ := h
    rfl
  · obtain ⟨x, T, n, rfl, hk, k⟩ := h
    have hr_is_between : Room 2 _ := hr.mono (Nat.le_refl 2)
    refine ⟨_, (pss_one (ps_ret (pe_or (pe_cmpR op_isN (pv 0) pe_non (nomark _)) (pe_one (pe_call G_is_between hr_is_between rfl d_is_between.g d_is_between.F.kp d_is_between.b .nil pass0 (pa_cons (pv 0) (pa_cons pe_int (pa_cons (pe_op op_sub (pv 1) pe_int) pa_nil)))))))), ?_⟩
    refine ⟨_, rfl, rfl, _, rfl, ?_⟩
    refine ite_dec (fun hb => ?_) (fun hb => ?_)
    · have e : heldb x n = true := by unfold heldb; rw [hb]; rfl
      rw [e] at k; exact k
    · have e : heldb x n = btw x 0 ((n : Int) - 1) := by unfold heldb; rw [hb]; rfl
      rw [e] at k
      exact ⟨_, rfl, _, rfl, _, _, rfl, rfl, x, T, 0, (n : Int) - 1, rfl, hk, k⟩
set_option maxHeartbeats 4000000 in
theorem ok_is_object {f fB : Addr} {fd fdB : FuncData} (F : Fun K "is_object" "is_object" S_is_object f fd) (B : Bl mg) (d_is_held : Df K mg "is_held" S_is_held fB fdB P_is_held) (G_is_held : FnOk P w K mg base CX0 3 fB fdB P_is_held (spHeld K)) : FnOk P w K mg base CX0 4 f fd P_is_object (spObj K) := by
  refine F.ok sc_is_object (fun vs H Q E h => ?_) (fun cdv A outer s H vs Q E hr h => ?_)
  · obtain ⟨d, a, o, n, fs, rfl, _⟩ := h
    rfl
  · obtain ⟨d, a, o, n, fs, rfl, hd, hA, pm, hol, hok, k⟩ := h
    have hr_is_held : Room 3 _ := hr.mono (Nat.le_refl 3)
    have hu := hu_of hr
    refine ⟨_, (pss_cons (ps_if (PW.pt (pw_or (pt_not (pt_val (pe_callB call_isi (by rfl) B.m_isinstance (by decide +kernel) (pa_cons (pv 0) (pa_cons (pe_bltn (v := .ty "dict") (by rfl) B.m_dict (by decide +kernel) rfl) pa_nil))))) (pw_or1 (pt_cmpR op_ne (pe_callB call_lenD (by rfl) B.m_len PySem.boot_len (pa_cons (pv 0) pa_nil)) (pe_callB call_len_seq (by rfl) B.m_len PySem.boot_len (pa_cons (pv 1) pa_nil)) (nomark _))))) (pss_one (ps_ret pe_bl)) pss_nil)
 (pss_one (ps_ret (pe_callB (cr_all rfl) (by rfl) B.m_all (by decide +kernel) (pa_cons (pe_lc (own := [("field", 3)]) (g := gName 3) (tt := tYes) rfl sc_is_object.nd (pi_seqv 1) (blkOk_by (own := [("field", 3)]) (N := N_is_object) (sc := defScope S_is_object) (by decide +kernel)) (fun _ _ _ _ _ => (pg_name (i := 3) sc_is_object.nd rfl (by first | exact Or.inl rfl | exact Or.inr rfl))) (fun _ _ _ _ _ => pts_nil) (fun _ _ _ _ _ => (pe_and (pe_cmp (pc_din hu (pv 3) (pv 0)) rfl) (pe_one (pe_call G_is_held hr_is_held rfl d_is_held.g d_is_held.F.kp d_is_held.b .nil pass0 (pa_cons (pe_dget hu (pv 0) (pv 3) (fun _ _ => rfl)) (pa_cons (pv 2) pa_nil))))))) pa_nil))))), ?_⟩
    refine ⟨_, rfl, _, _, _, _, _, rfl, .ty "dict", .base (.dK hd), kit7_dict (by decide), _, rfl, ?_⟩
    refine iteF ?_
    refine ⟨_, rfl, d, _, rfl, hd, _, rfl, a, _, rfl, hA, rfl, _, rfl, ?_⟩
    have e : (V.int ((dk o).length : Int)) = V.int ((fs.map V.str).length : Int) := by rw [dk_len, List.length_map, ← pm.length_eq, List.length_map]
    refine iteNS e ?_
    refine ⟨a, rfl, seq_go hA (fun hS => ?_) (fun hS => ?_)⟩
    all_goals
      intro D hD
      first
        | refine lc_list (xs := fs.map V.str) (fun i H2 => Same H H2 ∧ H2 D = some (.lst ((List.replicate i true).map V.bl))) ?_ ?_ ?_ ?_
        | refine lc_tup (xs := fs.map V.str) (fun i H2 => Same H H2 ∧ H2 D = some (.lst ((List.replicate i true).map V.bl))) ?_ ?_ ?_ ?_
      · exact ⟨same_new hD, upd_same⟩
      · rintro i H2 hi2 ⟨s2, h2D⟩
        first
          | exact s2.seq hS
          | exact sqt_same s2 hS
      · rintro i x H2 hx ⟨s2, h2D⟩
        obtain ⟨z, hz, rfl⟩ := get_str hx
        have hm : z ∈ o.map (·.1) := pm.mem_iff.mpr (List.mem_of_getElem? hz)
        have hi : i < o.length := by
          have := (List.getElem?_eq_some_iff.mp hz).1
          have l2 := pm.length_eq
          rw [List.length_map] at l2
          omega
        obtain ⟨T, hk⟩ := kd_hv (K := K) (H := H2) (nmv o z)
        refine ⟨rfl, yes_of ⟨_, rfl, _, rfl, d, _, rfl, DGet.k (k := (Sum.inr z : Key)) (s2 _ _ hd), _, rfl, ?_⟩⟩
        rw [nmv_val hm]
        refine iteT ?_
        refine ⟨_, rfl, _, rfl, d, hv (nmv o z), rfl, dget_dk (k := (Sum.inr z : Key)) (s2 _ _ hd) (nmv_val hm), _, rfl, _, T, n, rfl, hk, _, h2D, by rw [List.length_map, List.length_replicate]; exact small1000 (by omega), ?_, ?_⟩
        · intro b o' e
          rw [upd_ne (ne_of_none e hD)]
          exact s2 _ _ e
        · rw [upd_same, held_hv (okv_look hok z), List.replicate_succ', List.map_append]
          rfl
      · rintro H2 ⟨s2, h2D⟩
        refine ⟨D, _, rfl, SqL.of h2D, ?_⟩
        have e2 : (List.replicate (fs.map V.str).length true).all id = true := by simp
        rw [e2]
        exact k H2 s2
set_option maxHeartbeats 4000000 in
theorem ok_is_path {f fB : Addr} {fd fdB : FuncData} (F : Fun K "is_path" "is_path" S_is_path f fd) (B : Bl mg) (d_is_one_of : Df K mg "is_one_of" S_is_one_of fB fdB P_is_one_of) (G_is_one_of : FnOk P w K mg base CX0 1 fB fdB P_is_one_of (spOneOf K)) : FnOk P w K mg base CX0 2 f fd P_is_path (spPath K) := by
  refine F.ok sc_is_path (fun vs H Q E h => ?_) (fun cdv A outer s H vs Q E hr h => ?_)
  · obtain ⟨x, T, b, ws, rfl, _⟩ := h
    rfl
  · obtain ⟨x, T, b, ws, rfl, hk, hB, k⟩ := h
    have hr_is_one_of : Room 1 _ := hr.mono (Nat.le_refl 1)
    refine ⟨_, (pss_cons (ps_if (pt_not (pt_val (pe_callB call_isiT (by rfl) B.m_isinstance (by decide +kernel) (pa_cons (pv 0) (pa_cons (pe_tup (pa_cons (pe_bltn (v := .ty "list") (by rfl) B.m_list (by decide +kernel) rfl) (pa_cons (pe_bltn (v := .ty "tuple") (by rfl) B.m_tuple (by decide +kernel) rfl) pa_nil))) pa_nil))))) (pss_one (ps_ret pe_bl)) pss_nil)
 (pss_one (ps_ret (pe_callB (cr_all rfl) (by rfl) B.m_all (by decide +kernel) (pa_cons (pe_lc (own := [("step", 2)]) (g := gName 2) (tt := tYes) rfl sc_is_path.nd (pi_seqv 0) (blkOk_by (own := [("step", 2)]) (N := N_is_path) (sc := defScope S_is_path) (by decide +kernel)) (fun _ _ _ _ _ => (pg_name (i := 2) sc_is_path.nd rfl (by first | exact Or.inl rfl | exact Or.inr rfl))) (fun _ _ _ _ _ => pts_nil) (fun _ _ _ _ _ => (pe_call G_is_one_of hr_is_one_of rfl d_is_one_of.g d_is_one_of.F.kp d_is_one_of.b .nil pass0 (pa_cons (pv 2) (pa_cons (pv 1) pa_nil))))) pa_nil))))), ?_⟩
    rcases k with ⟨n1, n2, k⟩ | ⟨hT, a, xs, rfl, S, k⟩
    · refine ⟨_, rfl, (by show 2 ≤ sizeLine; decide), fun t ht => ⟨_, t, _, _, [.type "list", .type "tuple"], _, rfl, upd_same, .cons (.ty "list") (.cons (.ty "tuple") .nil), (hk.same (same_new ht)).t, kit7_seq hk.m, _, rfl, ?_⟩⟩
      have e : (T == "list" || T == "tuple") = false := by simp [n1, n2]
      rw [e]
      exact k _ (same_new ht)
    · refine ⟨_, rfl, (by show 2 ≤ sizeLine; decide), fun t ht => ⟨_, t, _, _, [.type "list", .type "tuple"], _, rfl, upd_same, .cons (.ty "list") (.cons (.ty "tuple") .nil), (hk.same (same_new ht)).t, kit7_seq hk.m, _, rfl, ?_⟩⟩
      have s1 := same_new (H := H) (o := HO.tup [V.ty "list", V.ty "tuple"]) ht
      have S1 := S.same s1
      have e : (T == "list" || T == "tuple") = true := kd_list (K := K) (H := H) (a := a) hT
      rw [e]
      refine iteF ?_
      refine ⟨a, rfl, seq_go S1.at' (fun hS => ?_) (fun hS => ?_)⟩
      all_goals
        intro D hD
        first
          | refine lc_list (xs := xs) (fun i H2 => Same (upd H t (.tup [V.ty "list", V.ty "tuple"])) H2 ∧ H2 D = some (.lst (((xs.take i).map fun y => oneOf y ws).map V.bl))) ?_ ?_ ?_ ?_
          | refine lc_tup (xs := xs) (fun i H2 => Same (upd H t (.tup [V.ty "list", V.ty "tuple"])) H2 ∧ H2 D = some (.lst (((xs.take i).map fun y => oneOf y ws).map V.bl))) ?_ ?_ ?_ ?_
        · exact ⟨same_new hD, upd_same⟩
        · rintro i H2 hi2 ⟨s2, h2D⟩
          first
            | exact s2.seq hS
            | exact sqt_same s2 hS
        · rintro i x H2 hx ⟨s2, h2D⟩
          obtain ⟨T2, hk2⟩ := S.ks x (List.mem_of_getElem? hx)
          have s02 := s1.trans s2
          refine ⟨rfl, yes_of ⟨_, rfl, _, rfl, x, T2, b, ws, rfl, hk2.same s02, .inr (.inr (sqt_same s02 hB)), _, h2D, ?_, ?_, ?_⟩⟩
          · rw [List.length_map, List.length_map, List.length_take]
            exact Nat.lt_of_le_of_lt (Nat.le_trans (Nat.min_le_right _ _) S.z) (by decide)
          · intro b' o' e
            rw [upd_ne (ne_of_none e hD)]
            exact s2 _ _ e
          · rw [upd_same, take_next' hx, List.map_append, List.map_append]
            rfl
        · rintro H2 ⟨s2, h2D⟩
          rw [List.take_length] at h2D
          refine ⟨D, _, rfl, SqL.of h2D, ?_⟩
          have e2 : (xs.map fun y => oneOf y ws).all id = xs.all fun y => oneOf y ws := by rw [List.all_map]; rfl
          rw [e2]
          exact k H2 (s1.trans s2)
end
end TW
set_option Elab.async false
set_option linter.all false
set_option maxRecDepth 100000
namespace TW
open PySem PySem.Spec PyProof.Rows L2 TL
theorem for_enum {K : PySem.W.Frag} {a : Addr} {xs : List V} {g : TG} {tb : TS} {D : Ends} {σ : St'} {H : Hp} (Pv : Nat → St' → Hp → Prop) (h0 : Pv 0 σ H) (hl : ∀ i σ H, Pv i σ H → SqL K H a xs)
    (hs : ∀ (i : Nat) (x : V) (T : Addr) (σ : St') (H : Hp), xs[i]? = some x → Pv i σ H → H T = none → g (.ref T) σ (upd H T (.tup [.int (i : Nat), x])) fun σ2 H2 => tb { D with nx := Pv (i + 1), ct := Pv (i + 1), bk := D.nx } σ2 H2) (hd : ∀ σ H, Pv xs.length σ H → D.nx σ H) :
    ∃ W : Nat → Nat → St' → Hp → Prop, (∃ m, W 0 m σ H) ∧ ∀ i m σ H, W i m σ H →
      ((Ite K a).stop i H ∧ D.nx σ H) ∨ ((Ite K a).go i H ∧ ∃ N : St' → Hp → Prop, (∀ σ' H', N σ' H' → ∃ m', m' < m ∧ W (i + 1) m' σ' H') ∧ ∀ v H', (Ite K a).yld i H v H' → g v σ H' fun σ2 H2 => tb { D with nx := N, ct := N, bk := D.nx } σ2 H2) := by
  refine ⟨fun i m σ H => m = xs.length - i ∧ i ≤ xs.length ∧ Pv i σ H, ⟨_, rfl, Nat.zero_le _, h0⟩, ?_⟩
  rintro i m σ H ⟨rfl, hi, p⟩
  have q := hl i σ H p
  by_cases lt : i < xs.length
  · refine .inr ⟨⟨xs, xs[i], q, List.getElem?_eq_getElem lt⟩, Pv (i + 1), fun σ' H' p' => ⟨xs.length - (i + 1), by omega, rfl, lt, p'⟩, fun v H' hy => ?_⟩
    obtain ⟨T, x, rfl, hT, rfl, f⟩ := hy
    exact hs i x T σ H (f xs q) p hT
  · have e : i = xs.length := by omega
    subst e
    exact .inl ⟨⟨xs, q, Nat.le_refl _⟩, hd σ H p⟩
def spChkO (K : PySem.W.Frag) : Sp := fun vs H Q _ => ∃ (aF aO : Addr) (fs : List Str) (ds : List Addr) (os : List Ob), vs = [.ref aF, .ref aO] ∧ (SqL K H aF (fs.map V.str) ∨ SqT K H aF (fs.map V.str)) ∧ fs.Nodup ∧ fs.length ≤ 2 ∧ ObjsAt H aO ds fs os.length os ∧ os.length ≤ 200 ∧ ∀ H', Same H H' → Q .non H'
def spChkN (K : PySem.W.Frag) : Sp := fun vs H Q _ => ∃ (aN : Addr) (l : Ob) (n : Nat), vs = [.ref aN, .int (n : Int)] ∧ H aN = some (.dK (dk l)) ∧ l.length ≤ 6 ∧ (∀ z ∈ l.map (·.1), IsW z) ∧ okl n l ∧ ∀ H', Same H H' → Q .non H'
abbrev S_check_objects : Stmt := topS 20
abbrev N_check_objects : List Str := ["fields", "objects", "number", "one"]
abbrev P_check_objects : List Str := ["fields", "objects"]
theorem sc_check_objects : FnScope N_check_objects P_check_objects (defScope S_check_objects) := ⟨rfl, rfl, rfl, by decide +kernel, rfl, by decide +kernel, by decide +kernel⟩
abbrev S_check_names : Stmt := topS 21
abbrev N_check_names : List Str := ["names", "many", "name"]
abbrev P_check_names : List Str := ["names", "many"]
theorem sc_check_names : FnScope N_check_names P_check_names (defScope S_check_names) := ⟨rfl, rfl, rfl, by decide +kernel, rfl, by decide +kernel, by decide +kernel⟩
abbrev S_Heap___init__ : Stmt := inClass (topS 19) 0
abbrev N_Heap___init__ : List Str := ["self", "fields", "objects", "names", "one"]
abbrev P_Heap___init__ : List Str := ["self", "fields", "objects", "names"]
theorem sc_Heap___init__ : FnScope N_Heap___init__ P_Heap___init__ (defScope S_Heap___init__) := ⟨rfl, rfl, rfl, by decide +kernel, rfl, by decide +kernel, by decide +kernel⟩
theorem kd_word {K : PySem.W.Frag} {H : Hp} {z : Str} (h : IsW z) : Kd K H (.str z) "str" := ⟨by decide, .base (.str z), fun y e => by injection e with e; subst e; exact Nat.le_trans h.2.1 (by decide)⟩
section
variable {P : Program} {w : World} {K : PySem.W.Frag} {mg : Str → Option Value} {base : Heap}
set_option maxHeartbeats 4000000 in
theorem ok_check_objects {f fB : Addr} {fd fdB : FuncData} {t : Tok} (F : Fun K "check_objects" "check_objects" S_check_objects f fd) (B : Bl mg) (m_MOST_OBJECTS : mg "MOST_OBJECTS" = some (.int 200 t)) (d_is_object : Df K mg "is_object" S_is_object fB fdB P_is_object) (G_is_object : FnOk P w K mg base CX0 4 fB fdB P_is_object (spObj K)) : FnOk P w K mg base CX0 5 f fd P_check_objects (spChkO K) := by
  refine F.ok sc_check_objects (fun vs H Q E h => ?_) (fun cdv A outer s H vs Q E hr h => ?_)
  · obtain ⟨aF, aO, fs, ds, os, rfl, _⟩ := h
    rfl
  · obtain ⟨aF, aO, fs, ds, os, rfl, hF, nd, hfl, O, hos, k⟩ := h
    have hr_is_object : Room 4 _ := hr.mono (Nat.le_refl 4)
    refine ⟨_, (pss_cons (ps_if (PW.pt (pw_or (pt_not (pt_val (pe_callB call_isi (by rfl) B.m_isinstance (by decide +kernel) (pa_cons (pv 1) (pa_cons (pe_bltn (v := .ty "list") (by rfl) B.m_list (by decide +kernel) rfl) pa_nil))))) (pw_or1 (pt_cmpR op_gt (pe_callB call_len_seq (by rfl) B.m_len PySem.boot_len (pa_cons (pv 1) pa_nil)) (pe_glob (v := .int _) rfl m_MOST_OBJECTS ⟨_, rfl⟩) (nomark _))))) (pss_one ps_never) pss_nil)
 (pss_one (ps_for PassesOwn.never rfl (pi_enum (by rfl) B.m_enumerate (pa_cons (pv 1) pa_nil)) (pg_tup rfl (pgs_cons (pg_name (i := 2) sc_check_objects.nd rfl (by first | exact Or.inl rfl | exact Or.inr rfl)) (pgs_cons (pg_name (i := 3) sc_check_objects.nd rfl (by first | exact Or.inl rfl | exact Or.inr rfl)) pgs_nil))) (pss_one (ps_if (pt_not (pt_val (pe_call G_is_object hr_is_object rfl d_is_object.g d_is_object.F.kp d_is_object.b .nil pass0 (pa_cons (pv 3) (pa_cons (pv 0) (pa_cons (pe_callB call_len_seq (by rfl) B.m_len PySem.boot_len (pa_cons (pv 1) pa_nil)) pa_nil)))))) (pss_one ps_never) pss_nil))))), ?_⟩
    refine ⟨_, rfl, _, _, _, _, _, rfl, .ty "list", .base (.lst O.ls), kit7_list (by decide), _, rfl, ?_⟩
    refine iteF ?_
    refine ⟨_, rfl, aO, _, rfl, .inl (SqL.of O.ls), _, _, rfl, rfl, _, rfl, ?_⟩
    have e : decide ((200 : Int) < ((ds.map V.ref).length : Int)) = false := decide_eq_false (by rw [List.length_map, O.len]; omega)
    refine ite_dec (fun hb => ?_) (fun hb => ?_)
    · have hb' : decide ((200 : Int) < ((ds.map V.ref).length : Int)) = true := hb
      rw [e] at hb'; cases hb'
    · refine ⟨_, rfl, aO, _, rfl, SqL.of O.ls, for_enum (xs := ds.map V.ref) (fun i σ H2 => ∃ z1 z2, σ = [some (.ref aF), some (.ref aO), z1, z2] ∧ Same H H2) ⟨_, _, rfl, Same.refl H⟩ ?_ ?_ ?_⟩
      · rintro i σ H2 ⟨z1, z2, rfl, s2⟩
        exact SqL.of (s2 _ _ O.ls)
      · rintro i x T σ H2 hx ⟨z1, z2, rfl, s2⟩ hT
        rw [List.getElem?_map] at hx
        cases ed : ds[i]? with
        | none => rw [ed] at hx; cases hx
        | some d =>
          rw [ed] at hx
          obtain rfl : V.ref d = x := Option.some.inj hx
          have s3 : Same H (upd H2 T (.tup [.int (i : Nat), .ref d])) := s2.trans (same_new hT)
          have hi : i < os.length := by rw [← O.len]; exact (List.getElem?_eq_some_iff.mp ed).1
          have ho : os[i]? = some os[i] := List.getElem?_eq_getElem hi
          have hm := List.getElem_mem hi
          have hks := O.ks _ hm
          refine ⟨T, _, rfl, SqT.of upd_same, rfl, _, _, rfl, _, _, rfl, rfl, ?_⟩
          have hol : (os[i]).length ≤ 1000 := by rw [← List.length_map (f := (·.1)), hks.length_eq]; omega
          refine ⟨_, rfl, _, rfl, _, rfl, aO, _, rfl, .inl (SqL.of (s3 _ _ O.ls)), d, aF, os[i], os.length, fs, ?_, s3 _ _ (O.at' i d _ ed ho), seq_same s3 hF, hks, hol, O.ok _ hm, fun H4 s4 => ⟨_, rfl, ?_⟩⟩
          · rw [List.length_map, O.len]
            rfl
          · refine iteF ?_
            exact ⟨_, _, rfl, s3.trans s4⟩
      · rintro σ H2 ⟨z1, z2, rfl, s2⟩
        exact k H2 s2
set_option maxHeartbeats 4000000 in
theorem ok_check_names {f fB fW : Addr} {fd fdB fdW : FuncData} {t : Tok} (F : Fun K "check_names" "check_names" S_check_names f fd) (B : Bl mg) (m_MOST_NAMES : mg "MOST_NAMES" = some (.int 6 t)) (d_is_held : Df K mg "is_held" S_is_held fB fdB P_is_held) (G_is_held : FnOk P w K mg base CX0 3 fB fdB P_is_held (spHeld K))
    (d_is_word : Df K mg "is_word" S_is_word fW fdW P_is_word) (G_is_word : FnOk P w K mg base CX0 1 fW fdW P_is_word (spIsW K)) : FnOk P w K mg base CX0 4 f fd P_check_names (spChkN K) := by
  refine F.ok sc_check_names (fun vs H Q E h => ?_) (fun cdv A outer s H vs Q E hr h => ?_)
  · obtain ⟨aN, l, n, rfl, _⟩ := h
    rfl
  · obtain ⟨aN, l, n, rfl, hN, hl6, hw, hok, k⟩ := h
    have hr_is_held : Room 3 _ := hr.mono (Nat.le_refl 3)
    have hr_is_word : Room 1 _ := hr.mono (by decide)
    have hu := hu_of hr
    refine ⟨_, (pss_cons (ps_if (PW.pt (pw_or (pt_not (pt_val (pe_callB call_isi (by rfl) B.m_isinstance (by decide +kernel) (pa_cons (pv 0) (pa_cons (pe_bltn (v := .ty "dict") (by rfl) B.m_dict (by decide +kernel) rfl) pa_nil))))) (pw_or1 (pt_cmpR op_gt (pe_callB call_lenD (by rfl) B.m_len PySem.boot_len (pa_cons (pv 0) pa_nil)) (pe_glob (v := .int _) rfl m_MOST_NAMES ⟨_, rfl⟩) (nomark _))))) (pss_one ps_never) pss_nil)
 (pss_cons (ps_if (pt_not (pt_val (pe_callB (cr_all rfl) (by rfl) B.m_all (by decide +kernel) (pa_cons (pe_lock (pe_lc (own := [("name", 2)]) (g := gName 2) (tt := tYes) rfl sc_check_names.nd (pi_keys (pv 0)) (blkOk_by (own := [("name", 2)]) (N := N_check_names) (sc := defScope S_check_names) (by decide +kernel)) (fun _ _ _ _ _ => (pg_name (i := 2) sc_check_names.nd rfl (by first | exact Or.inl rfl | exact Or.inr rfl))) (fun _ _ _ _ _ => pts_nil) (fun _ _ _ _ _ => (pe_call G_is_word hr_is_word rfl d_is_word.g d_is_word.F.kp d_is_word.b .nil pass0 (pa_cons (pv 2) pa_nil))))) pa_nil)))) (pss_one ps_never) pss_nil)
 (pss_one (ps_for PassesOwn.never rfl (pi_list (pe_callB (call_sortedD rfl) (by rfl) B.m_sorted (by decide +kernel) (pa_cons (pv 0) pa_nil))) (pg_name (i := 2) sc_check_names.nd rfl (by first | exact Or.inl rfl | exact Or.inr rfl)) (pss_one (ps_if (pt_not (pt_val (pe_call G_is_held hr_is_held rfl d_is_held.g d_is_held.F.kp d_is_held.b .nil pass0 (pa_cons (pe_dget hu (pv 0) (pv 2) (fun _ _ => rfl)) (pa_cons (pv 1) pa_nil))))) (pss_one ps_never) pss_nil)))))), ?_⟩
    refine ⟨_, rfl, _, _, _, _, _, rfl, .ty "dict", .base (.dK hN), kit7_dict (by decide), _, rfl, ?_⟩
    refine iteF ?_
    refine ⟨_, rfl, aN, _, rfl, hN, _, _, rfl, rfl, _, rfl, ?_⟩
    have e : decide ((6 : Int) < ((dk l).length : Int)) = false := decide_eq_false (by rw [dk_len]; omega)
    refine ite_dec (fun hb => ?_) (fun hb => ?_)
    · have hb' : decide ((6 : Int) < ((dk l).length : Int)) = true := hb
      rw [e] at hb'; cases hb'
    · -- all words
      refine ⟨aN, .dK (dk l), hN, trivial, fun od => ⟨_, rfl, aN, od, rfl, .inl ⟨dk l, upd_same, fun D hD => lc_keys (d := aN) (o := od) (kvs := dk l) (fun i H2 => Same (upd H aN (.frz od (.dK (dk l)))) H2 ∧ H2 D = some (.lst ((List.replicate i true).map V.bl))) ⟨same_new hD, upd_same⟩ (fun i H2 h => h.1 _ _ upd_same) ?_ ?_⟩⟩⟩
      · rintro i kk vv H2 hkk ⟨s2, h2D⟩
        obtain ⟨n0, v0, hn0, rfl, rfl⟩ := dk_get hkk
        have hi : i < l.length := (List.getElem?_eq_some_iff.mp hn0).1
        have hz := hw n0 (List.mem_map.mpr ⟨_, List.mem_of_getElem? hn0, rfl⟩)
        refine ⟨rfl, yes_of ⟨_, rfl, _, _, rfl, kd_word hz, fun H3 s3 => ⟨_, s3 _ _ h2D, by rw [List.length_map, List.length_replicate]; exact small1000 (by omega), fun b o e => ?_, ?_⟩⟩⟩
        · rw [upd_ne (ne_of_none e hD)]
          exact s3 _ _ (s2 _ _ e)
        · have ew : isWb (.str n0) = true := decide_eq_true hz
          rw [upd_same]
          show some (HO.lst ((List.replicate i true).map V.bl ++ [V.bl (isWb (.str n0))])) = _
          rw [ew, List.replicate_succ', List.map_append]
          rfl
      · rintro H2 ⟨s2, h2D⟩
        refine ⟨s2 _ _ upd_same, ?_⟩
        have S2 : Same H (upd H2 aN (.dK (dk l))) := same_unlock hN s2
        have DN : D ≠ aN := fun e => by rw [e, upd_same] at hD; cases hD
        refine ⟨D, _, rfl, SqL.of ((upd_ne DN).trans h2D), _, rfl, ?_⟩
        have e2 : (List.replicate (dk l).length true).all id = true := by simp
        rw [e2]
        refine iteF ?_
        generalize upd H2 aN (.dK (dk l)) = H3 at *
        -- for name in sorted(names)
        refine ⟨_, rfl, aN, dk l, l.map (·.1), rfl, .inl (S2 _ _ hN), by unfold dk; rw [List.map_map, List.map_map]; rfl, by rw [List.length_map]; omega, fun ys p perm srt hp => ⟨p, rfl, ⟨_, SqL.of upd_same⟩, ?_⟩⟩
        have S3 : Same H (upd H3 p (.lst (ys.map V.str))) := S2.trans (same_new hp)
        refine for_list (xs := ys.map V.str) (fun i σ H4 => ∃ z2, σ = [some (.ref aN), some (.int (n : Int)), z2] ∧ Same (upd H3 p (.lst (ys.map V.str))) H4) ⟨_, rfl, Same.refl _⟩ ?_ ?_ ?_
        · rintro i σ H4 _ ⟨z2, rfl, s4⟩
          exact SqL.of (s4 _ _ upd_same)
        · rintro i x σ H4 hx ⟨z2, rfl, s4⟩
          obtain ⟨z, hz, rfl⟩ := get_str hx
          have hm : z ∈ l.map (·.1) := perm.mem_iff.mp (List.mem_of_getElem? hz)
          obtain ⟨T, hk⟩ := kd_hv (K := K) (H := H4) (nmv l z)
          refine ⟨_, rfl, _, rfl, aN, hv (nmv l z), rfl, dget_dk (k := (Sum.inr z : Key)) (s4 _ _ (S3 _ _ hN)) (nmv_val hm), _, rfl, _, T, n, rfl, hk, _, rfl, ?_⟩
          rw [held_hv (okv_look hok z)]
          refine iteF ?_
          exact ⟨_, rfl, s4⟩
        · rintro σ H4 ⟨z2, rfl, s4⟩
          exact k H4 (S3.trans s4)
end
end TW
set_option Elab.async false
set_option linter.all false
set_option maxRecDepth 100000
namespace TW
open PySem PySem.Spec PyProof.Rows L2 TL LamX NdefX LamQ
theorem n1 : ¬ (("fields" : Str) = "_objects") := by decide +kernel
theorem n2 : ¬ (("fields" : Str) = "_names") := by decide +kernel
theorem n3 : ¬ (("fields" : Str) = "_form") := by decide +kernel
theorem n4 : ¬ (("_objects" : Str) = "_names") := by decide +kernel
theorem n5 : ¬ (("_objects" : Str) = "_form") := by decide +kernel
theorem n6 : ¬ (("_names" : Str) = "_form") := by decide +kernel
/-- where the parts of a Heap stand -/
structure HP where
  dx : Addr
  tF : Addr
  qO : Addr
  qN : Addr
  t : Addr
  rD : Addr
  nD : Addr
  ds : List Addr
  ds2 : List Addr
  ord : List Nat
def hfl (p : HP) : List (Str × V) := putF "_form" (.ref p.t) (putF "_names" (.ref p.qN) (putF "_objects" (.ref p.qO) (putF "fields" (.ref p.tF) [])))
theorem hfl_fields (p : HP) : (hfl p).lookup ("fields" : Str) = some (.ref p.tF) := by
  unfold hfl
  rw [lookup_putF, if_neg n3, lookup_putF, if_neg n2, lookup_putF, if_neg n1, lookup_putF, if_pos rfl]
theorem hfl_objects (p : HP) : (hfl p).lookup ("_objects" : Str) = some (.ref p.qO) := by
  unfold hfl
  rw [lookup_putF, if_neg n5, lookup_putF, if_neg n4, lookup_putF, if_pos rfl]
theorem hfl_names (p : HP) : (hfl p).lookup ("_names" : Str) = some (.ref p.qN) := by
  unfold hfl
  rw [lookup_putF, if_neg n6, lookup_putF, if_pos rfl]
theorem hfl_form (p : HP) : (hfl p).lookup ("_form" : Str) = some (.ref p.t) := by
  unfold hfl
  rw [lookup_putF, if_pos rfl]
theorem hfl_none (p : HP) {m : Str} (h1 : ¬ m = "fields") (h2 : ¬ m = "_objects") (h3 : ¬ m = "_names") (h4 : ¬ m = "_form") : (hfl p).lookup m = none := by
  unfold hfl
  rw [lookup_putF, if_neg h4, lookup_putF, if_neg h3, lookup_putF, if_neg h2, lookup_putF, if_neg h1]
  rfl
/-- what a heap is made of -/
structure Good (fs : List Str) (os : List Ob) (l : Ob) : Prop where
  fw : ∀ z ∈ fs, IsW z
  fn : fs.Nodup
  f1 : 1 ≤ fs.length
  f2 : fs.length ≤ 2
  o2 : os.length ≤ 200
  oks : ∀ o ∈ os, (o.map (·.1)).Perm fs
  ook : ∀ o ∈ os, okl os.length o
  lw : ∀ z ∈ l.map (·.1), IsW z
  ln : (l.map (·.1)).Nodup
  l6 : l.length ≤ 6
  lk : okl os.length l
/-- a Heap at h -/
structure HeapAt (K : PySem.W.Frag) (C : Addr) (H : Hp) (h : Addr) (fs : List Str) (os : List Ob) (l : Ob) (p : HP) : Prop where
  ob : H h = some (.ins C p.dx (hfl p))
  f : H p.tF = some (.tup (fs.map V.str))
  o : ObjsAt H p.qO p.ds fs os.length os
  n : H p.qN = some (.dK (dk l))
  t : H p.t = some (.tup [.ref p.tF, .ref p.rD, .ref p.nD])
  r : ObjsAt H p.rD p.ds2 fs p.ord.length (p.ord.map (row os fs p.ord))
  m : H p.nD = some (.dK (dk (renL p.ord l)))
  lv : ∃ (ys : List Str) (j : Nat), ys.Perm (l.map (·.1)) ∧ sortedS ys = true ∧ lvs os fs (ys.map (nmv l)) j = (p.ord, [])
  nd : p.ord.Nodup
  lt : ∀ k ∈ p.ord, k < os.length
  g : Good fs os l
theorem HeapAt.same {K : PySem.W.Frag} {C h : Addr} {H H' : Hp} {fs : List Str} {os : List Ob} {l : Ob} {p : HP} (A : HeapAt K C H h fs os l p) (s : Same H H') : HeapAt K C H' h fs os l p :=
  ⟨s _ _ A.ob, s _ _ A.f, A.o.same s, s _ _ A.n, s _ _ A.t, A.r.same s, s _ _ A.m, A.lv, A.nd, A.lt, A.g⟩
/-- all of it new, but the fields' tuple, which may be aF -/
structure HNew (H : Hp) (aF : Addr) (p : HP) : Prop where
  tF : H p.tF = none ∨ p.tF = aF
  qO : H p.qO = none
  qN : H p.qN = none
  t : H p.t = none
  rD : H p.rD = none
  nD : H p.nD = none
  ds : ∀ d ∈ p.ds, H d = none
  ds2 : ∀ d ∈ p.ds2, H d = none
theorem Tabs.but {T : List (Addr × Str)} {H H' : Hp} {h : Addr} {C dx : Addr} {fl : List (Str × V)} (t : Tabs T H) (hh : H h = some (.ins C dx fl)) (k : ∀ b o, H b = some o → b ≠ h → H' b = some o) : Tabs T H' := fun p hp => by
  obtain ⟨ps, h1, h2, h3⟩ := t p hp
  refine ⟨ps, k _ _ h1 (fun z => by rw [z, hh] at h1; cases h1), h2, fun pos cv hc => ?_⟩
  obtain ⟨c, e1, e2⟩ := h3 pos cv hc
  refine ⟨c, e1, k _ _ e2 fun z => ?_⟩
  rw [z, hh] at e2
  unfold CodeO at e2
  cases e2
def spInit (K : PySem.W.Frag) (C Pt : Addr) : Sp := fun vs H Q _ => ∃ (h dx aF aO aN : Addr) (fs : List Str) (ds0 : List Addr) (os : List Ob) (l : Ob), vs = [.ref h, .ref aF, .ref aO, .ref aN] ∧ Tabs (TB1 Pt) H ∧ H h = some (.ins C dx []) ∧
  (H aF = some (.lst (fs.map V.str)) ∨ H aF = some (.tup (fs.map V.str))) ∧ ObjsAt H aO ds0 fs os.length os ∧ H aN = some (.dK (dk l)) ∧ Good fs os l ∧
  ∀ (p : HP) (H' : Hp), (∀ b o, H b = some o → (∀ ps, o ≠ .tbl ps) → b ≠ h → H' b = some o) → (∀ x, H' x = none → H x = none) → Tabs (TB1 Pt) H' → HeapAt K C H' h fs os l p → HNew H aF p → Q .non H'
/-- what the walk asks of the class -/
structure HC (K : PySem.W.Frag) (mg : Str → Option Value) (C : Addr) : Prop where
  cl : Cls K C
  nF : NoAttr K C "fields"
  nO : NoAttr K C "_objects"
  nN : NoAttr K C "_names"
  nM : NoAttr K C "_form"
  g : mg "Heap" = some (.ref C)
theorem areW_fields {fs : List Str} {os : List Ob} {l : Ob} (G : Good fs os l) : AreW (fs.map V.str) 1 2 := ⟨fs, rfl, G.fw, G.fn, by have := G.f1; omega, by have := G.f2; omega⟩
theorem lk_f (a b c : Addr) : (putF "_names" (.ref c) (putF "_objects" (.ref b) (putF "fields" (.ref a) []))).lookup ("fields" : Str) = some (V.ref a) := by
  rw [lookup_putF, if_neg n2, lookup_putF, if_neg n1, lookup_putF, if_pos rfl]
theorem lk_o (a b c : Addr) : (putF "_names" (.ref c) (putF "_objects" (.ref b) (putF "fields" (.ref a) []))).lookup ("_objects" : Str) = some (V.ref b) := by
  rw [lookup_putF, if_neg n4, lookup_putF, if_pos rfl]
theorem lk_n (a b c : Addr) : (putF "_names" (.ref c) (putF "_objects" (.ref b) (putF "fields" (.ref a) []))).lookup ("_names" : Str) = some (V.ref c) := by
  rw [lookup_putF, if_pos rfl]
section
variable {P : Program} {w : World} {K : PySem.W.Frag} {mg : Str → Option Value} {base : Heap}
set_option maxHeartbeats 8000000 in
theorem ok_init {f C Pt fA fO fN fM : Addr} {fd fdA fdO fdN fdM : FuncData} (F : Fun K "__init__" "Heap.__init__" S_Heap___init__ f fd) (B : Bl mg) (T : HC K mg C)
    (d_are_fields : Df K mg "are_fields" S_are_fields fA fdA P_are_fields) (G_are_fields : FnOk P w K mg base CX0 3 fA fdA P_are_fields (spAreF K))
    (d_check_objects : Df K mg "check_objects" S_check_objects fO fdO P_check_objects) (G_check_objects : FnOk P w K mg base CX0 5 fO fdO P_check_objects (spChkO K))
    (d_check_names : Df K mg "check_names" S_check_names fN fdN P_check_names) (G_check_names : FnOk P w K mg base CX0 4 fN fdN P_check_names (spChkN K))
    (d_normal_form : Df K mg "normal_form" S_normal_form fM fdM P_normal_form) (G_normal_form : FnOk P w K mg base CX0 3 fM fdM P_normal_form (spNF K Pt)) : FnOk P w K mg base CX0 6 f fd P_Heap___init__ (spInit K C Pt) := by
  refine F.ok sc_Heap___init__ (fun vs H Q E h => ?_) (fun cdv A outer s H vs Q E hr h => ?_)
  · obtain ⟨h, dx, aF, aO, aN, fs, ds0, os, l, rfl, _⟩ := h
    rfl
  · obtain ⟨h, dx, aF, aO, aN, fs, ds0, os, l, rfl, hTb, hh, hF, O, hN, G, k⟩ := h
    have hr_are_fields : Room 3 _ := hr.mono (by decide)
    have hr_check_objects : Room 5 _ := hr.mono (by decide)
    have hr_check_names : Room 4 _ := hr.mono (by decide)
    have hr_normal_form : Room 3 _ := hr.mono (by decide)
    refine ⟨_, (pss_cons (ps_if (pt_not (pt_val (pe_call G_are_fields hr_are_fields rfl d_are_fields.g d_are_fields.F.kp d_are_fields.b .nil pass0 (pa_cons (pv 1) pa_nil)))) (pss_one ps_never) pss_nil)
 (pss_cons (ps_expr (pe_call G_check_objects hr_check_objects rfl d_check_objects.g d_check_objects.F.kp d_check_objects.b .nil pass0 (pa_cons (pv 1) (pa_cons (pv 2) pa_nil))))
 (pss_cons (ps_expr (pe_call G_check_names hr_check_names rfl d_check_names.g d_check_names.F.kp d_check_names.b .nil pass0 (pa_cons (pv 3) (pa_cons (pe_callB call_len_seq (by rfl) B.m_len PySem.boot_len (pa_cons (pv 2) pa_nil)) pa_nil))))
 (pss_cons (ps_fld (pv 0) (pe_callTy call_tuple_of (by rfl) B.m_tuple (by decide +kernel) (pa_cons (pv 1) pa_nil)) rfl)
 (pss_cons (ps_fld (pv 0) (pe_lc (own := [("one", 4)]) (g := gName 4) (tt := tYes) rfl sc_Heap___init__.nd (pi_list (pv 2)) (blkOk_by (own := [("one", 4)]) (N := N_Heap___init__) (sc := defScope S_Heap___init__) (by decide +kernel)) (fun _ _ _ _ _ => (pg_name (i := 4) sc_Heap___init__.nd rfl (by first | exact Or.inl rfl | exact Or.inr rfl))) (fun _ _ _ _ _ => pts_nil) (fun _ _ _ _ _ => (pe_callTy call_dictD (by rfl) B.m_dict (by decide +kernel) (pa_cons (pv 4) pa_nil)))) rfl)
 (pss_cons (ps_fld (pv 0) (pe_callTy call_dictD (by rfl) B.m_dict (by decide +kernel) (pa_cons (pv 3) pa_nil)) rfl)
 (pss_one (ps_fld (pv 0) (pe_call G_normal_form hr_normal_form rfl d_normal_form.g d_normal_form.F.kp d_normal_form.b .nil pass0 (pa_cons (pe_fld (pv 0) rfl) (pa_cons (pe_fld (pv 0) rfl) (pa_cons (pe_fld (pv 0) rfl) pa_nil)))) rfl)))))))), ?_⟩
    -- are_fields
    have hsq : SqL K H aF (fs.map V.str) ∨ SqT K H aF (fs.map V.str) := hF.elim (fun h => .inl (SqL.of h)) fun h => .inr (SqT.of h)
    obtain ⟨TF, hTF, hkF⟩ : ∃ T, (T = "list" ∨ T = "tuple") ∧ Kd K H (.ref aF) T := hF.elim (fun h => ⟨"list", .inl rfl, by decide, .base (.lst h), fun z e => nomatch e⟩) fun h => ⟨"tuple", .inr rfl, by decide, .base (.tup h), fun z e => nomatch e⟩
    have hsk : SeqK K H aF (fs.map V.str) := ⟨hsq, by rw [List.length_map]; have := G.f2; omega, fun y hy => by
      obtain ⟨z, hz, rfl⟩ := List.mem_map.mp hy
      exact ⟨_, kd_word (G.fw z hz)⟩⟩
    refine ⟨_, rfl, _, TF, rfl, hkF, .inr ⟨hTF, aF, _, rfl, hsk, fun b H1 s1 hb => ⟨_, rfl, ?_⟩⟩⟩
    have hbt : b = true := hb.mpr (areW_fields G)
    subst hbt
    refine iteF ?_
    -- check_objects, check_names
    refine ⟨_, rfl, _, rfl, aF, aO, fs, ds0, os, rfl, seq_same s1 hsq, G.fn, G.f2, O.same s1, G.o2, fun H2 s2 => ?_⟩
    have s12 := s1.trans s2
    refine ⟨_, rfl, _, rfl, aO, _, rfl, .inl (SqL.of (s12 _ _ O.ls)), aN, l, os.length, by rw [List.length_map, O.len]; rfl, s12 _ _ hN, G.l6, G.lw, G.lk, fun H3 s3 => ?_⟩
    have s13 := s12.trans s3
    have hh3 := s13 _ _ hh
    -- self.fields = tuple(fields)
    rcases hF with hF | hF
    case' inl =>
      refine ⟨_, rfl, aF, _, rfl, .inl ⟨SqL.of (s13 _ _ hF), fun tF htF => ?_⟩⟩
      have htH : H tF = none := s13.free htF
      have hne : tF ≠ h := (ne_of_none hh htH).symm
      have hnew : H tF = none ∨ tF = aF := .inl htH
      refine ⟨_, rfl, h, C, dx, _, rfl, (upd_ne hne.symm).trans hh3, T.cl, T.nF, by decide, ?_⟩
      let H4 : Hp := upd (upd H3 tF (.tup (fs.map V.str))) h (.ins C dx (putF "fields" (.ref tF) []))
      have h4h : H4 h = some (.ins C dx (putF "fields" (.ref tF) [])) := upd_same
      have h4F : H4 tF = some (.tup (fs.map V.str)) := (upd_ne hne).trans upd_same
      have s4 : ∀ b o, H b = some o → b ≠ h → H4 b = some o := fun b o e n => (upd_ne n).trans ((upd_ne (ne_of_none e htH)).trans (s13 _ _ e))
    case' inr =>
      refine ⟨_, rfl, aF, _, rfl, .inr ⟨SqT.of (s13 _ _ hF), ?_⟩⟩
      let tF : Addr := aF
      have hne : tF ≠ h := ne_of hF hh (by intro z; cases z)
      have hnew : H tF = none ∨ tF = aF := .inr rfl
      refine ⟨_, rfl, h, C, dx, _, rfl, hh3, T.cl, T.nF, by decide, ?_⟩
      let H4 : Hp := upd H3 h (.ins C dx (putF "fields" (.ref tF) []))
      have h4h : H4 h = some (.ins C dx (putF "fields" (.ref tF) [])) := upd_same
      have h4F : H4 tF = some (.tup (fs.map V.str)) := (upd_ne hne).trans (s13 _ _ hF)
      have s4 : ∀ b o, H b = some o → b ≠ h → H4 b = some o := fun b o e n => (upd_ne n).trans (s13 _ _ e)
    all_goals
      have Oh : aO ≠ h := ne_of O.ls hh (by intro z; cases z)
      have Nh : aN ≠ h := ne_of hN hh (by intro z; cases z)
      have nH : ∀ {x : Addr}, H4 x = none → H x = none := fun {x} n => by
        cases e : H x with
        | none => rfl
        | some o =>
          by_cases hx : x = h
          · rw [hx, h4h] at n; cases n
          · rw [s4 x o e hx] at n; cases n
      have d0h : ∀ i d o, ds0[i]? = some d → os[i]? = some o → H4 d = some (.dK (dk o)) := fun i d o g1 g2 => s4 _ _ (O.at' i d o g1 g2) (ne_of (O.at' i d o g1 g2) hh (by intro z; cases z))
      have hO4 : H4 aO = some (.lst (ds0.map V.ref)) := s4 _ _ O.ls Oh
      -- self._objects = [dict(one) for one in objects]
      refine ⟨_, rfl, aO, rfl, ⟨_, SqL.of hO4⟩, fun D hD => lc_list (xs := ds0.map V.ref) (fun i H5 => ∃ ds' : List Addr, Same H4 H5 ∧ H5 D = some (.lst (ds'.map V.ref)) ∧ ds'.length = i ∧ ds'.Nodup ∧ (∀ x ∈ ds', H4 x = none ∧ x ≠ D) ∧ (∀ (i' : Nat) (d' : Addr) (o : Ob), ds'[i']? = some d' → os[i']? = some o → H5 d' = some (.dK (dk o)))) ?_ ?_ ?_ ?_⟩
      · exact ⟨[], same_new hD, upd_same, rfl, List.nodup_nil, fun x hx => (nomatch hx), fun i' d' k h => by simp at h⟩
      · rintro i H5 _ ⟨ds', s5, _⟩
        exact SqL.of (s5 _ _ hO4)
      · rintro i x H5 hx ⟨ds', s5, hD5, hlen, dnd, dfr, dat⟩
        rw [List.getElem?_map] at hx
        cases ed : ds0[i]? with
        | none => rw [ed] at hx; cases hx
        | some d =>
          rw [ed] at hx
          obtain rfl : V.ref d = x := Option.some.inj hx
          have hi0 := (List.getElem?_eq_some_iff.mp ed).1
          have hi : i < os.length := by rw [← O.len]; exact hi0
          have ho : os[i]? = some os[i] := List.getElem?_eq_getElem hi
          refine ⟨rfl, yes_of ⟨_, rfl, d, _, rfl, .inl (s5 _ _ (d0h i d _ ed ho)), fun E hE => ?_⟩⟩
          have hE4 := s5.free hE
          have DE : D ≠ E := ne_of_none hD5 hE
          refine ⟨_, (upd_ne DE).trans hD5, by rw [List.length_map, hlen]; have := G.o2; exact small1000 (by omega), ds' ++ [E], ?_, ?_, ?_, ?_, ?_, ?_⟩
          · intro b o e
            rw [upd_ne (ne_of_none e hD), upd_ne (ne_of_none e hE4)]
            exact s5 _ _ e
          · rw [upd_same, List.map_append]; rfl
          · rw [List.length_append, hlen]; rfl
          · refine List.nodup_append.mpr ⟨dnd, by simp, fun x hx y hy => ?_⟩
            rw [List.mem_singleton.mp hy]
            intro e
            obtain ⟨i', hi', e'⟩ := List.getElem_of_mem hx
            have hi2 : i' < os.length := by omega
            have := dat i' x os[i'] (by rw [List.getElem?_eq_getElem hi', e']) (List.getElem?_eq_getElem hi2)
            rw [e, hE] at this
            cases this
          · intro x hx
            rcases List.mem_append.mp hx with hx | hx
            · exact dfr x hx
            · rw [List.mem_singleton.mp hx]; exact ⟨hE4, DE.symm⟩
          · intro i' d' k g1 g2
            rcases Nat.lt_or_ge i' ds'.length with hj | hj
            · rw [List.getElem?_append_left hj] at g1
              have q := dat i' d' k g1 g2
              rw [upd_ne (dfr d' (List.mem_of_getElem? g1)).2, upd_ne (ne_of_none q hE)]
              exact q
            · rw [List.getElem?_append_right hj] at g1
              have hz : i' = ds'.length := by
                have := (List.getElem?_eq_some_iff.mp g1).1
                simp only [List.length_singleton] at this
                omega
              subst hz
              rw [Nat.sub_self] at g1
              have e1 : E = d' := Option.some.inj g1
              subst e1
              rw [hlen, ho] at g2
              have e2 : os[i] = k := Option.some.inj g2
              subst e2
              rw [upd_ne DE.symm, upd_same]
      · rintro H5 ⟨ds', s5, hD5, hlen, dnd, dfr, dat⟩
        rw [List.length_map, O.len] at hlen
        have Dh : D ≠ h := (ne_of_none h4h hD).symm
        refine ⟨_, rfl, h, C, dx, _, rfl, s5 _ _ h4h, T.cl, T.nO, by show 1 < 1000; decide, ?_⟩
        let H6 : Hp := upd H5 h (.ins C dx (putF "_objects" (.ref D) (putF "fields" (.ref tF) [])))
        have h6h : H6 h = some (.ins C dx (putF "_objects" (.ref D) (putF "fields" (.ref tF) []))) := upd_same
        have s6 : ∀ b o, H5 b = some o → b ≠ h → H6 b = some o := fun b o e n => (upd_ne n).trans e
        have hN6 : H6 aN = some (.dK (dk l)) := s6 _ _ (s5 _ _ (s4 _ _ hN Nh)) Nh
        -- self._names = dict(names)
        refine ⟨_, rfl, aN, _, rfl, .inl hN6, fun qN hqN => ?_⟩
        have qNh : qN ≠ h := (ne_of_none h6h hqN).symm
        have hq5 : H5 qN = none := by rw [← hqN]; exact (upd_ne qNh).symm
        refine ⟨_, rfl, h, C, dx, _, rfl, (upd_ne qNh.symm).trans h6h, T.cl, T.nN, by show 2 < 1000; decide, ?_⟩
        let H7 : Hp := upd (upd H6 qN (.dK (dk l))) h (.ins C dx (putF "_names" (.ref qN) (putF "_objects" (.ref D) (putF "fields" (.ref tF) []))))
        have h7h : H7 h = some (.ins C dx (putF "_names" (.ref qN) (putF "_objects" (.ref D) (putF "fields" (.ref tF) [])))) := upd_same
        have h7N : H7 qN = some (.dK (dk l)) := (upd_ne qNh).trans upd_same
        have s7 : ∀ b o, H5 b = some o → b ≠ h → H7 b = some o := fun b o e n => (upd_ne n).trans ((upd_ne (ne_of_none e hq5)).trans (s6 b o e n))
        have h7F : H7 tF = some (.tup (fs.map V.str)) := s7 _ _ (s5 _ _ h4F) (ne_of h4F h4h (by intro z; cases z))
        have O7 : ObjsAt H7 D ds' fs os.length os := ⟨s7 _ _ hD5 Dh, hlen, dnd, fun i d o g1 g2 => s7 _ _ (dat i d o g1 g2) (ne_of (dat i d o g1 g2) (s5 _ _ h4h) (by intro z; cases z)), G.oks, G.ook⟩
        have nH7 : ∀ {x : Addr}, H7 x = none → H x = none := fun {x} n => by
          have hx : x ≠ h := fun e => by rw [e, h7h] at n; cases n
          cases e : H x with
          | none => rfl
          | some o => rw [s7 _ _ (s5 _ _ (s4 _ _ e hx)) hx] at n; cases n
        -- self._form = normal_form(..)
        refine ⟨_, rfl, h, C, dx, _, _, rfl, h7h, T.cl, T.nF, lk_f tF D qN, _, rfl, h, C, dx, _, _, rfl, h7h, T.cl, T.nO, lk_o tF D qN, _, rfl, h, C, dx, _, _, rfl, h7h, T.cl, T.nN, lk_n tF D qN,
          tF, D, qN, fs, ds', os, l, rfl, Tabs.but hTb hh (fun b o e n => s7 _ _ (s5 _ _ (s4 _ _ e n)) n), SqT.of h7F, by have := G.f2; omega, G.fn, O7, by have := G.o2; omega, h7N, G.ln, by have := G.l6; omega, G.lk, fun t rD nD ds2 ys j ord H8 s8 ht hrD hnD hds2 h8t perm srt hlv hnd hlt O8 h8m => ?_⟩
        have s8' : ∀ {b : Addr} {o : HO}, H7 b = some o → (nt : ∀ ps, o ≠ .tbl ps := by intro ps z; cases z) → H8 b = some o := fun {b o} e nt => s8.k b o e nt
        refine ⟨_, rfl, h, C, dx, _, rfl, s8' h7h, T.cl, T.nM, by show 3 < 1000; decide, ?_⟩
        let p : HP := ⟨dx, tF, D, qN, t, rD, nD, ds', ds2, ord⟩
        have s9 : ∀ {b : Addr} {o : HO}, H8 b = some o → b ≠ h → (upd H8 h (.ins C dx (hfl p))) b = some o := fun {b o} e n => (upd_ne n).trans e
        have q8 : ∀ {b : Addr} {o : HO}, H8 b = some o → (∀ fl, o ≠ .ins C dx fl) → b ≠ h := fun {b o} e n => ne_of e (s8' h7h) (n _)
        refine k p _ (fun b o e nt n => s9 (s8.k _ _ (s7 _ _ (s5 _ _ (s4 _ _ e n)) n) nt) n) (fun x hx => nH7 (s8.f x (by
            by_cases e : x = h
            · rw [e, upd_same] at hx; cases hx
            · rw [upd_ne e] at hx; exact hx))) (Tabs.but s8.t (s8' h7h) fun b o e n => s9 e n) ⟨upd_same, s9 (s8' h7F) (q8 (s8' h7F) (fun _ z => nomatch z)), ?_, s9 (s8' h7N) (q8 (s8' h7N) (fun _ z => nomatch z)), s9 h8t (q8 h8t (fun _ z => nomatch z)), ?_, s9 h8m (q8 h8m (fun _ z => nomatch z)), ⟨ys, j, perm, srt, hlv⟩, hnd, hlt, G⟩
          ⟨hnew, nH hD, ?_, nH7 ht, nH7 hrD, nH7 hnD, fun d hd => nH (dfr d hd).1, fun d hd => nH7 (hds2 d hd)⟩
        · have O9 := objs_ext s8.k O7
          exact ⟨s9 O9.ls (q8 O9.ls (fun _ z => nomatch z)), O9.len, O9.nd, fun i d o g1 g2 => s9 (O9.at' i d o g1 g2) (q8 (O9.at' i d o g1 g2) (fun _ z => nomatch z)), O9.ks, O9.ok⟩
        · exact ⟨s9 O8.ls (q8 O8.ls (fun _ z => nomatch z)), O8.len, O8.nd, fun i d o g1 g2 => s9 (O8.at' i d o g1 g2) (q8 (O8.at' i d o g1 g2) (fun _ z => nomatch z)), O8.ks, O8.ok⟩
        · cases e : H qN with
          | none => rfl
          | some o => rw [s5 _ _ (s4 _ _ e qNh)] at hq5; cases hq5
end
end TW
set_option Elab.async false
set_option linter.all false
set_option maxRecDepth 100000
namespace L2
open PySem PySem.Spec PyProof.Rows
/-- x not in o, the class of o with an own rule for it -/
def rNotInO (C : Addr) (sp : Sp) (E : XK) : R2 := fun x y H Q => ∃ a dx fs, y = .ref a ∧ H a = some (.ins C dx fs) ∧ sp [.ref a, x] H (fun v H' => ∃ b : Bool, v = .bl b ∧ Q (.bl (!b)) H') E
theorem op_notInO {X : Cx} {CX : CXT} {k : Nat} {C f : Addr} {fd : FuncData} {ps : List Str} {sp : Sp} {E : XK} (F : FnOk X.prog X.w X.K X.mg X.base CX k f fd ps sp) (hr : Room k X.A) (hs : PySem.W.findIn X.K (.ref C) "__contains__" = some (some (.ref f))) (hf : PySem.W.isFn X.K (.ref f) = true)
    (hb : Binds X.K fd ps []) (hx : Passes CX X E) : OpR X (compareOp .NotIn) (rNotInO C sp E) := by
  intro pins s σ H x y v u Q I rx ry h
  obtain ⟨a, dx, fs, rfl, ea, h⟩ := h
  cases ry
  obtain ⟨mA, J, _⟩ := ins_get I.hok ea
  obtain ⟨od, J, _⟩ := J.look
  obtain ⟨m, hF⟩ := I.fr
  refine PySem.W.notIn_K hF I.ok.mod.kin J hs hf ?_
  refine wpAny_mono (run_fn (us := [.ref a, v]) (vs := [.ref a, x]) (dvs := []) F hr hb .nil hx I (.cons rfl (.cons rx .nil)) h) (fun r s' z => ?_) fun _ _ e => e
  obtain ⟨z, H', I', rz, b, ez, q⟩ := z
  subst ez
  cases rz
  exact wpAny_truthy_bool ⟨.bl (!b), H', I', rfl, q⟩
end L2
namespace TW
open PySem PySem.Spec PyProof.Rows L2 TL
/-- along the fields -/
def stp (os : List Ob) (v : Option Nat) (f : Str) : Option Nat := v.bind fun k => fld os k f
def fol (os : List Ob) (v : Option Nat) (ws : List Str) : Option Nat := ws.foldl (stp os) v
theorem fol_none (os : List Ob) : ∀ ws : List Str, fol os none ws = none
  | [] => rfl
  | _ :: r => fol_none os r
theorem fol_next {os : List Ob} {v : Option Nat} {ws : List Str} {i : Nat} {f : Str} (h : ws[i]? = some f) : fol os v (ws.take (i + 1)) = stp os (fol os v (ws.take i)) f := by
  unfold fol
  rw [take_next' h, List.foldl_append]
  rfl
theorem fol_split {os : List Ob} {v : Option Nat} {ws : List Str} {i : Nat} (h : fol os v (ws.take i) = none) : fol os v ws = none := by
  have e : fol os v ws = fol os (fol os v (ws.take i)) (ws.drop i) := by
    unfold fol
    rw [← List.foldl_append, List.take_append_drop]
  rw [e, h]
  exact fol_none os _
theorem stp_ok {os : List Ob} {n : Nat} (ho : ∀ o ∈ os, okl n o) {v : Option Nat} {f : Str} : okv n (stp os v f) := by
  cases v with
  | none => trivial
  | some k => exact okv_fld ho k f
theorem fol_ok {os : List Ob} {n : Nat} (ho : ∀ o ∈ os, okl n o) : ∀ (ws : List Str) {v : Option Nat}, okv n v → okv n (fol os v ws)
  | [], _, h => h
  | _ :: r, _, _ => fol_ok ho r (stp_ok ho)
def spHas (K : PySem.W.Frag) (C : Addr) : Sp := fun vs H Q _ => ∃ (h : Addr) (x : V) (T : String) (p : HP) (l : Ob), vs = [.ref h, x] ∧ H h = some (.ins C p.dx (hfl p)) ∧ H p.qN = some (.dK (dk l)) ∧ Kd K H x T ∧ Q (.bl (oneOf x (l.map (·.1)))) H
/-- the errors that at may raise -/
def eNm (nm : Str) (CE : Addr) (H : Hp) (E : XK) : Prop := ∀ H1 d, Same H H1 → H1 d = none → E (.ref CE) (some d) (upd H1 d (.xd [(("part" : Str), .str nm)]))
def spAt (K : PySem.W.Frag) (C CE : Addr) : Sp := fun vs H Q E => ∃ (h : Addr) (x pth : V) (Tx Tp : String) (fs : List Str) (os : List Ob) (l : Ob) (p : HP), vs = [.ref h, x, pth] ∧ HeapAt K C H h fs os l p ∧ Kd K H x Tx ∧ Kd K H pth Tp ∧
  ((oneOf x (l.map (·.1)) = false ∧ eNm "name" CE H E) ∨
   (oneOf x (l.map (·.1)) = true ∧ Tp ≠ "list" ∧ Tp ≠ "tuple" ∧ eNm "path" CE H E) ∨
   (oneOf x (l.map (·.1)) = true ∧ (Tp = "list" ∨ Tp = "tuple") ∧ ∃ a xs, pth = .ref a ∧ SeqK K H a xs ∧ (xs.all fun y => oneOf y fs) = false ∧ eNm "path" CE H E) ∨
   (∃ (n : Str) (a : Addr) (ws : List Str), x = .str n ∧ n ∈ l.map (·.1) ∧ (Tp = "list" ∨ Tp = "tuple") ∧ pth = .ref a ∧ SeqK K H a (ws.map V.str) ∧ (∀ z ∈ ws, z ∈ fs) ∧ ∀ H1, Same H H1 → Q (hv (fol os (nmv l n) ws)) H1))
/-- what more the walk asks of the class -/
structure HC2 (K : PySem.W.Frag) (C fH : Addr) : Prop where
  cs : PySem.W.findIn K (.ref C) "__contains__" = some (some (.ref fH))
  cf : PySem.W.isFn K (.ref fH) = true
abbrev S_Heap___contains__ : Stmt := inClass (topS 19) 2
abbrev N_Heap___contains__ : List Str := ["self", "name"]
abbrev P_Heap___contains__ : List Str := ["self", "name"]
theorem sc_Heap___contains__ : FnScope N_Heap___contains__ P_Heap___contains__ (defScope S_Heap___contains__) := ⟨rfl, rfl, rfl, by decide +kernel, rfl, by decide +kernel, by decide +kernel⟩
abbrev S_Heap_at : Stmt := inClass (topS 19) 8
abbrev N_Heap_at : List Str := ["self", "name", "path", "number", "field"]
abbrev P_Heap_at : List Str := ["self", "name", "path"]
theorem sc_Heap_at : FnScope N_Heap_at P_Heap_at (defScope S_Heap_at) := ⟨rfl, rfl, rfl, by decide +kernel, rfl, by decide +kernel, by decide +kernel⟩
section
variable {P : Program} {w : World} {K : PySem.W.Frag} {mg : Str → Option Value} {base : Heap}
set_option maxHeartbeats 4000000 in
theorem ok_has {f C fB : Addr} {fd fdB : FuncData} (F : Fun K "__contains__" "Heap.__contains__" S_Heap___contains__ f fd) (T : HC K mg C) (d_is_one_of : Df K mg "is_one_of" S_is_one_of fB fdB P_is_one_of) (G_is_one_of : FnOk P w K mg base CX0 1 fB fdB P_is_one_of (spOneOf K)) :
    FnOk P w K mg base CX0 2 f fd P_Heap___contains__ (spHas K C) := by
  refine F.ok sc_Heap___contains__ (fun vs H Q E h => ?_) (fun cdv A outer s H vs Q E hr h => ?_)
  · obtain ⟨h, x, T, p, l, rfl, _⟩ := h
    rfl
  · obtain ⟨h, x, Tx, p, l, rfl, hh, hn, hk, k⟩ := h
    have hr_is_one_of : Room 1 _ := hr.mono (Nat.le_refl 1)
    refine ⟨_, (pss_one (ps_ret (pe_call G_is_one_of hr_is_one_of rfl d_is_one_of.g d_is_one_of.F.kp d_is_one_of.b .nil pass0 (pa_cons (pv 1) (pa_cons (pe_fld (pv 0) rfl) pa_nil))))), ?_⟩
    exact ⟨_, rfl, _, rfl, h, C, _, _, _, rfl, hh, T.cl, T.nN, hfl_names p, x, Tx, p.qN, _, rfl, hk, .inl ⟨l, hn, rfl⟩, k⟩
set_option maxHeartbeats 8000000 in
theorem ok_at {f C CE fI fB fH : Addr} {fd fdB fdH : FuncData} (F : Fun K "at" "Heap.at" S_Heap_at f fd) (B : Bl mg) (T0 : HC K mg C) (T : HC2 K C fH) (TE : PySem.ErrX.ErrTxt P K mg "InvalidArgument" "wrong argument: " CE fI)
    (G_has : FnOk P w K mg base CX0 2 fH fdH P_Heap___contains__ (spHas K C)) (b_has : Binds K fdH P_Heap___contains__ [])
    (d_is_path : Df K mg "is_path" S_is_path fB fdB P_is_path) (G_is_path : FnOk P w K mg base CX0 2 fB fdB P_is_path (spPath K)) :
    FnOk P w K mg base (L2.CX P w) 3 f fd P_Heap_at (spAt K C CE) := by
  refine F.okX sc_Heap_at (fun vs H Q E h => ?_) (fun cdv A outer s H vs Q E hr h => ?_)
  · obtain ⟨h, x, pth, Tx, Tp, fs, os, l, p, rfl, _⟩ := h
    rfl
  · obtain ⟨h, x, pth, Tx, Tp, fs, os, l, p, rfl, A0, hkx, hkp, k⟩ := h
    have hr_has : Room 2 _ := hr.mono (Nat.le_refl 2)
    have hr_is_path : Room 2 _ := hr.mono (Nat.le_refl 2)
    have hr0 : Room 1 _ := hr.mono (by decide)
    have hu := hu_of hr
    refine ⟨_, (pss_cons (ps_if (pt_cmpR (op_notInO G_has hr_has T.cs T.cf b_has pass0) (pv 1) (pv 0) (by rfl)) (pss_one (ps_raiseE rfl TE hr0 (takes_of rfl rfl rfl rfl) B.m_super (pa_cons pe_str pa_nil) rfl rfl)) pss_nil)
 (pss_cons (ps_if (pt_not (pt_val (pe_call G_is_path hr_is_path rfl d_is_path.g d_is_path.F.kp d_is_path.b .nil pass0 (pa_cons (pv 2) (pa_cons (pe_fld (pv 0) rfl) pa_nil))))) (pss_one (ps_raiseE rfl TE hr0 (takes_of rfl rfl rfl rfl) B.m_super (pa_cons pe_str pa_nil) rfl rfl)) pss_nil)
 (pss_cons (ps_set (i := 3) sc_Heap_at.nd rfl (by first | exact Or.inl rfl | exact Or.inr rfl) (pe_dget hu (pe_fld (pv 0) rfl) (pv 1) (fun _ _ => rfl)))
 (pss_cons (ps_for (passes_of rfl) rfl (pi_seqv 2) (pg_name (i := 4) sc_Heap_at.nd rfl (by first | exact Or.inl rfl | exact Or.inr rfl)) (pss_cons (ps_if (pt_cmpR op_isN (pv 3) pe_non (nomark _)) (pss_one (ps_ret pe_non)) pss_nil)
 (pss_one (ps_set (i := 3) sc_Heap_at.nd rfl (by first | exact Or.inl rfl | exact Or.inr rfl) (pe_dget hu (pe_ix ix_list (pe_fld (pv 0) rfl) (pv 3) (fun _ _ => rfl)) (pv 4) (fun _ _ => rfl))))))
 (pss_one (ps_ret (pv 3))))))), ?_⟩
    refine ⟨_, rfl, _, rfl, h, _, _, rfl, A0.ob, h, x, Tx, p, l, rfl, A0.ob, A0.n, hkx, _, rfl, ?_⟩
    have raised : ∀ {nm : Str} {H1 : Hp}, Same H H1 → nm.length ≤ 1000 → eNm nm CE H E → ∀ (W : WX), (∀ cls d σ H', E cls d H' → W cls d σ H') → ∀ D σ, tRaiseE CE W (tCons (tC (.str nm)) tNil) D σ H1 := fun s1 hz he W hW D σ =>
      ⟨_, rfl, hz, fun d hd => hW _ _ _ _ (he _ d s1 hd)⟩
    rcases k with ⟨h1, k⟩ | k
    · rw [h1]
      exact ⟨true, rfl, iteT (raised (fun _ _ e => e) (by decide) k _ (fun _ _ _ _ z => z) _ _)⟩
    have h1 : oneOf x (l.map (·.1)) = true := by
      rcases k with ⟨h, _⟩ | ⟨h, _⟩ | ⟨n, a, ws, rfl, h, _⟩
      · exact h
      · exact h
      · exact decide_eq_true h
    rw [h1]
    refine ⟨false, rfl, iteF ?_⟩
    have hF : SqT K H p.tF (fs.map V.str) := SqT.of A0.f
    rcases k with ⟨_, n1, n2, k⟩ | ⟨_, hT, a, xs, rfl, S, hb, k⟩ | ⟨n, a, ws, rfl, hn, hT, rfl, S, hw, k⟩
    · refine ⟨_, rfl, _, rfl, h, C, _, _, _, rfl, A0.ob, T0.cl, T0.nF, hfl_fields p, pth, Tp, p.tF, fs, rfl, hkp, hF, .inl ⟨n1, n2, fun H1 s1 => ⟨_, rfl, ?_⟩⟩⟩
      exact iteT (raised s1 (by decide) k _ (fun _ _ _ _ z => z) _ _)
    · refine ⟨_, rfl, _, rfl, h, C, _, _, _, rfl, A0.ob, T0.cl, T0.nF, hfl_fields p, .ref a, Tp, p.tF, fs, rfl, hkp, hF, .inr ⟨hT, a, xs, rfl, S, fun H1 s1 => ⟨_, rfl, ?_⟩⟩⟩
      rw [hb]
      exact iteT (raised s1 (by decide) k _ (fun _ _ _ _ z => z) _ _)
    · refine ⟨_, rfl, _, rfl, h, C, _, _, _, rfl, A0.ob, T0.cl, T0.nF, hfl_fields p, .ref a, Tp, p.tF, fs, rfl, hkp, hF, .inr ⟨hT, a, _, rfl, S, fun H1 s1 => ⟨_, rfl, ?_⟩⟩⟩
      have hall : ((ws.map V.str).all fun y => oneOf y fs) = true := by
        rw [List.all_eq_true]
        intro y hy
        obtain ⟨z, hz, rfl⟩ := List.mem_map.mp hy
        exact decide_eq_true (hw z hz)
      rw [hall]
      refine iteF ?_
      have A1 := A0.same s1
      have S1 := S.same s1
      have G := A0.g
      refine ⟨_, rfl, h, C, _, _, _, rfl, A1.ob, T0.cl, T0.nN, hfl_names p, _, rfl, p.qN, _, rfl, dget_dk (k := (Sum.inr n : Key)) A1.n (nmv_val hn), _, rfl, ?_⟩
      refine seq_go S1.at' (fun hS => ?_) (fun hS => ?_)
      all_goals
        first
          | refine for_list (xs := ws.map V.str) (fun i σ H2 => ∃ (v : Option Nat) (z : Option V), σ = [some (.ref h), some (.str n), some (.ref a), some (hv v), z] ∧ v = fol os (nmv l n) (ws.take i) ∧ Same H1 H2) ⟨_, _, rfl, rfl, Same.refl _⟩ ?_ ?_ ?_
          | refine for_tup (xs := ws.map V.str) (fun i σ H2 => ∃ (v : Option Nat) (z : Option V), σ = [some (.ref h), some (.str n), some (.ref a), some (hv v), z] ∧ v = fol os (nmv l n) (ws.take i) ∧ Same H1 H2) ⟨_, _, rfl, rfl, Same.refl _⟩ ?_ ?_ ?_
        · rintro i σ H2 hi ⟨v, z, _, _, s2⟩
          first
            | exact s2.seq hS
            | exact sqt_same s2 hS
        · rintro i y σ H2 hy ⟨v, z, rfl, ev, s2⟩
          obtain ⟨f0, hf0, rfl⟩ := get_str hy
          have hf1 : f0 ∈ fs := hw f0 (List.mem_of_getElem? hf0)
          have A2 := A1.same s2
          have okv2 : okv os.length v := by
            rw [ev]
            exact fol_ok G.ook _ (okv_look G.lk n)
          refine ⟨_, rfl, rfl, _, rfl, ?_⟩
          refine ite_dec (fun hb => ?_) (fun hb => ?_)
          · have e0 : v = none := by
              cases v with
              | none => rfl
              | some k0 => exact absurd (of_decide_eq_true hb) (fun z => nomatch z)
            have e1 : hv (fol os (nmv l n) ws) = .non := by
              rw [fol_split (os := os) (i := i) (by rw [← ev, e0])]
              rfl
            have q := k H2 (s1.trans s2)
            rw [e1] at q
            exact q
          · cases v with
            | none => exact absurd rfl (of_decide_eq_false hb)
            | some k0 =>
              have hk0 : k0 < os.length := okv2
              have ho : os[k0]? = some os[k0] := List.getElem?_eq_getElem hk0
              have hd0 : k0 < p.ds.length := by rw [A2.o.len]; exact hk0
              have hdk : p.ds[k0]? = some p.ds[k0] := List.getElem?_eq_getElem hd0
              have hf2 : f0 ∈ os[k0].map (·.1) := by
                exact (G.oks _ (List.getElem_mem hk0)).mem_iff.mpr hf1
              refine ⟨_, rfl, h, C, _, _, _, rfl, A2.ob, T0.cl, T0.nO, hfl_objects p, _, rfl, p.qO, _, _, _, rfl, rfl, SqL.of A2.o.ls, atI_nat (j := k0) (by rw [List.getElem?_map, hdk]; rfl), _, rfl, p.ds[k0], hv (fld os k0 f0), rfl, dget_dk (k := (Sum.inr f0 : Key)) (A2.o.at' k0 _ _ hdk ho) (fld_val ho hf2), ?_⟩
              refine ⟨fld os k0 f0, _, rfl, ?_, s2⟩
              rw [fol_next hf0, ← ev]
              rfl
        · rintro σ H2 ⟨v, z, rfl, ev, s2⟩
          rw [List.length_map, List.take_length] at ev
          refine ⟨_, rfl, ?_⟩
          rw [ev]
          exact k _ (s1.trans s2)
end
end TW
set_option Elab.async false
set_option linter.all false
set_option maxRecDepth 100000
namespace TW
open PySem PySem.Spec PyProof.Rows L2 TL LamX NdefX LamQ
theorem Tabs.fr {T : List (Addr × Str)} {p c : Addr} {H H' : Hp} (t : Tabs T H) (P : Pool p c H) (f : Fr p c H H') : Tabs T H' := by
  obtain ⟨ys, i, j, h1, h2, _⟩ := P.ex
  have off : ∀ {b : Addr} {o : HO}, H b = some o → (∀ xs, o ≠ .lst xs) → H' b = some o := fun {b o} e n => f _ _ (fun z => by
    rw [z, h1] at e
    exact n _ (Option.some.inj e).symm) (fun z => by
    rw [z, h2] at e
    exact n _ (Option.some.inj e).symm) e
  intro q hq
  obtain ⟨ps, g1, g2, g3⟩ := t q hq
  refine ⟨ps, off g1 (fun xs z => nomatch z), g2, fun pos cv hc => ?_⟩
  obtain ⟨c', e1, e2⟩ := g3 pos cv hc
  exact ⟨c', e1, off e2 (fun xs z => by unfold CodeO at z; cases z)⟩
theorem seq_ext {K : PySem.W.Frag} {H H1 : Hp} {a : Addr} {xs : List V} (e : ExtN H H1) (h : SqL K H a xs) : SqL K H1 a xs := by
  rcases h with (h | ⟨o, h⟩) | h
  · exact .inl (.inl (e _ _ h fun ps z => nomatch z))
  · exact .inl (.inr ⟨o, e _ _ h fun ps z => nomatch z⟩)
  · exact .inr h
theorem Pool.extN {p c : Addr} {H H' : Hp} (P : Pool p c H) (e : ExtN H H') : Pool p c H' := by
  obtain ⟨xs, a2, m2, g1, g2, g3⟩ := P.ex
  exact ⟨P.ne, xs, a2, m2, e _ _ g1 (fun ps z => nomatch z), e _ _ g2 (fun ps z => nomatch z), g3⟩
/-- all but tables stays -/
structure SamE (H H' : Hp) : Prop where
  x : ExtN H H'
theorem SamE.g {H H' : Hp} (s : SamE H H') {b : Addr} {o : HO} (e : H b = some o) (nt : ∀ ps, o ≠ .tbl ps := by intro ps z; cases z) : H' b = some o := s.x b o e nt
theorem toE {H H' : Hp} (s : Same H H') : SamE H H' := ⟨fun b o e _ => s b o e⟩
theorem SamE.trans {H H1 H2 : Hp} (a : SamE H H1) (b : SamE H1 H2) : SamE H H2 := ⟨fun c o e nt => b.x c o (a.x c o e nt) nt⟩
theorem HeapAt.sameE {K : PySem.W.Frag} {C h : Addr} {H H' : Hp} {fs : List Str} {os : List Ob} {l : Ob} {p : HP} (A : HeapAt K C H h fs os l p) (s : SamE H H') : HeapAt K C H' h fs os l p :=
  ⟨s.g A.ob, s.g A.f, objs_ext s.x A.o, s.g A.n, s.g A.t, objs_ext s.x A.r, s.g A.m, A.lv, A.nd, A.lt, A.g⟩
end TW
set_option Elab.async false
set_option linter.all false
set_option maxRecDepth 100000
namespace TW
open PySem PySem.Spec PyProof.Rows L2 TL LamX NdefX LamQ
/-- where the parts of a Machine stand -/
structure MP where
  dx : Addr
  tF : Addr
  qV : Addr
  qC : Addr
  qS : Addr
  qZ : Addr
  qR : Addr
  qL : Addr
  qH : Addr
  qW : Addr
def mfl (p : MP) (st cp pu : Nat) : List (Str × V) := (putF "_before" (.non) (putF "_log" (.non) (putF "_kept_puts" (.non) (putF "_kept_copies" (.non) (putF "_views" (.ref p.qW) (putF "_reached" (.ref p.qH) (putF "_puts" (.int (pu : Int)) (putF "_copies" (.int (cp : Int)) (putF "_looks" (.ref p.qL) (putF "_readers" (.ref p.qR) (putF "_frozen" (.ref p.qZ) (putF "_sources" (.ref p.qS) (putF "_cells" (.ref p.qC) (putF "_variables" (.ref p.qV) (putF "_starts" (.int (st : Int)) (putF "fields" (.ref p.tF) []))))))))))))))))
theorem mn0_1 : ¬ (("fields" : Str) = "_starts") := by decide +kernel
theorem mn0_2 : ¬ (("fields" : Str) = "_variables") := by decide +kernel
theorem mn0_3 : ¬ (("fields" : Str) = "_cells") := by decide +kernel
theorem mn0_4 : ¬ (("fields" : Str) = "_sources") := by decide +kernel
theorem mn0_5 : ¬ (("fields" : Str) = "_frozen") := by decide +kernel
theorem mn0_6 : ¬ (("fields" : Str) = "_readers") := by decide +kernel
theorem mn0_7 : ¬ (("fields" : Str) = "_looks") := by decide +kernel
theorem mn0_8 : ¬ (("fields" : Str) = "_copies") := by decide +kernel
theorem mn0_9 : ¬ (("fields" : Str) = "_puts") := by decide +kernel
theorem mn0_10 : ¬ (("fields" : Str) = "_reached") := by decide +kernel
theorem mn0_11 : ¬ (("fields" : Str) = "_views") := by decide +kernel
theorem mn0_12 : ¬ (("fields" : Str) = "_kept_copies") := by decide +kernel
theorem mn0_13 : ¬ (("fields" : Str) = "_kept_puts") := by decide +kernel
theorem mn0_14 : ¬ (("fields" : Str) = "_log") := by decide +kernel
theorem mn0_15 : ¬ (("fields" : Str) = "_before") := by decide +kernel
theorem mn1_2 : ¬ (("_starts" : Str) = "_variables") := by decide +kernel
theorem mn1_3 : ¬ (("_starts" : Str) = "_cells") := by decide +kernel
theorem mn1_4 : ¬ (("_starts" : Str) = "_sources") := by decide +kernel
theorem mn1_5 : ¬ (("_starts" : Str) = "_frozen") := by decide +kernel
theorem mn1_6 : ¬ (("_starts" : Str) = "_readers") := by decide +kernel
theorem mn1_7 : ¬ (("_starts" : Str) = "_looks") := by decide +kernel
theorem mn1_8 : ¬ (("_starts" : Str) = "_copies") := by decide +kernel
theorem mn1_9 : ¬ (("_starts" : Str) = "_puts") := by decide +kernel
theorem mn1_10 : ¬ (("_starts" : Str) = "_reached") := by decide +kernel
theorem mn1_11 : ¬ (("_starts" : Str) = "_views") := by decide +kernel
theorem mn1_12 : ¬ (("_starts" : Str) = "_kept_copies") := by decide +kernel
theorem mn1_13 : ¬ (("_starts" : Str) = "_kept_puts") := by decide +kernel
theorem mn1_14 : ¬ (("_starts" : Str) = "_log") := by decide +kernel
theorem mn1_15 : ¬ (("_starts" : Str) = "_before") := by decide +kernel
theorem mn2_3 : ¬ (("_variables" : Str) = "_cells") := by decide +kernel
theorem mn2_4 : ¬ (("_variables" : Str) = "_sources") := by decide +kernel
theorem mn2_5 : ¬ (("_variables" : Str) = "_frozen") := by decide +kernel
theorem mn2_6 : ¬ (("_variables" : Str) = "_readers") := by decide +kernel
theorem mn2_7 : ¬ (("_variables" : Str) = "_looks") := by decide +kernel
theorem mn2_8 : ¬ (("_variables" : Str) = "_copies") := by decide +kernel
theorem mn2_9 : ¬ (("_variables" : Str) = "_puts") := by decide +kernel
theorem mn2_10 : ¬ (("_variables" : Str) = "_reached") := by decide +kernel
theorem mn2_11 : ¬ (("_variables" : Str) = "_views") := by decide +kernel
theorem mn2_12 : ¬ (("_variables" : Str) = "_kept_copies") := by decide +kernel
theorem mn2_13 : ¬ (("_variables" : Str) = "_kept_puts") := by decide +kernel
theorem mn2_14 : ¬ (("_variables" : Str) = "_log") := by decide +kernel
theorem mn2_15 : ¬ (("_variables" : Str) = "_before") := by decide +kernel
theorem mn3_4 : ¬ (("_cells" : Str) = "_sources") := by decide +kernel
theorem mn3_5 : ¬ (("_cells" : Str) = "_frozen") := by decide +kernel
theorem mn3_6 : ¬ (("_cells" : Str) = "_readers") := by decide +kernel
theorem mn3_7 : ¬ (("_cells" : Str) = "_looks") := by decide +kernel
theorem mn3_8 : ¬ (("_cells" : Str) = "_copies") := by decide +kernel
theorem mn3_9 : ¬ (("_cells" : Str) = "_puts") := by decide +kernel
theorem mn3_10 : ¬ (("_cells" : Str) = "_reached") := by decide +kernel
theorem mn3_11 : ¬ (("_cells" : Str) = "_views") := by decide +kernel
theorem mn3_12 : ¬ (("_cells" : Str) = "_kept_copies") := by decide +kernel
theorem mn3_13 : ¬ (("_cells" : Str) = "_kept_puts") := by decide +kernel
theorem mn3_14 : ¬ (("_cells" : Str) = "_log") := by decide +kernel
theorem mn3_15 : ¬ (("_cells" : Str) = "_before") := by decide +kernel
theorem mn4_5 : ¬ (("_sources" : Str) = "_frozen") := by decide +kernel
theorem mn4_6 : ¬ (("_sources" : Str) = "_readers") := by decide +kernel
theorem mn4_7 : ¬ (("_sources" : Str) = "_looks") := by decide +kernel
theorem mn4_8 : ¬ (("_sources" : Str) = "_copies") := by decide +kernel
theorem mn4_9 : ¬ (("_sources" : Str) = "_puts") := by decide +kernel
theorem mn4_10 : ¬ (("_sources" : Str) = "_reached") := by decide +kernel
theorem mn4_11 : ¬ (("_sources" : Str) = "_views") := by decide +kernel
theorem mn4_12 : ¬ (("_sources" : Str) = "_kept_copies") := by decide +kernel
theorem mn4_13 : ¬ (("_sources" : Str) = "_kept_puts") := by decide +kernel
theorem mn4_14 : ¬ (("_sources" : Str) = "_log") := by decide +kernel
theorem mn4_15 : ¬ (("_sources" : Str) = "_before") := by decide +kernel
theorem mn5_6 : ¬ (("_frozen" : Str) = "_readers") := by decide +kernel
theorem mn5_7 : ¬ (("_frozen" : Str) = "_looks") := by decide +kernel
theorem mn5_8 : ¬ (("_frozen" : Str) = "_copies") := by decide +kernel
theorem mn5_9 : ¬ (("_frozen" : Str) = "_puts") := by decide +kernel
theorem mn5_10 : ¬ (("_frozen" : Str) = "_reached") := by decide +kernel
theorem mn5_11 : ¬ (("_frozen" : Str) = "_views") := by decide +kernel
theorem mn5_12 : ¬ (("_frozen" : Str) = "_kept_copies") := by decide +kernel
theorem mn5_13 : ¬ (("_frozen" : Str) = "_kept_puts") := by decide +kernel
theorem mn5_14 : ¬ (("_frozen" : Str) = "_log") := by decide +kernel
theorem mn5_15 : ¬ (("_frozen" : Str) = "_before") := by decide +kernel
theorem mn6_7 : ¬ (("_readers" : Str) = "_looks") := by decide +kernel
theorem mn6_8 : ¬ (("_readers" : Str) = "_copies") := by decide +kernel
theorem mn6_9 : ¬ (("_readers" : Str) = "_puts") := by decide +kernel
theorem mn6_10 : ¬ (("_readers" : Str) = "_reached") := by decide +kernel
theorem mn6_11 : ¬ (("_readers" : Str) = "_views") := by decide +kernel
theorem mn6_12 : ¬ (("_readers" : Str) = "_kept_copies") := by decide +kernel
theorem mn6_13 : ¬ (("_readers" : Str) = "_kept_puts") := by decide +kernel
theorem mn6_14 : ¬ (("_readers" : Str) = "_log") := by decide +kernel
theorem mn6_15 : ¬ (("_readers" : Str) = "_before") := by decide +kernel
theorem mn7_8 : ¬ (("_looks" : Str) = "_copies") := by decide +kernel
theorem mn7_9 : ¬ (("_looks" : Str) = "_puts") := by decide +kernel
theorem mn7_10 : ¬ (("_looks" : Str) = "_reached") := by decide +kernel
theorem mn7_11 : ¬ (("_looks" : Str) = "_views") := by decide +kernel
theorem mn7_12 : ¬ (("_looks" : Str) = "_kept_copies") := by decide +kernel
theorem mn7_13 : ¬ (("_looks" : Str) = "_kept_puts") := by decide +kernel
theorem mn7_14 : ¬ (("_looks" : Str) = "_log") := by decide +kernel
theorem mn7_15 : ¬ (("_looks" : Str) = "_before") := by decide +kernel
theorem mn8_9 : ¬ (("_copies" : Str) = "_puts") := by decide +kernel
theorem mn8_10 : ¬ (("_copies" : Str) = "_reached") := by decide +kernel
theorem mn8_11 : ¬ (("_copies" : Str) = "_views") := by decide +kernel
theorem mn8_12 : ¬ (("_copies" : Str) = "_kept_copies") := by decide +kernel
theorem mn8_13 : ¬ (("_copies" : Str) = "_kept_puts") := by decide +kernel
theorem mn8_14 : ¬ (("_copies" : Str) = "_log") := by decide +kernel
theorem mn8_15 : ¬ (("_copies" : Str) = "_before") := by decide +kernel
theorem mn9_10 : ¬ (("_puts" : Str) = "_reached") := by decide +kernel
theorem mn9_11 : ¬ (("_puts" : Str) = "_views") := by decide +kernel
theorem mn9_12 : ¬ (("_puts" : Str) = "_kept_copies") := by decide +kernel
theorem mn9_13 : ¬ (("_puts" : Str) = "_kept_puts") := by decide +kernel
theorem mn9_14 : ¬ (("_puts" : Str) = "_log") := by decide +kernel
theorem mn9_15 : ¬ (("_puts" : Str) = "_before") := by decide +kernel
theorem mn10_11 : ¬ (("_reached" : Str) = "_views") := by decide +kernel
theorem mn10_12 : ¬ (("_reached" : Str) = "_kept_copies") := by decide +kernel
theorem mn10_13 : ¬ (("_reached" : Str) = "_kept_puts") := by decide +kernel
theorem mn10_14 : ¬ (("_reached" : Str) = "_log") := by decide +kernel
theorem mn10_15 : ¬ (("_reached" : Str) = "_before") := by decide +kernel
theorem mn11_12 : ¬ (("_views" : Str) = "_kept_copies") := by decide +kernel
theorem mn11_13 : ¬ (("_views" : Str) = "_kept_puts") := by decide +kernel
theorem mn11_14 : ¬ (("_views" : Str) = "_log") := by decide +kernel
theorem mn11_15 : ¬ (("_views" : Str) = "_before") := by decide +kernel
theorem mn12_13 : ¬ (("_kept_copies" : Str) = "_kept_puts") := by decide +kernel
theorem mn12_14 : ¬ (("_kept_copies" : Str) = "_log") := by decide +kernel
theorem mn12_15 : ¬ (("_kept_copies" : Str) = "_before") := by decide +kernel
theorem mn13_14 : ¬ (("_kept_puts" : Str) = "_log") := by decide +kernel
theorem mn13_15 : ¬ (("_kept_puts" : Str) = "_before") := by decide +kernel
theorem mn14_15 : ¬ (("_log" : Str) = "_before") := by decide +kernel
theorem mfl_fields (p : MP) (st cp pu : Nat) : (mfl p st cp pu).lookup ("fields" : Str) = some (.ref p.tF) := by
  unfold mfl
  rw [lookup_putF, if_neg mn0_15, lookup_putF, if_neg mn0_14, lookup_putF, if_neg mn0_13, lookup_putF, if_neg mn0_12, lookup_putF, if_neg mn0_11, lookup_putF, if_neg mn0_10, lookup_putF, if_neg mn0_9, lookup_putF, if_neg mn0_8, lookup_putF, if_neg mn0_7, lookup_putF, if_neg mn0_6, lookup_putF, if_neg mn0_5, lookup_putF, if_neg mn0_4, lookup_putF, if_neg mn0_3, lookup_putF, if_neg mn0_2, lookup_putF, if_neg mn0_1, lookup_putF, if_pos rfl]
theorem mfl_starts (p : MP) (st cp pu : Nat) : (mfl p st cp pu).lookup ("_starts" : Str) = some (.int (st : Int)) := by
  unfold mfl
  rw [lookup_putF, if_neg mn1_15, lookup_putF, if_neg mn1_14, lookup_putF, if_neg mn1_13, lookup_putF, if_neg mn1_12, lookup_putF, if_neg mn1_11, lookup_putF, if_neg mn1_10, lookup_putF, if_neg mn1_9, lookup_putF, if_neg mn1_8, lookup_putF, if_neg mn1_7, lookup_putF, if_neg mn1_6, lookup_putF, if_neg mn1_5, lookup_putF, if_neg mn1_4, lookup_putF, if_neg mn1_3, lookup_putF, if_neg mn1_2, lookup_putF, if_pos rfl]
theorem mfl_variables (p : MP) (st cp pu : Nat) : (mfl p st cp pu).lookup ("_variables" : Str) = some (.ref p.qV) := by
  unfold mfl
  rw [lookup_putF, if_neg mn2_15, lookup_putF, if_neg mn2_14, lookup_putF, if_neg mn2_13, lookup_putF, if_neg mn2_12, lookup_putF, if_neg mn2_11, lookup_putF, if_neg mn2_10, lookup_putF, if_neg mn2_9, lookup_putF, if_neg mn2_8, lookup_putF, if_neg mn2_7, lookup_putF, if_neg mn2_6, lookup_putF, if_neg mn2_5, lookup_putF, if_neg mn2_4, lookup_putF, if_neg mn2_3, lookup_putF, if_pos rfl]
theorem mfl_cells (p : MP) (st cp pu : Nat) : (mfl p st cp pu).lookup ("_cells" : Str) = some (.ref p.qC) := by
  unfold mfl
  rw [lookup_putF, if_neg mn3_15, lookup_putF, if_neg mn3_14, lookup_putF, if_neg mn3_13, lookup_putF, if_neg mn3_12, lookup_putF, if_neg mn3_11, lookup_putF, if_neg mn3_10, lookup_putF, if_neg mn3_9, lookup_putF, if_neg mn3_8, lookup_putF, if_neg mn3_7, lookup_putF, if_neg mn3_6, lookup_putF, if_neg mn3_5, lookup_putF, if_neg mn3_4, lookup_putF, if_pos rfl]
theorem mfl_sources (p : MP) (st cp pu : Nat) : (mfl p st cp pu).lookup ("_sources" : Str) = some (.ref p.qS) := by
  unfold mfl
  rw [lookup_putF, if_neg mn4_15, lookup_putF, if_neg mn4_14, lookup_putF, if_neg mn4_13, lookup_putF, if_neg mn4_12, lookup_putF, if_neg mn4_11, lookup_putF, if_neg mn4_10, lookup_putF, if_neg mn4_9, lookup_putF, if_neg mn4_8, lookup_putF, if_neg mn4_7, lookup_putF, if_neg mn4_6, lookup_putF, if_neg mn4_5, lookup_putF, if_pos rfl]
theorem mfl_frozen (p : MP) (st cp pu : Nat) : (mfl p st cp pu).lookup ("_frozen" : Str) = some (.ref p.qZ) := by
  unfold mfl
  rw [lookup_putF, if_neg mn5_15, lookup_putF, if_neg mn5_14, lookup_putF, if_neg mn5_13, lookup_putF, if_neg mn5_12, lookup_putF, if_neg mn5_11, lookup_putF, if_neg mn5_10, lookup_putF, if_neg mn5_9, lookup_putF, if_neg mn5_8, lookup_putF, if_neg mn5_7, lookup_putF, if_neg mn5_6, lookup_putF, if_pos rfl]
theorem mfl_readers (p : MP) (st cp pu : Nat) : (mfl p st cp pu).lookup ("_readers" : Str) = some (.ref p.qR) := by
  unfold mfl
  rw [lookup_putF, if_neg mn6_15, lookup_putF, if_neg mn6_14, lookup_putF, if_neg mn6_13, lookup_putF, if_neg mn6_12, lookup_putF, if_neg mn6_11, lookup_putF, if_neg mn6_10, lookup_putF, if_neg mn6_9, lookup_putF, if_neg mn6_8, lookup_putF, if_neg mn6_7, lookup_putF, if_pos rfl]
theorem mfl_looks (p : MP) (st cp pu : Nat) : (mfl p st cp pu).lookup ("_looks" : Str) = some (.ref p.qL) := by
  unfold mfl
  rw [lookup_putF, if_neg mn7_15, lookup_putF, if_neg mn7_14, lookup_putF, if_neg mn7_13, lookup_putF, if_neg mn7_12, lookup_putF, if_neg mn7_11, lookup_putF, if_neg mn7_10, lookup_putF, if_neg mn7_9, lookup_putF, if_neg mn7_8, lookup_putF, if_pos rfl]
theorem mfl_copies (p : MP) (st cp pu : Nat) : (mfl p st cp pu).lookup ("_copies" : Str) = some (.int (cp : Int)) := by
  unfold mfl
  rw [lookup_putF, if_neg mn8_15, lookup_putF, if_neg mn8_14, lookup_putF, if_neg mn8_13, lookup_putF, if_neg mn8_12, lookup_putF, if_neg mn8_11, lookup_putF, if_neg mn8_10, lookup_putF, if_neg mn8_9, lookup_putF, if_pos rfl]
theorem mfl_puts (p : MP) (st cp pu : Nat) : (mfl p st cp pu).lookup ("_puts" : Str) = some (.int (pu : Int)) := by
  unfold mfl
  rw [lookup_putF, if_neg mn9_15, lookup_putF, if_neg mn9_14, lookup_putF, if_neg mn9_13, lookup_putF, if_neg mn9_12, lookup_putF, if_neg mn9_11, lookup_putF, if_neg mn9_10, lookup_putF, if_pos rfl]
theorem mfl_reached (p : MP) (st cp pu : Nat) : (mfl p st cp pu).lookup ("_reached" : Str) = some (.ref p.qH) := by
  unfold mfl
  rw [lookup_putF, if_neg mn10_15, lookup_putF, if_neg mn10_14, lookup_putF, if_neg mn10_13, lookup_putF, if_neg mn10_12, lookup_putF, if_neg mn10_11, lookup_putF, if_pos rfl]
theorem mfl_views (p : MP) (st cp pu : Nat) : (mfl p st cp pu).lookup ("_views" : Str) = some (.ref p.qW) := by
  unfold mfl
  rw [lookup_putF, if_neg mn11_15, lookup_putF, if_neg mn11_14, lookup_putF, if_neg mn11_13, lookup_putF, if_neg mn11_12, lookup_putF, if_pos rfl]
theorem mfl_kept_copies (p : MP) (st cp pu : Nat) : (mfl p st cp pu).lookup ("_kept_copies" : Str) = some (.non) := by
  unfold mfl
  rw [lookup_putF, if_neg mn12_15, lookup_putF, if_neg mn12_14, lookup_putF, if_neg mn12_13, lookup_putF, if_pos rfl]
theorem mfl_kept_puts (p : MP) (st cp pu : Nat) : (mfl p st cp pu).lookup ("_kept_puts" : Str) = some (.non) := by
  unfold mfl
  rw [lookup_putF, if_neg mn13_15, lookup_putF, if_neg mn13_14, lookup_putF, if_pos rfl]
theorem mfl_log (p : MP) (st cp pu : Nat) : (mfl p st cp pu).lookup ("_log" : Str) = some (.non) := by
  unfold mfl
  rw [lookup_putF, if_neg mn14_15, lookup_putF, if_pos rfl]
theorem mfl_before (p : MP) (st cp pu : Nat) : (mfl p st cp pu).lookup ("_before" : Str) = some (.non) := by
  unfold mfl
  rw [lookup_putF, if_pos rfl]
theorem mfl_none (p : MP) (st cp pu : Nat) {m : Str} (h0 : ¬ m = "fields") (h1 : ¬ m = "_starts") (h2 : ¬ m = "_variables") (h3 : ¬ m = "_cells") (h4 : ¬ m = "_sources") (h5 : ¬ m = "_frozen") (h6 : ¬ m = "_readers") (h7 : ¬ m = "_looks") (h8 : ¬ m = "_copies") (h9 : ¬ m = "_puts") (h10 : ¬ m = "_reached") (h11 : ¬ m = "_views") (h12 : ¬ m = "_kept_copies") (h13 : ¬ m = "_kept_puts") (h14 : ¬ m = "_log") (h15 : ¬ m = "_before") : (mfl p st cp pu).lookup m = none := by
  unfold mfl
  rw [lookup_putF, if_neg h15, lookup_putF, if_neg h14, lookup_putF, if_neg h13, lookup_putF, if_neg h12, lookup_putF, if_neg h11, lookup_putF, if_neg h10, lookup_putF, if_neg h9, lookup_putF, if_neg h8, lookup_putF, if_neg h7, lookup_putF, if_neg h6, lookup_putF, if_neg h5, lookup_putF, if_neg h4, lookup_putF, if_neg h3, lookup_putF, if_neg h2, lookup_putF, if_neg h1, lookup_putF, if_neg h0]
  rfl
theorem mfl_len (p : MP) (st cp pu : Nat) : (mfl p st cp pu).length < 1000 := by
  have h : ∀ (f : Str) (v : V) (l : List (Str × V)), (putF f v l).length ≤ l.length + 1 := fun f v l => length_putF f v l
  unfold mfl
  exact Nat.lt_of_le_of_lt (Nat.le_trans (h _ _ _) (Nat.succ_le_succ (Nat.le_trans (h _ _ _) (Nat.succ_le_succ (Nat.le_trans (h _ _ _) (Nat.succ_le_succ (Nat.le_trans (h _ _ _) (Nat.succ_le_succ (Nat.le_trans (h _ _ _) (Nat.succ_le_succ (Nat.le_trans (h _ _ _) (Nat.succ_le_succ (Nat.le_trans (h _ _ _) (Nat.succ_le_succ (Nat.le_trans (h _ _ _) (Nat.succ_le_succ (Nat.le_trans (h _ _ _) (Nat.succ_le_succ (Nat.le_trans (h _ _ _) (Nat.succ_le_succ (Nat.le_trans (h _ _ _) (Nat.succ_le_succ (Nat.le_trans (h _ _ _) (Nat.succ_le_succ (Nat.le_trans (h _ _ _) (Nat.succ_le_succ (Nat.le_trans (h _ _ _) (Nat.succ_le_succ (Nat.le_trans (h _ _ _) (Nat.succ_le_succ (h _ _ _))))))))))))))))))))))))))))))) (by decide)
theorem mf_len : ∀ (l : List (Str × V)) (f : Str) (v : V) (k : Nat), l.length ≤ k → (putF f v l).length ≤ k + 1 := fun l f v k h => Nat.le_trans (length_putF f v l) (Nat.succ_le_succ h)
/-- what the walk asks of the class -/
structure HCM (K : PySem.W.Frag) (mg : Str → Option Value) (C : Addr) : Prop where
  cl : Cls K C
  g : mg "Machine" = some (.ref C)
  n_fields : NoAttr K C "fields"
  n_starts : NoAttr K C "_starts"
  n_variables : NoAttr K C "_variables"
  n_cells : NoAttr K C "_cells"
  n_sources : NoAttr K C "_sources"
  n_frozen : NoAttr K C "_frozen"
  n_readers : NoAttr K C "_readers"
  n_looks : NoAttr K C "_looks"
  n_copies : NoAttr K C "_copies"
  n_puts : NoAttr K C "_puts"
  n_reached : NoAttr K C "_reached"
  n_views : NoAttr K C "_views"
  n_kept_copies : NoAttr K C "_kept_copies"
  n_kept_puts : NoAttr K C "_kept_puts"
  n_log : NoAttr K C "_log"
  n_before : NoAttr K C "_before"
/-- whether the own objects are frozen -/
def frK (st : Nat) (bs : List Bool) : List (Key × V) := bs.zipIdx.map fun p => (Sum.inl ((st + p.2 : Nat) : Int), V.bl p.1)
/-- what a Machine holds -/
structure MS where
  starts : Nat
  vars : List (Str × Option Nat)
  cells : List Addr
  frz : List Bool
  kS : List (Key × V)
/-- a Machine at h, of plain values -/
structure MachAt (C : Addr) (H : Hp) (h : Addr) (p : MP) (fs : List Str) (m : MS) : Prop where
  ob : H h = some (.ins C p.dx (mfl p m.starts 0 0))
  f : H p.tF = some (.tup (fs.map V.str))
  v : H p.qV = some (.dK (dk m.vars))
  c : H p.qC = some (.dK (enK (m.cells.map V.ref)))
  s : H p.qS = some (.dK m.kS)
  z : H p.qZ = some (.dK (frK m.starts m.frz))
  r : H p.qR = some (.dK [])
  l : H p.qL = some (.dK [])
  a : H p.qH = some (.lst [])
  w : H p.qW = some (.dK [])
  nd : [p.qV, p.qC, p.qS, p.qZ, p.qR, p.qL, p.qW].Nodup
  len : m.cells.length = m.starts + m.frz.length
  lS : m.kS.length ≤ m.frz.length
theorem MachAt.same {C : Addr} {H H' : Hp} {h : Addr} {p : MP} {fs : List Str} {m : MS} (M : MachAt C H h p fs m) (s : Same H H') : MachAt C H' h p fs m :=
  ⟨s _ _ M.ob, s _ _ M.f, s _ _ M.v, s _ _ M.c, s _ _ M.s, s _ _ M.z, s _ _ M.r, s _ _ M.l, s _ _ M.a, s _ _ M.w, M.nd, M.len, M.lS⟩
end TW
set_option Elab.async false
set_option linter.all false
set_option maxRecDepth 100000
namespace TW
open PySem PySem.Spec PyProof.Rows L2 TL LamX NdefX LamQ
def spMach (K : PySem.W.Frag) (C : Addr) : Sp := fun vs H Q _ => ∃ (h dx tF aO aN : Addr) (fs : List Str) (ds : List Addr) (l : Ob), vs = [.ref h, .ref tF, .ref aO, .ref aN] ∧ H h = some (.ins C dx []) ∧ H tF = some (.tup (fs.map V.str)) ∧ H aO = some (.lst (ds.map V.ref)) ∧ ds.length ≤ 200 ∧ H aN = some (.dK (dk l)) ∧ l.length ≤ 10 ∧
  ∀ (p : MP) (H' : Hp), p.tF = tF → (∀ b o, H b = some o → b ≠ h → H' b = some o) → (∀ x, H' x = none → H x = none) → (H p.qV = none ∧ H p.qC = none ∧ H p.qS = none ∧ H p.qZ = none ∧ H p.qR = none ∧ H p.qL = none ∧ H p.qW = none) → MachAt C H' h p fs ⟨ds.length, l, ds, [], []⟩ → Q .non H'
/-- under way: the object at h is being built -/
structure Bd (C dx h : Addr) (H G : Hp) (n : Nat) (fl : List (Str × V)) : Prop where
  ob : G h = some (.ins C dx fl)
  fr : ∀ b o, H b = some o → b ≠ h → G b = some o
  gr : ∀ x, G x = none → H x = none
  ln : fl.length ≤ n
theorem Bd.fld {C dx h : Addr} {H G : Hp} {n : Nat} {fl : List (Str × V)} (B : Bd C dx h H G n fl) (f : Str) (v : V) : Bd C dx h H (upd G h (.ins C dx (putF f v fl))) (n + 1) (putF f v fl) :=
  ⟨upd_same, fun b o e ne => (upd_ne ne).trans (B.fr b o e ne), fun x e => by
    by_cases z : x = h
    · rw [z, upd_same] at e
      cases e
    · rw [upd_ne z] at e
      exact B.gr x e, Nat.le_trans (length_putF f v fl) (Nat.succ_le_succ B.ln)⟩
theorem Bd.new {C dx h : Addr} {H G : Hp} {n : Nat} {fl : List (Str × V)} (B : Bd C dx h H G n fl) {q : Addr} {o : HO} (nq : G q = none) : Bd C dx h H (upd G q o) n fl :=
  ⟨(upd_ne (ne_of_none B.ob nq)).trans B.ob, fun b u e ne => (upd_ne (ne_of_none (B.fr b u e ne) nq)).trans (B.fr b u e ne), fun x e => by
    by_cases z : x = q
    · rw [z, upd_same] at e
      cases e
    · rw [upd_ne z] at e
      exact B.gr x e, B.ln⟩
abbrev S_Machine___init__ : Stmt := inClass (topS 30) 0
abbrev N_Machine___init__ : List Str := ["self", "fields", "objects", "names"]
abbrev P_Machine___init__ : List Str := ["self", "fields", "objects", "names"]
theorem sc_Machine___init__ : FnScope N_Machine___init__ P_Machine___init__ (defScope S_Machine___init__) := ⟨rfl, rfl, rfl, by decide +kernel, rfl, by decide +kernel, by decide +kernel⟩
section
variable {P : Program} {w : World} {K : PySem.W.Frag} {mg : Str → Option Value} {base : Heap}
set_option maxHeartbeats 16000000 in
theorem ok_mach {f C : Addr} {fd : FuncData} (F : Fun K "__init__" "Machine.__init__" S_Machine___init__ f fd) (B : Bl mg) (T0 : HCM K mg C) : FnOk P w K mg base CX0 1 f fd P_Machine___init__ (spMach K C) := by
  refine F.ok sc_Machine___init__ (fun vs H Q E h => ?_) (fun cdv A outer s H vs Q E hr h => ?_)
  · obtain ⟨h, dx, tF, aO, aN, fs, ds, l, rfl, _⟩ := h
    rfl
  · obtain ⟨h, dx, tF, aO, aN, fs, ds, l, rfl, hh, hF, hO, d200, hN, l10, k⟩ := h
    refine ⟨_, (pss_cons (ps_fld (pv 0) (pv 1) rfl)
 (pss_cons (ps_fld (pv 0) (pe_callB call_len_seq (by rfl) B.m_len PySem.boot_len (pa_cons (pv 2) pa_nil)) rfl)
 (pss_cons (ps_fld (pv 0) (pe_callTy call_dictD (by rfl) B.m_dict (by decide +kernel) (pa_cons (pv 3) pa_nil)) rfl)
 (pss_cons (ps_fld (pv 0) (pe_dictEn rfl (by rfl) B.m_dict (by rfl) B.m_enumerate (pv 2)) rfl)
 (pss_cons (ps_fld (pv 0) pe_dnewK rfl)
 (pss_cons (ps_fld (pv 0) pe_dnewK rfl)
 (pss_cons (ps_fld (pv 0) pe_dnewK rfl)
 (pss_cons (ps_fld (pv 0) pe_dnewK rfl)
 (pss_cons (ps_fld (pv 0) pe_int rfl)
 (pss_cons (ps_fld (pv 0) pe_int rfl)
 (pss_cons (ps_fld (pv 0) (pe_lst pa_nil) rfl)
 (pss_cons (ps_fld (pv 0) pe_dnewK rfl)
 (pss_cons (ps_fld (pv 0) pe_non rfl)
 (pss_cons (ps_fld (pv 0) pe_non rfl)
 (pss_cons (ps_fld (pv 0) pe_non rfl)
 (pss_one (ps_fld (pv 0) pe_non rfl))))))))))))))))), ?_⟩
    have B0 : Bd C dx h H H 0 [] := ⟨hh, fun b o e _ => e, fun x e => e, Nat.le_refl _⟩
    have nF : tF ≠ h := fun z => by rw [z, hh] at hF; cases hF
    have nO : aO ≠ h := fun z => by rw [z, hh] at hO; cases hO
    have nN : aN ≠ h := fun z => by rw [z, hh] at hN; cases hN
    have lt : ∀ {n : Nat}, n ≤ 20 → ∀ {fl : List (Str × V)}, fl.length ≤ n → fl.length < 1000 := fun a _ b => by omega
    -- fields, starts
    refine ⟨_, rfl, _, rfl, h, C, dx, _, rfl, B0.ob, T0.cl, T0.n_fields, lt (by decide) B0.ln, ?_⟩
    have B1 := B0.fld "fields" (.ref tF)
    generalize upd H h (HO.ins C dx (putF "fields" (.ref tF) [])) = G1 at B1 ⊢
    have hLL : ((ds.map V.ref).length : Int) = (ds.length : Int) := by rw [List.length_map]
    refine ⟨_, rfl, aO, _, rfl, .inl (SqL.of (B1.fr _ _ hO nO)), ?_⟩
    rw [hLL]
    refine ⟨_, rfl, h, C, dx, _, rfl, B1.ob, T0.cl, T0.n_starts, lt (by decide) B1.ln, ?_⟩
    have B2 := B1.fld "_starts" (.int (ds.length : Int))
    generalize upd G1 h (HO.ins C dx (putF "_starts" (.int (ds.length : Int)) (putF "fields" (.ref tF) []))) = G2 at B2 ⊢
    refine ⟨_, rfl, aN, _, rfl, .inl (B2.fr _ _ hN nN), fun qV e_qV => ?_⟩
    have f_qV : H qV = none := B2.gr _ e_qV
    have n_qV : qV ≠ h := fun z => by rw [z, B2.ob] at e_qV; cases e_qV
    have B3 := B2.new (o := .dK (dk l)) e_qV
    have w_qV : upd G2 qV (.dK (dk l)) qV = some (.dK (dk l)) := upd_same
    generalize upd G2 qV (.dK (dk l)) = G3 at B3 w_qV ⊢
    refine ⟨_, rfl, h, C, dx, _, rfl, B3.ob, T0.cl, T0.n_variables, lt (by decide) B3.ln, ?_⟩
    have B4 := B3.fld "_variables" (.ref qV)
    replace w_qV := (upd_ne (a := h) (o := HO.ins C dx (putF "_variables" (.ref qV) (putF "_starts" (.int (ds.length : Int)) (putF "fields" (.ref tF) [])))) n_qV).trans w_qV
    generalize upd G3 h (HO.ins C dx (putF "_variables" (.ref qV) (putF "_starts" (.int (ds.length : Int)) (putF "fields" (.ref tF) [])))) = G4 at B4 w_qV ⊢
    refine ⟨_, rfl, aO, _, rfl, SqL.of (B4.fr _ _ hO nO), fun qC e_qC => ?_⟩
    have f_qC : H qC = none := B4.gr _ e_qC
    have n_qC : qC ≠ h := fun z => by rw [z, B4.ob] at e_qC; cases e_qC
    have d_qV_qC : qV ≠ qC := ne_of_none w_qV e_qC
    replace w_qV := (upd_ne (a := qC) (o := .dK (enK (ds.map V.ref))) d_qV_qC).trans w_qV
    have B5 := B4.new (o := .dK (enK (ds.map V.ref))) e_qC
    have w_qC : upd G4 qC (.dK (enK (ds.map V.ref))) qC = some (.dK (enK (ds.map V.ref))) := upd_same
    generalize upd G4 qC (.dK (enK (ds.map V.ref))) = G5 at B5 w_qV w_qC ⊢
    refine ⟨_, rfl, h, C, dx, _, rfl, B5.ob, T0.cl, T0.n_cells, lt (by decide) B5.ln, ?_⟩
    have B6 := B5.fld "_cells" (.ref qC)
    replace w_qV := (upd_ne (a := h) (o := HO.ins C dx (putF "_cells" (.ref qC) (putF "_variables" (.ref qV) (putF "_starts" (.int (ds.length : Int)) (putF "fields" (.ref tF) []))))) n_qV).trans w_qV
    replace w_qC := (upd_ne (a := h) (o := HO.ins C dx (putF "_cells" (.ref qC) (putF "_variables" (.ref qV) (putF "_starts" (.int (ds.length : Int)) (putF "fields" (.ref tF) []))))) n_qC).trans w_qC
    generalize upd G5 h (HO.ins C dx (putF "_cells" (.ref qC) (putF "_variables" (.ref qV) (putF "_starts" (.int (ds.length : Int)) (putF "fields" (.ref tF) []))))) = G6 at B6 w_qV w_qC ⊢
    refine fun qS e_qS => ?_
    have f_qS : H qS = none := B6.gr _ e_qS
    have n_qS : qS ≠ h := fun z => by rw [z, B6.ob] at e_qS; cases e_qS
    have d_qV_qS : qV ≠ qS := ne_of_none w_qV e_qS
    replace w_qV := (upd_ne (a := qS) (o := .dK []) d_qV_qS).trans w_qV
    have d_qC_qS : qC ≠ qS := ne_of_none w_qC e_qS
    replace w_qC := (upd_ne (a := qS) (o := .dK []) d_qC_qS).trans w_qC
    have B7 := B6.new (o := .dK []) e_qS
    have w_qS : upd G6 qS (.dK []) qS = some (.dK []) := upd_same
    generalize upd G6 qS (.dK []) = G7 at B7 w_qV w_qC w_qS ⊢
    refine ⟨_, rfl, h, C, dx, _, rfl, B7.ob, T0.cl, T0.n_sources, lt (by decide) B7.ln, ?_⟩
    have B8 := B7.fld "_sources" (.ref qS)
    replace w_qV := (upd_ne (a := h) (o := HO.ins C dx (putF "_sources" (.ref qS) (putF "_cells" (.ref qC) (putF "_variables" (.ref qV) (putF "_starts" (.int (ds.length : Int)) (putF "fields" (.ref tF) [])))))) n_qV).trans w_qV
    replace w_qC := (upd_ne (a := h) (o := HO.ins C dx (putF "_sources" (.ref qS) (putF "_cells" (.ref qC) (putF "_variables" (.ref qV) (putF "_starts" (.int (ds.length : Int)) (putF "fields" (.ref tF) [])))))) n_qC).trans w_qC
    replace w_qS := (upd_ne (a := h) (o := HO.ins C dx (putF "_sources" (.ref qS) (putF "_cells" (.ref qC) (putF "_variables" (.ref qV) (putF "_starts" (.int (ds.length : Int)) (putF "fields" (.ref tF) [])))))) n_qS).trans w_qS
    generalize upd G7 h (HO.ins C dx (putF "_sources" (.ref qS) (putF "_cells" (.ref qC) (putF "_variables" (.ref qV) (putF "_starts" (.int (ds.length : Int)) (putF "fields" (.ref tF) [])))))) = G8 at B8 w_qV w_qC w_qS ⊢
    refine fun qZ e_qZ => ?_
    have f_qZ : H qZ = none := B8.gr _ e_qZ
    have n_qZ : qZ ≠ h := fun z => by rw [z, B8.ob] at e_qZ; cases e_qZ
    have d_qV_qZ : qV ≠ qZ := ne_of_none w_qV e_qZ
    replace w_qV := (upd_ne (a := qZ) (o := .dK []) d_qV_qZ).trans w_qV
    have d_qC_qZ : qC ≠ qZ := ne_of_none w_qC e_qZ
    replace w_qC := (upd_ne (a := qZ) (o := .dK []) d_qC_qZ).trans w_qC
    have d_qS_qZ : qS ≠ qZ := ne_of_none w_qS e_qZ
    replace w_qS := (upd_ne (a := qZ) (o := .dK []) d_qS_qZ).trans w_qS
    have B9 := B8.new (o := .dK []) e_qZ
    have w_qZ : upd G8 qZ (.dK []) qZ = some (.dK []) := upd_same
    generalize upd G8 qZ (.dK []) = G9 at B9 w_qV w_qC w_qS w_qZ ⊢
    refine ⟨_, rfl, h, C, dx, _, rfl, B9.ob, T0.cl, T0.n_frozen, lt (by decide) B9.ln, ?_⟩
    have B10 := B9.fld "_frozen" (.ref qZ)
    replace w_qV := (upd_ne (a := h) (o := HO.ins C dx (putF "_frozen" (.ref qZ) (putF "_sources" (.ref qS) (putF "_cells" (.ref qC) (putF "_variables" (.ref qV) (putF "_starts" (.int (ds.length : Int)) (putF "fields" (.ref tF) []))))))) n_qV).trans w_qV
    replace w_qC := (upd_ne (a := h) (o := HO.ins C dx (putF "_frozen" (.ref qZ) (putF "_sources" (.ref qS) (putF "_cells" (.ref qC) (putF "_variables" (.ref qV) (putF "_starts" (.int (ds.length : Int)) (putF "fields" (.ref tF) []))))))) n_qC).trans w_qC
    replace w_qS := (upd_ne (a := h) (o := HO.ins C dx (putF "_frozen" (.ref qZ) (putF "_sources" (.ref qS) (putF "_cells" (.ref qC) (putF "_variables" (.ref qV) (putF "_starts" (.int (ds.length : Int)) (putF "fields" (.ref tF) []))))))) n_qS).trans w_qS
    replace w_qZ := (upd_ne (a := h) (o := HO.ins C dx (putF "_frozen" (.ref qZ) (putF "_sources" (.ref qS) (putF "_cells" (.ref qC) (putF "_variables" (.ref qV) (putF "_starts" (.int (ds.length : Int)) (putF "fields" (.ref tF) []))))))) n_qZ).trans w_qZ
    generalize upd G9 h (HO.ins C dx (putF "_frozen" (.ref qZ) (putF "_sources" (.ref qS) (putF "_cells" (.ref qC) (putF "_variables" (.ref qV) (putF "_starts" (.int (ds.length : Int)) (putF "fields" (.ref tF) []))))))) = G10 at B10 w_qV w_qC w_qS w_qZ ⊢
    refine fun qR e_qR => ?_
    have f_qR : H qR = none := B10.gr _ e_qR
    have n_qR : qR ≠ h := fun z => by rw [z, B10.ob] at e_qR; cases e_qR
    have d_qV_qR : qV ≠ qR := ne_of_none w_qV e_qR
    replace w_qV := (upd_ne (a := qR) (o := .dK []) d_qV_qR).trans w_qV
    have d_qC_qR : qC ≠ qR := ne_of_none w_qC e_qR
    replace w_qC := (upd_ne (a := qR) (o := .dK []) d_qC_qR).trans w_qC
    have d_qS_qR : qS ≠ qR := ne_of_none w_qS e_qR
    replace w_qS := (upd_ne (a := qR) (o := .dK []) d_qS_qR).trans w_qS
    have d_qZ_qR : qZ ≠ qR := ne_of_none w_qZ e_qR
    replace w_qZ := (upd_ne (a := qR) (o := .dK []) d_qZ_qR).trans w_qZ
    have B11 := B10.new (o := .dK []) e_qR
    have w_qR : upd G10 qR (.dK []) qR = some (.dK []) := upd_same
    generalize upd G10 qR (.dK []) = G11 at B11 w_qV w_qC w_qS w_qZ w_qR ⊢
    refine ⟨_, rfl, h, C, dx, _, rfl, B11.ob, T0.cl, T0.n_readers, lt (by decide) B11.ln, ?_⟩
    have B12 := B11.fld "_readers" (.ref qR)
    replace w_qV := (upd_ne (a := h) (o := HO.ins C dx (putF "_readers" (.ref qR) (putF "_frozen" (.ref qZ) (putF "_sources" (.ref qS) (putF "_cells" (.ref qC) (putF "_variables" (.ref qV) (putF "_starts" (.int (ds.length : Int)) (putF "fields" (.ref tF) [])))))))) n_qV).trans w_qV
    replace w_qC := (upd_ne (a := h) (o := HO.ins C dx (putF "_readers" (.ref qR) (putF "_frozen" (.ref qZ) (putF "_sources" (.ref qS) (putF "_cells" (.ref qC) (putF "_variables" (.ref qV) (putF "_starts" (.int (ds.length : Int)) (putF "fields" (.ref tF) [])))))))) n_qC).trans w_qC
    replace w_qS := (upd_ne (a := h) (o := HO.ins C dx (putF "_readers" (.ref qR) (putF "_frozen" (.ref qZ) (putF "_sources" (.ref qS) (putF "_cells" (.ref qC) (putF "_variables" (.ref qV) (putF "_starts" (.int (ds.length : Int)) (putF "fields" (.ref tF) [])))))))) n_qS).trans w_qS
    replace w_qZ := (upd_ne (a := h) (o := HO.ins C dx (putF "_readers" (.ref qR) (putF "_frozen" (.ref qZ) (putF "_sources" (.ref qS) (putF "_cells" (.ref qC) (putF "_variables" (.ref qV) (putF "_starts" (.int (ds.length : Int)) (putF "fields" (.ref tF) [])))))))) n_qZ).trans w_qZ
    replace w_qR := (upd_ne (a := h) (o := HO.ins C dx (putF "_readers" (.ref qR) (putF "_frozen" (.ref qZ) (putF "_sources" (.ref qS) (putF "_cells" (.ref qC) (putF "_variables" (.ref qV) (putF "_starts" (.int (ds.length : Int)) (putF "fields" (.ref tF) [])))))))) n_qR).trans w_qR
    generalize upd G11 h (HO.ins C dx (putF "_readers" (.ref qR) (putF "_frozen" (.ref qZ) (putF "_sources" (.ref qS) (putF "_cells" (.ref qC) (putF "_variables" (.ref qV) (putF "_starts" (.int (ds.length : Int)) (putF "fields" (.ref tF) [])))))))) = G12 at B12 w_qV w_qC w_qS w_qZ w_qR ⊢
    refine fun qL e_qL => ?_
    have f_qL : H qL = none := B12.gr _ e_qL
    have n_qL : qL ≠ h := fun z => by rw [z, B12.ob] at e_qL; cases e_qL
    have d_qV_qL : qV ≠ qL := ne_of_none w_qV e_qL
    replace w_qV := (upd_ne (a := qL) (o := .dK []) d_qV_qL).trans w_qV
    have d_qC_qL : qC ≠ qL := ne_of_none w_qC e_qL
    replace w_qC := (upd_ne (a := qL) (o := .dK []) d_qC_qL).trans w_qC
    have d_qS_qL : qS ≠ qL := ne_of_none w_qS e_qL
    replace w_qS := (upd_ne (a := qL) (o := .dK []) d_qS_qL).trans w_qS
    have d_qZ_qL : qZ ≠ qL := ne_of_none w_qZ e_qL
    replace w_qZ := (upd_ne (a := qL) (o := .dK []) d_qZ_qL).trans w_qZ
    have d_qR_qL : qR ≠ qL := ne_of_none w_qR e_qL
    replace w_qR := (upd_ne (a := qL) (o := .dK []) d_qR_qL).trans w_qR
    have B13 := B12.new (o := .dK []) e_qL
    have w_qL : upd G12 qL (.dK []) qL = some (.dK []) := upd_same
    generalize upd G12 qL (.dK []) = G13 at B13 w_qV w_qC w_qS w_qZ w_qR w_qL ⊢
    refine ⟨_, rfl, h, C, dx, _, rfl, B13.ob, T0.cl, T0.n_looks, lt (by decide) B13.ln, ?_⟩
    have B14 := B13.fld "_looks" (.ref qL)
    replace w_qV := (upd_ne (a := h) (o := HO.ins C dx (putF "_looks" (.ref qL) (putF "_readers" (.ref qR) (putF "_frozen" (.ref qZ) (putF "_sources" (.ref qS) (putF "_cells" (.ref qC) (putF "_variables" (.ref qV) (putF "_starts" (.int (ds.length : Int)) (putF "fields" (.ref tF) []))))))))) n_qV).trans w_qV
    replace w_qC := (upd_ne (a := h) (o := HO.ins C dx (putF "_looks" (.ref qL) (putF "_readers" (.ref qR) (putF "_frozen" (.ref qZ) (putF "_sources" (.ref qS) (putF "_cells" (.ref qC) (putF "_variables" (.ref qV) (putF "_starts" (.int (ds.length : Int)) (putF "fields" (.ref tF) []))))))))) n_qC).trans w_qC
    replace w_qS := (upd_ne (a := h) (o := HO.ins C dx (putF "_looks" (.ref qL) (putF "_readers" (.ref qR) (putF "_frozen" (.ref qZ) (putF "_sources" (.ref qS) (putF "_cells" (.ref qC) (putF "_variables" (.ref qV) (putF "_starts" (.int (ds.length : Int)) (putF "fields" (.ref tF) []))))))))) n_qS).trans w_qS
    replace w_qZ := (upd_ne (a := h) (o := HO.ins C dx (putF "_looks" (.ref qL) (putF "_readers" (.ref qR) (putF "_frozen" (.ref qZ) (putF "_sources" (.ref qS) (putF "_cells" (.ref qC) (putF "_variables" (.ref qV) (putF "_starts" (.int (ds.length : Int)) (putF "fields" (.ref tF) []))))))))) n_qZ).trans w_qZ
    replace w_qR := (upd_ne (a := h) (o := HO.ins C dx (putF "_looks" (.ref qL) (putF "_readers" (.ref qR) (putF "_frozen" (.ref qZ) (putF "_sources" (.ref qS) (putF "_cells" (.ref qC) (putF "_variables" (.ref qV) (putF "_starts" (.int (ds.length : Int)) (putF "fields" (.ref tF) []))))))))) n_qR).trans w_qR
    replace w_qL := (upd_ne (a := h) (o := HO.ins C dx (putF "_looks" (.ref qL) (putF "_readers" (.ref qR) (putF "_frozen" (.ref qZ) (putF "_sources" (.ref qS) (putF "_cells" (.ref qC) (putF "_variables" (.ref qV) (putF "_starts" (.int (ds.length : Int)) (putF "fields" (.ref tF) []))))))))) n_qL).trans w_qL
    generalize upd G13 h (HO.ins C dx (putF "_looks" (.ref qL) (putF "_readers" (.ref qR) (putF "_frozen" (.ref qZ) (putF "_sources" (.ref qS) (putF "_cells" (.ref qC) (putF "_variables" (.ref qV) (putF "_starts" (.int (ds.length : Int)) (putF "fields" (.ref tF) []))))))))) = G14 at B14 w_qV w_qC w_qS w_qZ w_qR w_qL ⊢
    refine ⟨_, rfl, h, C, dx, _, rfl, B14.ob, T0.cl, T0.n_copies, lt (by decide) B14.ln, ?_⟩
    have B15 := B14.fld "_copies" (.int 0)
    replace w_qV := (upd_ne (a := h) (o := HO.ins C dx (putF "_copies" (.int 0) (putF "_looks" (.ref qL) (putF "_readers" (.ref qR) (putF "_frozen" (.ref qZ) (putF "_sources" (.ref qS) (putF "_cells" (.ref qC) (putF "_variables" (.ref qV) (putF "_starts" (.int (ds.length : Int)) (putF "fields" (.ref tF) [])))))))))) n_qV).trans w_qV
    replace w_qC := (upd_ne (a := h) (o := HO.ins C dx (putF "_copies" (.int 0) (putF "_looks" (.ref qL) (putF "_readers" (.ref qR) (putF "_frozen" (.ref qZ) (putF "_sources" (.ref qS) (putF "_cells" (.ref qC) (putF "_variables" (.ref qV) (putF "_starts" (.int (ds.length : Int)) (putF "fields" (.ref tF) [])))))))))) n_qC).trans w_qC
    replace w_qS := (upd_ne (a := h) (o := HO.ins C dx (putF "_copies" (.int 0) (putF "_looks" (.ref qL) (putF "_readers" (.ref qR) (putF "_frozen" (.ref qZ) (putF "_sources" (.ref qS) (putF "_cells" (.ref qC) (putF "_variables" (.ref qV) (putF "_starts" (.int (ds.length : Int)) (putF "fields" (.ref tF) [])))))))))) n_qS).trans w_qS
    replace w_qZ := (upd_ne (a := h) (o := HO.ins C dx (putF "_copies" (.int 0) (putF "_looks" (.ref qL) (putF "_readers" (.ref qR) (putF "_frozen" (.ref qZ) (putF "_sources" (.ref qS) (putF "_cells" (.ref qC) (putF "_variables" (.ref qV) (putF "_starts" (.int (ds.length : Int)) (putF "fields" (.ref tF) [])))))))))) n_qZ).trans w_qZ
    replace w_qR := (upd_ne (a := h) (o := HO.ins C dx (putF "_copies" (.int 0) (putF "_looks" (.ref qL) (putF "_readers" (.ref qR) (putF "_frozen" (.ref qZ) (putF "_sources" (.ref qS) (putF "_cells" (.ref qC) (putF "_variables" (.ref qV) (putF "_starts" (.int (ds.length : Int)) (putF "fields" (.ref tF) [])))))))))) n_qR).trans w_qR
    replace w_qL := (upd_ne (a := h) (o := HO.ins C dx (putF "_copies" (.int 0) (putF "_looks" (.ref qL) (putF "_readers" (.ref qR) (putF "_frozen" (.ref qZ) (putF "_sources" (.ref qS) (putF "_cells" (.ref qC) (putF "_variables" (.ref qV) (putF "_starts" (.int (ds.length : Int)) (putF "fields" (.ref tF) [])))))))))) n_qL).trans w_qL
    generalize upd G14 h (HO.ins C dx (putF "_copies" (.int 0) (putF "_looks" (.ref qL) (putF "_readers" (.ref qR) (putF "_frozen" (.ref qZ) (putF "_sources" (.ref qS) (putF "_cells" (.ref qC) (putF "_variables" (.ref qV) (putF "_starts" (.int (ds.length : Int)) (putF "fields" (.ref tF) [])))))))))) = G15 at B15 w_qV w_qC w_qS w_qZ w_qR w_qL ⊢
    refine ⟨_, rfl, h, C, dx, _, rfl, B15.ob, T0.cl, T0.n_puts, lt (by decide) B15.ln, ?_⟩
    have B16 := B15.fld "_puts" (.int 0)
    replace w_qV := (upd_ne (a := h) (o := HO.ins C dx (putF "_puts" (.int 0) (putF "_copies" (.int 0) (putF "_looks" (.ref qL) (putF "_readers" (.ref qR) (putF "_frozen" (.ref qZ) (putF "_sources" (.ref qS) (putF "_cells" (.ref qC) (putF "_variables" (.ref qV) (putF "_starts" (.int (ds.length : Int)) (putF "fields" (.ref tF) []))))))))))) n_qV).trans w_qV
    replace w_qC := (upd_ne (a := h) (o := HO.ins C dx (putF "_puts" (.int 0) (putF "_copies" (.int 0) (putF "_looks" (.ref qL) (putF "_readers" (.ref qR) (putF "_frozen" (.ref qZ) (putF "_sources" (.ref qS) (putF "_cells" (.ref qC) (putF "_variables" (.ref qV) (putF "_starts" (.int (ds.length : Int)) (putF "fields" (.ref tF) []))))))))))) n_qC).trans w_qC
    replace w_qS := (upd_ne (a := h) (o := HO.ins C dx (putF "_puts" (.int 0) (putF "_copies" (.int 0) (putF "_looks" (.ref qL) (putF "_readers" (.ref qR) (putF "_frozen" (.ref qZ) (putF "_sources" (.ref qS) (putF "_cells" (.ref qC) (putF "_variables" (.ref qV) (putF "_starts" (.int (ds.length : Int)) (putF "fields" (.ref tF) []))))))))))) n_qS).trans w_qS
    replace w_qZ := (upd_ne (a := h) (o := HO.ins C dx (putF "_puts" (.int 0) (putF "_copies" (.int 0) (putF "_looks" (.ref qL) (putF "_readers" (.ref qR) (putF "_frozen" (.ref qZ) (putF "_sources" (.ref qS) (putF "_cells" (.ref qC) (putF "_variables" (.ref qV) (putF "_starts" (.int (ds.length : Int)) (putF "fields" (.ref tF) []))))))))))) n_qZ).trans w_qZ
    replace w_qR := (upd_ne (a := h) (o := HO.ins C dx (putF "_puts" (.int 0) (putF "_copies" (.int 0) (putF "_looks" (.ref qL) (putF "_readers" (.ref qR) (putF "_frozen" (.ref qZ) (putF "_sources" (.ref qS) (putF "_cells" (.ref qC) (putF "_variables" (.ref qV) (putF "_starts" (.int (ds.length : Int)) (putF "fields" (.ref tF) []))))))))))) n_qR).trans w_qR
    replace w_qL := (upd_ne (a := h) (o := HO.ins C dx (putF "_puts" (.int 0) (putF "_copies" (.int 0) (putF "_looks" (.ref qL) (putF "_readers" (.ref qR) (putF "_frozen" (.ref qZ) (putF "_sources" (.ref qS) (putF "_cells" (.ref qC) (putF "_variables" (.ref qV) (putF "_starts" (.int (ds.length : Int)) (putF "fields" (.ref tF) []))))))))))) n_qL).trans w_qL
    generalize upd G15 h (HO.ins C dx (putF "_puts" (.int 0) (putF "_copies" (.int 0) (putF "_looks" (.ref qL) (putF "_readers" (.ref qR) (putF "_frozen" (.ref qZ) (putF "_sources" (.ref qS) (putF "_cells" (.ref qC) (putF "_variables" (.ref qV) (putF "_starts" (.int (ds.length : Int)) (putF "fields" (.ref tF) []))))))))))) = G16 at B16 w_qV w_qC w_qS w_qZ w_qR w_qL ⊢
    refine ⟨by show 0 ≤ sizeLine; decide, fun qH e_qH => ?_⟩
    have f_qH : H qH = none := B16.gr _ e_qH
    have n_qH : qH ≠ h := fun z => by rw [z, B16.ob] at e_qH; cases e_qH
    have d_qV_qH : qV ≠ qH := ne_of_none w_qV e_qH
    replace w_qV := (upd_ne (a := qH) (o := .lst []) d_qV_qH).trans w_qV
    have d_qC_qH : qC ≠ qH := ne_of_none w_qC e_qH
    replace w_qC := (upd_ne (a := qH) (o := .lst []) d_qC_qH).trans w_qC
    have d_qS_qH : qS ≠ qH := ne_of_none w_qS e_qH
    replace w_qS := (upd_ne (a := qH) (o := .lst []) d_qS_qH).trans w_qS
    have d_qZ_qH : qZ ≠ qH := ne_of_none w_qZ e_qH
    replace w_qZ := (upd_ne (a := qH) (o := .lst []) d_qZ_qH).trans w_qZ
    have d_qR_qH : qR ≠ qH := ne_of_none w_qR e_qH
    replace w_qR := (upd_ne (a := qH) (o := .lst []) d_qR_qH).trans w_qR
    have d_qL_qH : qL ≠ qH := ne_of_none w_qL e_qH
    replace w_qL := (upd_ne (a := qH) (o := .lst []) d_qL_qH).trans w_qL
    have B17 := B16.new (o := .lst []) e_qH
    have w_qH : upd G16 qH (.lst []) qH = some (.lst []) := upd_same
    generalize upd G16 qH (.lst []) = G17 at B17 w_qV w_qC w_qS w_qZ w_qR w_qL w_qH ⊢
    refine ⟨_, rfl, h, C, dx, _, rfl, B17.ob, T0.cl, T0.n_reached, lt (by decide) B17.ln, ?_⟩
    have B18 := B17.fld "_reached" (.ref qH)
    replace w_qV := (upd_ne (a := h) (o := HO.ins C dx (putF "_reached" (.ref qH) (putF "_puts" (.int 0) (putF "_copies" (.int 0) (putF "_looks" (.ref qL) (putF "_readers" (.ref qR) (putF "_frozen" (.ref qZ) (putF "_sources" (.ref qS) (putF "_cells" (.ref qC) (putF "_variables" (.ref qV) (putF "_starts" (.int (ds.length : Int)) (putF "fields" (.ref tF) [])))))))))))) n_qV).trans w_qV
    replace w_qC := (upd_ne (a := h) (o := HO.ins C dx (putF "_reached" (.ref qH) (putF "_puts" (.int 0) (putF "_copies" (.int 0) (putF "_looks" (.ref qL) (putF "_readers" (.ref qR) (putF "_frozen" (.ref qZ) (putF "_sources" (.ref qS) (putF "_cells" (.ref qC) (putF "_variables" (.ref qV) (putF "_starts" (.int (ds.length : Int)) (putF "fields" (.ref tF) [])))))))))))) n_qC).trans w_qC
    replace w_qS := (upd_ne (a := h) (o := HO.ins C dx (putF "_reached" (.ref qH) (putF "_puts" (.int 0) (putF "_copies" (.int 0) (putF "_looks" (.ref qL) (putF "_readers" (.ref qR) (putF "_frozen" (.ref qZ) (putF "_sources" (.ref qS) (putF "_cells" (.ref qC) (putF "_variables" (.ref qV) (putF "_starts" (.int (ds.length : Int)) (putF "fields" (.ref tF) [])))))))))))) n_qS).trans w_qS
    replace w_qZ := (upd_ne (a := h) (o := HO.ins C dx (putF "_reached" (.ref qH) (putF "_puts" (.int 0) (putF "_copies" (.int 0) (putF "_looks" (.ref qL) (putF "_readers" (.ref qR) (putF "_frozen" (.ref qZ) (putF "_sources" (.ref qS) (putF "_cells" (.ref qC) (putF "_variables" (.ref qV) (putF "_starts" (.int (ds.length : Int)) (putF "fields" (.ref tF) [])))))))))))) n_qZ).trans w_qZ
    replace w_qR := (upd_ne (a := h) (o := HO.ins C dx (putF "_reached" (.ref qH) (putF "_puts" (.int 0) (putF "_copies" (.int 0) (putF "_looks" (.ref qL) (putF "_readers" (.ref qR) (putF "_frozen" (.ref qZ) (putF "_sources" (.ref qS) (putF "_cells" (.ref qC) (putF "_variables" (.ref qV) (putF "_starts" (.int (ds.length : Int)) (putF "fields" (.ref tF) [])))))))))))) n_qR).trans w_qR
    replace w_qL := (upd_ne (a := h) (o := HO.ins C dx (putF "_reached" (.ref qH) (putF "_puts" (.int 0) (putF "_copies" (.int 0) (putF "_looks" (.ref qL) (putF "_readers" (.ref qR) (putF "_frozen" (.ref qZ) (putF "_sources" (.ref qS) (putF "_cells" (.ref qC) (putF "_variables" (.ref qV) (putF "_starts" (.int (ds.length : Int)) (putF "fields" (.ref tF) [])))))))))))) n_qL).trans w_qL
    replace w_qH := (upd_ne (a := h) (o := HO.ins C dx (putF "_reached" (.ref qH) (putF "_puts" (.int 0) (putF "_copies" (.int 0) (putF "_looks" (.ref qL) (putF "_readers" (.ref qR) (putF "_frozen" (.ref qZ) (putF "_sources" (.ref qS) (putF "_cells" (.ref qC) (putF "_variables" (.ref qV) (putF "_starts" (.int (ds.length : Int)) (putF "fields" (.ref tF) [])))))))))))) n_qH).trans w_qH
    generalize upd G17 h (HO.ins C dx (putF "_reached" (.ref qH) (putF "_puts" (.int 0) (putF "_copies" (.int 0) (putF "_looks" (.ref qL) (putF "_readers" (.ref qR) (putF "_frozen" (.ref qZ) (putF "_sources" (.ref qS) (putF "_cells" (.ref qC) (putF "_variables" (.ref qV) (putF "_starts" (.int (ds.length : Int)) (putF "fields" (.ref tF) [])))))))))))) = G18 at B18 w_qV w_qC w_qS w_qZ w_qR w_qL w_qH ⊢
    refine fun qW e_qW => ?_
    have f_qW : H qW = none := B18.gr _ e_qW
    have n_qW : qW ≠ h := fun z => by rw [z, B18.ob] at e_qW; cases e_qW
    have d_qV_qW : qV ≠ qW := ne_of_none w_qV e_qW
    replace w_qV := (upd_ne (a := qW) (o := .dK []) d_qV_qW).trans w_qV
    have d_qC_qW : qC ≠ qW := ne_of_none w_qC e_qW
    replace w_qC := (upd_ne (a := qW) (o := .dK []) d_qC_qW).trans w_qC
    have d_qS_qW : qS ≠ qW := ne_of_none w_qS e_qW
    replace w_qS := (upd_ne (a := qW) (o := .dK []) d_qS_qW).trans w_qS
    have d_qZ_qW : qZ ≠ qW := ne_of_none w_qZ e_qW
    replace w_qZ := (upd_ne (a := qW) (o := .dK []) d_qZ_qW).trans w_qZ
    have d_qR_qW : qR ≠ qW := ne_of_none w_qR e_qW
    replace w_qR := (upd_ne (a := qW) (o := .dK []) d_qR_qW).trans w_qR
    have d_qL_qW : qL ≠ qW := ne_of_none w_qL e_qW
    replace w_qL := (upd_ne (a := qW) (o := .dK []) d_qL_qW).trans w_qL
    have d_qH_qW : qH ≠ qW := ne_of_none w_qH e_qW
    replace w_qH := (upd_ne (a := qW) (o := .dK []) d_qH_qW).trans w_qH
    have B19 := B18.new (o := .dK []) e_qW
    have w_qW : upd G18 qW (.dK []) qW = some (.dK []) := upd_same
    generalize upd G18 qW (.dK []) = G19 at B19 w_qV w_qC w_qS w_qZ w_qR w_qL w_qH w_qW ⊢
    refine ⟨_, rfl, h, C, dx, _, rfl, B19.ob, T0.cl, T0.n_views, lt (by decide) B19.ln, ?_⟩
    have B20 := B19.fld "_views" (.ref qW)
    replace w_qV := (upd_ne (a := h) (o := HO.ins C dx (putF "_views" (.ref qW) (putF "_reached" (.ref qH) (putF "_puts" (.int 0) (putF "_copies" (.int 0) (putF "_looks" (.ref qL) (putF "_readers" (.ref qR) (putF "_frozen" (.ref qZ) (putF "_sources" (.ref qS) (putF "_cells" (.ref qC) (putF "_variables" (.ref qV) (putF "_starts" (.int (ds.length : Int)) (putF "fields" (.ref tF) []))))))))))))) n_qV).trans w_qV
    replace w_qC := (upd_ne (a := h) (o := HO.ins C dx (putF "_views" (.ref qW) (putF "_reached" (.ref qH) (putF "_puts" (.int 0) (putF "_copies" (.int 0) (putF "_looks" (.ref qL) (putF "_readers" (.ref qR) (putF "_frozen" (.ref qZ) (putF "_sources" (.ref qS) (putF "_cells" (.ref qC) (putF "_variables" (.ref qV) (putF "_starts" (.int (ds.length : Int)) (putF "fields" (.ref tF) []))))))))))))) n_qC).trans w_qC
    replace w_qS := (upd_ne (a := h) (o := HO.ins C dx (putF "_views" (.ref qW) (putF "_reached" (.ref qH) (putF "_puts" (.int 0) (putF "_copies" (.int 0) (putF "_looks" (.ref qL) (putF "_readers" (.ref qR) (putF "_frozen" (.ref qZ) (putF "_sources" (.ref qS) (putF "_cells" (.ref qC) (putF "_variables" (.ref qV) (putF "_starts" (.int (ds.length : Int)) (putF "fields" (.ref tF) []))))))))))))) n_qS).trans w_qS
    replace w_qZ := (upd_ne (a := h) (o := HO.ins C dx (putF "_views" (.ref qW) (putF "_reached" (.ref qH) (putF "_puts" (.int 0) (putF "_copies" (.int 0) (putF "_looks" (.ref qL) (putF "_readers" (.ref qR) (putF "_frozen" (.ref qZ) (putF "_sources" (.ref qS) (putF "_cells" (.ref qC) (putF "_variables" (.ref qV) (putF "_starts" (.int (ds.length : Int)) (putF "fields" (.ref tF) []))))))))))))) n_qZ).trans w_qZ
    replace w_qR := (upd_ne (a := h) (o := HO.ins C dx (putF "_views" (.ref qW) (putF "_reached" (.ref qH) (putF "_puts" (.int 0) (putF "_copies" (.int 0) (putF "_looks" (.ref qL) (putF "_readers" (.ref qR) (putF "_frozen" (.ref qZ) (putF "_sources" (.ref qS) (putF "_cells" (.ref qC) (putF "_variables" (.ref qV) (putF "_starts" (.int (ds.length : Int)) (putF "fields" (.ref tF) []))))))))))))) n_qR).trans w_qR
    replace w_qL := (upd_ne (a := h) (o := HO.ins C dx (putF "_views" (.ref qW) (putF "_reached" (.ref qH) (putF "_puts" (.int 0) (putF "_copies" (.int 0) (putF "_looks" (.ref qL) (putF "_readers" (.ref qR) (putF "_frozen" (.ref qZ) (putF "_sources" (.ref qS) (putF "_cells" (.ref qC) (putF "_variables" (.ref qV) (putF "_starts" (.int (ds.length : Int)) (putF "fields" (.ref tF) []))))))))))))) n_qL).trans w_qL
    replace w_qH := (upd_ne (a := h) (o := HO.ins C dx (putF "_views" (.ref qW) (putF "_reached" (.ref qH) (putF "_puts" (.int 0) (putF "_copies" (.int 0) (putF "_looks" (.ref qL) (putF "_readers" (.ref qR) (putF "_frozen" (.ref qZ) (putF "_sources" (.ref qS) (putF "_cells" (.ref qC) (putF "_variables" (.ref qV) (putF "_starts" (.int (ds.length : Int)) (putF "fields" (.ref tF) []))))))))))))) n_qH).trans w_qH
    replace w_qW := (upd_ne (a := h) (o := HO.ins C dx (putF "_views" (.ref qW) (putF "_reached" (.ref qH) (putF "_puts" (.int 0) (putF "_copies" (.int 0) (putF "_looks" (.ref qL) (putF "_readers" (.ref qR) (putF "_frozen" (.ref qZ) (putF "_sources" (.ref qS) (putF "_cells" (.ref qC) (putF "_variables" (.ref qV) (putF "_starts" (.int (ds.length : Int)) (putF "fields" (.ref tF) []))))))))))))) n_qW).trans w_qW
    generalize upd G19 h (HO.ins C dx (putF "_views" (.ref qW) (putF "_reached" (.ref qH) (putF "_puts" (.int 0) (putF "_copies" (.int 0) (putF "_looks" (.ref qL) (putF "_readers" (.ref qR) (putF "_frozen" (.ref qZ) (putF "_sources" (.ref qS) (putF "_cells" (.ref qC) (putF "_variables" (.ref qV) (putF "_starts" (.int (ds.length : Int)) (putF "fields" (.ref tF) []))))))))))))) = G20 at B20 w_qV w_qC w_qS w_qZ w_qR w_qL w_qH w_qW ⊢
    refine ⟨_, rfl, h, C, dx, _, rfl, B20.ob, T0.cl, T0.n_kept_copies, lt (by decide) B20.ln, ?_⟩
    have B21 := B20.fld "_kept_copies" (.non)
    replace w_qV := (upd_ne (a := h) (o := HO.ins C dx (putF "_kept_copies" (.non) (putF "_views" (.ref qW) (putF "_reached" (.ref qH) (putF "_puts" (.int 0) (putF "_copies" (.int 0) (putF "_looks" (.ref qL) (putF "_readers" (.ref qR) (putF "_frozen" (.ref qZ) (putF "_sources" (.ref qS) (putF "_cells" (.ref qC) (putF "_variables" (.ref qV) (putF "_starts" (.int (ds.length : Int)) (putF "fields" (.ref tF) [])))))))))))))) n_qV).trans w_qV
    replace w_qC := (upd_ne (a := h) (o := HO.ins C dx (putF "_kept_copies" (.non) (putF "_views" (.ref qW) (putF "_reached" (.ref qH) (putF "_puts" (.int 0) (putF "_copies" (.int 0) (putF "_looks" (.ref qL) (putF "_readers" (.ref qR) (putF "_frozen" (.ref qZ) (putF "_sources" (.ref qS) (putF "_cells" (.ref qC) (putF "_variables" (.ref qV) (putF "_starts" (.int (ds.length : Int)) (putF "fields" (.ref tF) [])))))))))))))) n_qC).trans w_qC
    replace w_qS := (upd_ne (a := h) (o := HO.ins C dx (putF "_kept_copies" (.non) (putF "_views" (.ref qW) (putF "_reached" (.ref qH) (putF "_puts" (.int 0) (putF "_copies" (.int 0) (putF "_looks" (.ref qL) (putF "_readers" (.ref qR) (putF "_frozen" (.ref qZ) (putF "_sources" (.ref qS) (putF "_cells" (.ref qC) (putF "_variables" (.ref qV) (putF "_starts" (.int (ds.length : Int)) (putF "fields" (.ref tF) [])))))))))))))) n_qS).trans w_qS
    replace w_qZ := (upd_ne (a := h) (o := HO.ins C dx (putF "_kept_copies" (.non) (putF "_views" (.ref qW) (putF "_reached" (.ref qH) (putF "_puts" (.int 0) (putF "_copies" (.int 0) (putF "_looks" (.ref qL) (putF "_readers" (.ref qR) (putF "_frozen" (.ref qZ) (putF "_sources" (.ref qS) (putF "_cells" (.ref qC) (putF "_variables" (.ref qV) (putF "_starts" (.int (ds.length : Int)) (putF "fields" (.ref tF) [])))))))))))))) n_qZ).trans w_qZ
    replace w_qR := (upd_ne (a := h) (o := HO.ins C dx (putF "_kept_copies" (.non) (putF "_views" (.ref qW) (putF "_reached" (.ref qH) (putF "_puts" (.int 0) (putF "_copies" (.int 0) (putF "_looks" (.ref qL) (putF "_readers" (.ref qR) (putF "_frozen" (.ref qZ) (putF "_sources" (.ref qS) (putF "_cells" (.ref qC) (putF "_variables" (.ref qV) (putF "_starts" (.int (ds.length : Int)) (putF "fields" (.ref tF) [])))))))))))))) n_qR).trans w_qR
    replace w_qL := (upd_ne (a := h) (o := HO.ins C dx (putF "_kept_copies" (.non) (putF "_views" (.ref qW) (putF "_reached" (.ref qH) (putF "_puts" (.int 0) (putF "_copies" (.int 0) (putF "_looks" (.ref qL) (putF "_readers" (.ref qR) (putF "_frozen" (.ref qZ) (putF "_sources" (.ref qS) (putF "_cells" (.ref qC) (putF "_variables" (.ref qV) (putF "_starts" (.int (ds.length : Int)) (putF "fields" (.ref tF) [])))))))))))))) n_qL).trans w_qL
    replace w_qH := (upd_ne (a := h) (o := HO.ins C dx (putF "_kept_copies" (.non) (putF "_views" (.ref qW) (putF "_reached" (.ref qH) (putF "_puts" (.int 0) (putF "_copies" (.int 0) (putF "_looks" (.ref qL) (putF "_readers" (.ref qR) (putF "_frozen" (.ref qZ) (putF "_sources" (.ref qS) (putF "_cells" (.ref qC) (putF "_variables" (.ref qV) (putF "_starts" (.int (ds.length : Int)) (putF "fields" (.ref tF) [])))))))))))))) n_qH).trans w_qH
    replace w_qW := (upd_ne (a := h) (o := HO.ins C dx (putF "_kept_copies" (.non) (putF "_views" (.ref qW) (putF "_reached" (.ref qH) (putF "_puts" (.int 0) (putF "_copies" (.int 0) (putF "_looks" (.ref qL) (putF "_readers" (.ref qR) (putF "_frozen" (.ref qZ) (putF "_sources" (.ref qS) (putF "_cells" (.ref qC) (putF "_variables" (.ref qV) (putF "_starts" (.int (ds.length : Int)) (putF "fields" (.ref tF) [])))))))))))))) n_qW).trans w_qW
    generalize upd G20 h (HO.ins C dx (putF "_kept_copies" (.non) (putF "_views" (.ref qW) (putF "_reached" (.ref qH) (putF "_puts" (.int 0) (putF "_copies" (.int 0) (putF "_looks" (.ref qL) (putF "_readers" (.ref qR) (putF "_frozen" (.ref qZ) (putF "_sources" (.ref qS) (putF "_cells" (.ref qC) (putF "_variables" (.ref qV) (putF "_starts" (.int (ds.length : Int)) (putF "fields" (.ref tF) [])))))))))))))) = G21 at B21 w_qV w_qC w_qS w_qZ w_qR w_qL w_qH w_qW ⊢
    refine ⟨_, rfl, h, C, dx, _, rfl, B21.ob, T0.cl, T0.n_kept_puts, lt (by decide) B21.ln, ?_⟩
    have B22 := B21.fld "_kept_puts" (.non)
    replace w_qV := (upd_ne (a := h) (o := HO.ins C dx (putF "_kept_puts" (.non) (putF "_kept_copies" (.non) (putF "_views" (.ref qW) (putF "_reached" (.ref qH) (putF "_puts" (.int 0) (putF "_copies" (.int 0) (putF "_looks" (.ref qL) (putF "_readers" (.ref qR) (putF "_frozen" (.ref qZ) (putF "_sources" (.ref qS) (putF "_cells" (.ref qC) (putF "_variables" (.ref qV) (putF "_starts" (.int (ds.length : Int)) (putF "fields" (.ref tF) []))))))))))))))) n_qV).trans w_qV
    replace w_qC := (upd_ne (a := h) (o := HO.ins C dx (putF "_kept_puts" (.non) (putF "_kept_copies" (.non) (putF "_views" (.ref qW) (putF "_reached" (.ref qH) (putF "_puts" (.int 0) (putF "_copies" (.int 0) (putF "_looks" (.ref qL) (putF "_readers" (.ref qR) (putF "_frozen" (.ref qZ) (putF "_sources" (.ref qS) (putF "_cells" (.ref qC) (putF "_variables" (.ref qV) (putF "_starts" (.int (ds.length : Int)) (putF "fields" (.ref tF) []))))))))))))))) n_qC).trans w_qC
    replace w_qS := (upd_ne (a := h) (o := HO.ins C dx (putF "_kept_puts" (.non) (putF "_kept_copies" (.non) (putF "_views" (.ref qW) (putF "_reached" (.ref qH) (putF "_puts" (.int 0) (putF "_copies" (.int 0) (putF "_looks" (.ref qL) (putF "_readers" (.ref qR) (putF "_frozen" (.ref qZ) (putF "_sources" (.ref qS) (putF "_cells" (.ref qC) (putF "_variables" (.ref qV) (putF "_starts" (.int (ds.length : Int)) (putF "fields" (.ref tF) []))))))))))))))) n_qS).trans w_qS
    replace w_qZ := (upd_ne (a := h) (o := HO.ins C dx (putF "_kept_puts" (.non) (putF "_kept_copies" (.non) (putF "_views" (.ref qW) (putF "_reached" (.ref qH) (putF "_puts" (.int 0) (putF "_copies" (.int 0) (putF "_looks" (.ref qL) (putF "_readers" (.ref qR) (putF "_frozen" (.ref qZ) (putF "_sources" (.ref qS) (putF "_cells" (.ref qC) (putF "_variables" (.ref qV) (putF "_starts" (.int (ds.length : Int)) (putF "fields" (.ref tF) []))))))))))))))) n_qZ).trans w_qZ
    replace w_qR := (upd_ne (a := h) (o := HO.ins C dx (putF "_kept_puts" (.non) (putF "_kept_copies" (.non) (putF "_views" (.ref qW) (putF "_reached" (.ref qH) (putF "_puts" (.int 0) (putF "_copies" (.int 0) (putF "_looks" (.ref qL) (putF "_readers" (.ref qR) (putF "_frozen" (.ref qZ) (putF "_sources" (.ref qS) (putF "_cells" (.ref qC) (putF "_variables" (.ref qV) (putF "_starts" (.int (ds.length : Int)) (putF "fields" (.ref tF) []))))))))))))))) n_qR).trans w_qR
    replace w_qL := (upd_ne (a := h) (o := HO.ins C dx (putF "_kept_puts" (.non) (putF "_kept_copies" (.non) (putF "_views" (.ref qW) (putF "_reached" (.ref qH) (putF "_puts" (.int 0) (putF "_copies" (.int 0) (putF "_looks" (.ref qL) (putF "_readers" (.ref qR) (putF "_frozen" (.ref qZ) (putF "_sources" (.ref qS) (putF "_cells" (.ref qC) (putF "_variables" (.ref qV) (putF "_starts" (.int (ds.length : Int)) (putF "fields" (.ref tF) []))))))))))))))) n_qL).trans w_qL
    replace w_qH := (upd_ne (a := h) (o := HO.ins C dx (putF "_kept_puts" (.non) (putF "_kept_copies" (.non) (putF "_views" (.ref qW) (putF "_reached" (.ref qH) (putF "_puts" (.int 0) (putF "_copies" (.int 0) (putF "_looks" (.ref qL) (putF "_readers" (.ref qR) (putF "_frozen" (.ref qZ) (putF "_sources" (.ref qS) (putF "_cells" (.ref qC) (putF "_variables" (.ref qV) (putF "_starts" (.int (ds.length : Int)) (putF "fields" (.ref tF) []))))))))))))))) n_qH).trans w_qH
    replace w_qW := (upd_ne (a := h) (o := HO.ins C dx (putF "_kept_puts" (.non) (putF "_kept_copies" (.non) (putF "_views" (.ref qW) (putF "_reached" (.ref qH) (putF "_puts" (.int 0) (putF "_copies" (.int 0) (putF "_looks" (.ref qL) (putF "_readers" (.ref qR) (putF "_frozen" (.ref qZ) (putF "_sources" (.ref qS) (putF "_cells" (.ref qC) (putF "_variables" (.ref qV) (putF "_starts" (.int (ds.length : Int)) (putF "fields" (.ref tF) []))))))))))))))) n_qW).trans w_qW
    generalize upd G21 h (HO.ins C dx (putF "_kept_puts" (.non) (putF "_kept_copies" (.non) (putF "_views" (.ref qW) (putF "_reached" (.ref qH) (putF "_puts" (.int 0) (putF "_copies" (.int 0) (putF "_looks" (.ref qL) (putF "_readers" (.ref qR) (putF "_frozen" (.ref qZ) (putF "_sources" (.ref qS) (putF "_cells" (.ref qC) (putF "_variables" (.ref qV) (putF "_starts" (.int (ds.length : Int)) (putF "fields" (.ref tF) []))))))))))))))) = G22 at B22 w_qV w_qC w_qS w_qZ w_qR w_qL w_qH w_qW ⊢
    refine ⟨_, rfl, h, C, dx, _, rfl, B22.ob, T0.cl, T0.n_log, lt (by decide) B22.ln, ?_⟩
    have B23 := B22.fld "_log" (.non)
    replace w_qV := (upd_ne (a := h) (o := HO.ins C dx (putF "_log" (.non) (putF "_kept_puts" (.non) (putF "_kept_copies" (.non) (putF "_views" (.ref qW) (putF "_reached" (.ref qH) (putF "_puts" (.int 0) (putF "_copies" (.int 0) (putF "_looks" (.ref qL) (putF "_readers" (.ref qR) (putF "_frozen" (.ref qZ) (putF "_sources" (.ref qS) (putF "_cells" (.ref qC) (putF "_variables" (.ref qV) (putF "_starts" (.int (ds.length : Int)) (putF "fields" (.ref tF) [])))))))))))))))) n_qV).trans w_qV
    replace w_qC := (upd_ne (a := h) (o := HO.ins C dx (putF "_log" (.non) (putF "_kept_puts" (.non) (putF "_kept_copies" (.non) (putF "_views" (.ref qW) (putF "_reached" (.ref qH) (putF "_puts" (.int 0) (putF "_copies" (.int 0) (putF "_looks" (.ref qL) (putF "_readers" (.ref qR) (putF "_frozen" (.ref qZ) (putF "_sources" (.ref qS) (putF "_cells" (.ref qC) (putF "_variables" (.ref qV) (putF "_starts" (.int (ds.length : Int)) (putF "fields" (.ref tF) [])))))))))))))))) n_qC).trans w_qC
    replace w_qS := (upd_ne (a := h) (o := HO.ins C dx (putF "_log" (.non) (putF "_kept_puts" (.non) (putF "_kept_copies" (.non) (putF "_views" (.ref qW) (putF "_reached" (.ref qH) (putF "_puts" (.int 0) (putF "_copies" (.int 0) (putF "_looks" (.ref qL) (putF "_readers" (.ref qR) (putF "_frozen" (.ref qZ) (putF "_sources" (.ref qS) (putF "_cells" (.ref qC) (putF "_variables" (.ref qV) (putF "_starts" (.int (ds.length : Int)) (putF "fields" (.ref tF) [])))))))))))))))) n_qS).trans w_qS
    replace w_qZ := (upd_ne (a := h) (o := HO.ins C dx (putF "_log" (.non) (putF "_kept_puts" (.non) (putF "_kept_copies" (.non) (putF "_views" (.ref qW) (putF "_reached" (.ref qH) (putF "_puts" (.int 0) (putF "_copies" (.int 0) (putF "_looks" (.ref qL) (putF "_readers" (.ref qR) (putF "_frozen" (.ref qZ) (putF "_sources" (.ref qS) (putF "_cells" (.ref qC) (putF "_variables" (.ref qV) (putF "_starts" (.int (ds.length : Int)) (putF "fields" (.ref tF) [])))))))))))))))) n_qZ).trans w_qZ
    replace w_qR := (upd_ne (a := h) (o := HO.ins C dx (putF "_log" (.non) (putF "_kept_puts" (.non) (putF "_kept_copies" (.non) (putF "_views" (.ref qW) (putF "_reached" (.ref qH) (putF "_puts" (.int 0) (putF "_copies" (.int 0) (putF "_looks" (.ref qL) (putF "_readers" (.ref qR) (putF "_frozen" (.ref qZ) (putF "_sources" (.ref qS) (putF "_cells" (.ref qC) (putF "_variables" (.ref qV) (putF "_starts" (.int (ds.length : Int)) (putF "fields" (.ref tF) [])))))))))))))))) n_qR).trans w_qR
    replace w_qL := (upd_ne (a := h) (o := HO.ins C dx (putF "_log" (.non) (putF "_kept_puts" (.non) (putF "_kept_copies" (.non) (putF "_views" (.ref qW) (putF "_reached" (.ref qH) (putF "_puts" (.int 0) (putF "_copies" (.int 0) (putF "_looks" (.ref qL) (putF "_readers" (.ref qR) (putF "_frozen" (.ref qZ) (putF "_sources" (.ref qS) (putF "_cells" (.ref qC) (putF "_variables" (.ref qV) (putF "_starts" (.int (ds.length : Int)) (putF "fields" (.ref tF) [])))))))))))))))) n_qL).trans w_qL
    replace w_qH := (upd_ne (a := h) (o := HO.ins C dx (putF "_log" (.non) (putF "_kept_puts" (.non) (putF "_kept_copies" (.non) (putF "_views" (.ref qW) (putF "_reached" (.ref qH) (putF "_puts" (.int 0) (putF "_copies" (.int 0) (putF "_looks" (.ref qL) (putF "_readers" (.ref qR) (putF "_frozen" (.ref qZ) (putF "_sources" (.ref qS) (putF "_cells" (.ref qC) (putF "_variables" (.ref qV) (putF "_starts" (.int (ds.length : Int)) (putF "fields" (.ref tF) [])))))))))))))))) n_qH).trans w_qH
    replace w_qW := (upd_ne (a := h) (o := HO.ins C dx (putF "_log" (.non) (putF "_kept_puts" (.non) (putF "_kept_copies" (.non) (putF "_views" (.ref qW) (putF "_reached" (.ref qH) (putF "_puts" (.int 0) (putF "_copies" (.int 0) (putF "_looks" (.ref qL) (putF "_readers" (.ref qR) (putF "_frozen" (.ref qZ) (putF "_sources" (.ref qS) (putF "_cells" (.ref qC) (putF "_variables" (.ref qV) (putF "_starts" (.int (ds.length : Int)) (putF "fields" (.ref tF) [])))))))))))))))) n_qW).trans w_qW
    generalize upd G22 h (HO.ins C dx (putF "_log" (.non) (putF "_kept_puts" (.non) (putF "_kept_copies" (.non) (putF "_views" (.ref qW) (putF "_reached" (.ref qH) (putF "_puts" (.int 0) (putF "_copies" (.int 0) (putF "_looks" (.ref qL) (putF "_readers" (.ref qR) (putF "_frozen" (.ref qZ) (putF "_sources" (.ref qS) (putF "_cells" (.ref qC) (putF "_variables" (.ref qV) (putF "_starts" (.int (ds.length : Int)) (putF "fields" (.ref tF) [])))))))))))))))) = G23 at B23 w_qV w_qC w_qS w_qZ w_qR w_qL w_qH w_qW ⊢
    refine ⟨_, rfl, h, C, dx, _, rfl, B23.ob, T0.cl, T0.n_before, lt (by decide) B23.ln, ?_⟩
    have B24 := B23.fld "_before" (.non)
    replace w_qV := (upd_ne (a := h) (o := HO.ins C dx (putF "_before" (.non) (putF "_log" (.non) (putF "_kept_puts" (.non) (putF "_kept_copies" (.non) (putF "_views" (.ref qW) (putF "_reached" (.ref qH) (putF "_puts" (.int 0) (putF "_copies" (.int 0) (putF "_looks" (.ref qL) (putF "_readers" (.ref qR) (putF "_frozen" (.ref qZ) (putF "_sources" (.ref qS) (putF "_cells" (.ref qC) (putF "_variables" (.ref qV) (putF "_starts" (.int (ds.length : Int)) (putF "fields" (.ref tF) []))))))))))))))))) n_qV).trans w_qV
    replace w_qC := (upd_ne (a := h) (o := HO.ins C dx (putF "_before" (.non) (putF "_log" (.non) (putF "_kept_puts" (.non) (putF "_kept_copies" (.non) (putF "_views" (.ref qW) (putF "_reached" (.ref qH) (putF "_puts" (.int 0) (putF "_copies" (.int 0) (putF "_looks" (.ref qL) (putF "_readers" (.ref qR) (putF "_frozen" (.ref qZ) (putF "_sources" (.ref qS) (putF "_cells" (.ref qC) (putF "_variables" (.ref qV) (putF "_starts" (.int (ds.length : Int)) (putF "fields" (.ref tF) []))))))))))))))))) n_qC).trans w_qC
    replace w_qS := (upd_ne (a := h) (o := HO.ins C dx (putF "_before" (.non) (putF "_log" (.non) (putF "_kept_puts" (.non) (putF "_kept_copies" (.non) (putF "_views" (.ref qW) (putF "_reached" (.ref qH) (putF "_puts" (.int 0) (putF "_copies" (.int 0) (putF "_looks" (.ref qL) (putF "_readers" (.ref qR) (putF "_frozen" (.ref qZ) (putF "_sources" (.ref qS) (putF "_cells" (.ref qC) (putF "_variables" (.ref qV) (putF "_starts" (.int (ds.length : Int)) (putF "fields" (.ref tF) []))))))))))))))))) n_qS).trans w_qS
    replace w_qZ := (upd_ne (a := h) (o := HO.ins C dx (putF "_before" (.non) (putF "_log" (.non) (putF "_kept_puts" (.non) (putF "_kept_copies" (.non) (putF "_views" (.ref qW) (putF "_reached" (.ref qH) (putF "_puts" (.int 0) (putF "_copies" (.int 0) (putF "_looks" (.ref qL) (putF "_readers" (.ref qR) (putF "_frozen" (.ref qZ) (putF "_sources" (.ref qS) (putF "_cells" (.ref qC) (putF "_variables" (.ref qV) (putF "_starts" (.int (ds.length : Int)) (putF "fields" (.ref tF) []))))))))))))))))) n_qZ).trans w_qZ
    replace w_qR := (upd_ne (a := h) (o := HO.ins C dx (putF "_before" (.non) (putF "_log" (.non) (putF "_kept_puts" (.non) (putF "_kept_copies" (.non) (putF "_views" (.ref qW) (putF "_reached" (.ref qH) (putF "_puts" (.int 0) (putF "_copies" (.int 0) (putF "_looks" (.ref qL) (putF "_readers" (.ref qR) (putF "_frozen" (.ref qZ) (putF "_sources" (.ref qS) (putF "_cells" (.ref qC) (putF "_variables" (.ref qV) (putF "_starts" (.int (ds.length : Int)) (putF "fields" (.ref tF) []))))))))))))))))) n_qR).trans w_qR
    replace w_qL := (upd_ne (a := h) (o := HO.ins C dx (putF "_before" (.non) (putF "_log" (.non) (putF "_kept_puts" (.non) (putF "_kept_copies" (.non) (putF "_views" (.ref qW) (putF "_reached" (.ref qH) (putF "_puts" (.int 0) (putF "_copies" (.int 0) (putF "_looks" (.ref qL) (putF "_readers" (.ref qR) (putF "_frozen" (.ref qZ) (putF "_sources" (.ref qS) (putF "_cells" (.ref qC) (putF "_variables" (.ref qV) (putF "_starts" (.int (ds.length : Int)) (putF "fields" (.ref tF) []))))))))))))))))) n_qL).trans w_qL
    replace w_qH := (upd_ne (a := h) (o := HO.ins C dx (putF "_before" (.non) (putF "_log" (.non) (putF "_kept_puts" (.non) (putF "_kept_copies" (.non) (putF "_views" (.ref qW) (putF "_reached" (.ref qH) (putF "_puts" (.int 0) (putF "_copies" (.int 0) (putF "_looks" (.ref qL) (putF "_readers" (.ref qR) (putF "_frozen" (.ref qZ) (putF "_sources" (.ref qS) (putF "_cells" (.ref qC) (putF "_variables" (.ref qV) (putF "_starts" (.int (ds.length : Int)) (putF "fields" (.ref tF) []))))))))))))))))) n_qH).trans w_qH
    replace w_qW := (upd_ne (a := h) (o := HO.ins C dx (putF "_before" (.non) (putF "_log" (.non) (putF "_kept_puts" (.non) (putF "_kept_copies" (.non) (putF "_views" (.ref qW) (putF "_reached" (.ref qH) (putF "_puts" (.int 0) (putF "_copies" (.int 0) (putF "_looks" (.ref qL) (putF "_readers" (.ref qR) (putF "_frozen" (.ref qZ) (putF "_sources" (.ref qS) (putF "_cells" (.ref qC) (putF "_variables" (.ref qV) (putF "_starts" (.int (ds.length : Int)) (putF "fields" (.ref tF) []))))))))))))))))) n_qW).trans w_qW
    generalize upd G23 h (HO.ins C dx (putF "_before" (.non) (putF "_log" (.non) (putF "_kept_puts" (.non) (putF "_kept_copies" (.non) (putF "_views" (.ref qW) (putF "_reached" (.ref qH) (putF "_puts" (.int 0) (putF "_copies" (.int 0) (putF "_looks" (.ref qL) (putF "_readers" (.ref qR) (putF "_frozen" (.ref qZ) (putF "_sources" (.ref qS) (putF "_cells" (.ref qC) (putF "_variables" (.ref qV) (putF "_starts" (.int (ds.length : Int)) (putF "fields" (.ref tF) []))))))))))))))))) = G24 at B24 w_qV w_qC w_qS w_qZ w_qR w_qL w_qH w_qW ⊢
    refine k ⟨dx, tF, qV, qC, qS, qZ, qR, qL, qH, qW⟩ G24 rfl (fun b o e ne => B24.fr b o e ne) (fun x e => B24.gr x e) ⟨f_qV, f_qC, f_qS, f_qZ, f_qR, f_qL, f_qW⟩ ⟨B24.ob, B24.fr _ _ hF nF, w_qV, w_qC, w_qS, w_qZ, w_qR, w_qL, w_qH, w_qW, ?_, rfl, Nat.le_refl _⟩
    simp only [List.nodup_cons, List.mem_cons, List.not_mem_nil, or_false, not_or, not_false_eq_true, List.nodup_nil, and_true]
    exact ⟨⟨d_qV_qC, d_qV_qS, d_qV_qZ, d_qV_qR, d_qV_qL, d_qV_qW⟩, ⟨d_qC_qS, d_qC_qZ, d_qC_qR, d_qC_qL, d_qC_qW⟩, ⟨d_qS_qZ, d_qS_qR, d_qS_qL, d_qS_qW⟩, ⟨d_qZ_qR, d_qZ_qL, d_qZ_qW⟩, ⟨d_qR_qL, d_qR_qW⟩, d_qL_qW⟩
end
end TW
set_option Elab.async false
set_option linter.all false
set_option maxRecDepth 100000
namespace TW
open PySem PySem.Spec PyProof.Rows L2 TL LamX NdefX LamQ
/-- x holds v from here on -/
def setV : Ob → Str → Option Nat → Ob
  | [], x, v => [(x, v)]
  | p :: r, x, v => if p.1 = x then (x, v) :: r else p :: setV r x v
theorem setV_lookup (l : Ob) (x z : Str) (v : Option Nat) : (setV l x v).lookup z = if z = x then some v else l.lookup z := by
  induction l with
  | nil =>
    by_cases h : z = x
    · subst h
      simp [setV, List.lookup]
    · have h2 : (z == x) = false := by simpa using h
      rw [if_neg h]
      simp [setV, List.lookup, h2]
  | cons p r ih =>
    obtain ⟨y, u⟩ := p
    unfold setV
    by_cases e : y = x
    · rw [if_pos e]
      by_cases h : z = x
      · subst h
        rw [if_pos rfl]
        simp [List.lookup]
      · have h2 : (z == x) = false := by simpa using h
        rw [if_neg h, List.lookup, h2, List.lookup, show (z == y) = false by rw [e]; exact h2]
    · rw [if_neg e]
      by_cases h : z = y
      · subst h
        rw [if_neg e]
        simp [List.lookup]
      · have h2 : (z == y) = false := by simpa using h
        rw [List.lookup, h2, List.lookup, h2]
        exact ih
theorem setV_keys (l : Ob) (x : Str) (v : Option Nat) : (setV l x v).map (·.1) = if x ∈ l.map (·.1) then l.map (·.1) else l.map (·.1) ++ [x] := by
  induction l with
  | nil => rfl
  | cons p r ih =>
    obtain ⟨y, u⟩ := p
    unfold setV
    by_cases e : y = x
    · subst e
      simp
    · rw [if_neg e]
      have e' : ¬ x = y := fun z => e z.symm
      rw [List.map_cons, List.map_cons, ih]
      by_cases m : x ∈ r.map (·.1)
      · rw [if_pos m, if_pos (List.mem_cons_of_mem _ m)]
      · rw [if_neg m, if_neg (fun z => (List.mem_cons.mp z).elim e' m)]
        rfl
theorem setV_len (l : Ob) (x : Str) (v : Option Nat) : (setV l x v).length ≤ l.length + 1 := by
  have h := congrArg List.length (setV_keys l x v)
  rw [List.length_map] at h
  rw [h]
  split
  · rw [List.length_map]
    exact Nat.le_succ _
  · rw [List.length_append, List.length_map]
    exact Nat.le_refl _
theorem put_map_off {l : List (Key × V)} {k : Key} {v : V} (h : ∀ kv ∈ l, kv.1 ≠ k) : l.map (fun kv => if kv.1 = k then (kv.1, v) else kv) = l := by
  induction l with
  | nil => rfl
  | cons p r ih =>
    rw [List.map_cons, if_neg (h p (List.mem_cons_self ..)), ih fun kv m => h kv (List.mem_cons_of_mem _ m)]
theorem putK_dk (l : Ob) (nd : (l.map (·.1)).Nodup) (x : Str) (v : Option Nat) : putK (dk l) (Sum.inr x : Key) (hv v) = dk (setV l x v) := by
  induction l with
  | nil => rfl
  | cons p r ih =>
    obtain ⟨y, u⟩ := p
    obtain ⟨n1, n2⟩ := List.nodup_cons.mp (show (y :: r.map (·.1)).Nodup from nd)
    have ih := ih n2
    unfold setV
    by_cases e : y = x
    · subst e
      rw [if_pos rfl]
      unfold putK
      rw [if_pos (by simp [dk])]
      show (if (Sum.inr y : Key) = Sum.inr y then ((Sum.inr y : Key), hv v) else ((Sum.inr y : Key), hv u)) :: (dk r).map _ = ((Sum.inr y : Key), hv v) :: dk r
      rw [if_pos rfl, put_map_off]
      intro kv m z
      obtain ⟨q, hq, rfl⟩ := List.mem_map.mp m
      have : q.1 = y := Sum.inr.inj z
      exact n1 (List.mem_map.mpr ⟨q, hq, this⟩)
    · rw [if_neg e]
      have e2 : ¬ ((Sum.inr y : Key) = Sum.inr x) := fun z => e (Sum.inr.inj z)
      unfold putK at ih ⊢
      have hany : ((dk ((y, u) :: r)).any fun kv => decide (kv.1 = (Sum.inr x : Key))) = ((dk r).any fun kv => decide (kv.1 = (Sum.inr x : Key))) := by
        show (decide ((Sum.inr y : Key) = Sum.inr x) || _) = _
        rw [decide_eq_false e2, Bool.false_or]
        rfl
      rw [hany]
      show _ = ((Sum.inr y : Key), hv u) :: dk (setV r x v)
      rw [← ih]
      split
      · show (if (Sum.inr y : Key) = Sum.inr x then ((Sum.inr y : Key), hv v) else ((Sum.inr y : Key), hv u)) :: _ = _
        rw [if_neg e2]
        rfl
      · rfl
theorem setV_nodup {l : Ob} (nd : (l.map (·.1)).Nodup) (x : Str) (v : Option Nat) : ((setV l x v).map (·.1)).Nodup := by
  rw [setV_keys]
  split
  · exact nd
  · rename_i h
    exact List.nodup_append.mpr ⟨nd, List.nodup_cons.mpr ⟨(fun z => nomatch z), List.nodup_nil⟩, fun a ha b hb z => h (by
      rw [List.mem_singleton.mp hb] at z
      rw [← z]
      exact ha)⟩
/-- what x holds -/
def heldV (m : MS) (x : Str) : Option Nat := (m.vars.lookup x).getD none
theorem held_dk (l : Ob) (x : Str) : (valV (dk l) (Sum.inr x : Key)).getD .non = hv ((l.lookup x).getD none) := by
  rw [dk_valV]
  cases l.lookup x <;> rfl
/-- the dicts that rows write to -/
def MP.qs (p : MP) : List Addr := [p.qV, p.qC, p.qS, p.qZ]
def spHeldM (C : Addr) : Sp := fun vs H Q _ => ∃ (h : Addr) (p : MP) (fs : List Str) (m : MS) (x : Str), vs = [.ref h, .str x] ∧ MachAt C H h p fs m ∧ Q (hv (heldV m x)) H
def spMadeM (C : Addr) : Sp := fun vs H Q _ => ∃ (h : Addr) (p : MP) (fs : List Str) (m : MS), vs = [.ref h] ∧ MachAt C H h p fs m ∧ Q (.int (m.frz.length : Int)) H
/-- an object or None as users see it -/
def valD (m : MS) : Option Nat → PyData
  | none => .tuple [.str "none"]
  | some k => if k < m.starts then .tuple [.str "start", .int (k : Int)] else .tuple [.str "own", .int ((k - m.starts : Nat) : Int), .bool ((m.frz[k - m.starts]?).getD false)]
def spValueM (K : PySem.W.Frag) (C : Addr) : Sp := fun vs H Q _ => ∃ (h : Addr) (p : MP) (fs : List Str) (m : MS) (v : Option Nat), vs = [.ref h, hv v] ∧ MachAt C H h p fs m ∧ okv m.cells.length v ∧ ∀ t H', Same H H' → H t = none → Dp K H' (.ref t) (valD m v) → Q (.ref t) H'
def spLooksM (C : Addr) : Sp := fun vs H Q _ => ∃ (h : Addr) (p : MP) (fs : List Str) (m : MS), vs = [.ref h] ∧ MachAt C H h p fs m ∧ ∀ q, H q = none → Q (.ref q) (upd H q (.lst []))
def spNothing (C : Addr) : Sp := fun vs H Q _ => ∃ (h : Addr) (p : MP) (fs : List Str) (m : MS), vs = [.ref h] ∧ MachAt C H h p fs m ∧ fs.Nodup ∧ fs.length ≤ 2 ∧ ∀ q H', H q = none → Same H H' → H' q = some (.dK (dk (fs.map fun f => (f, none)))) → (∀ x, H' x = none → H x = none) → Q (.ref q) H'
def spWriteM (C : Addr) : Sp := fun vs H Q _ => ∃ (h : Addr) (p : MP) (st : Nat) (q : Addr) (y v : V) (H' : Hp), vs = [.ref h, .ref q, y, v] ∧ H h = some (.ins C p.dx (mfl p st 0 0)) ∧ DPut H q y v H' ∧ Q .non H'
theorem frK_val : ∀ (bs : List Bool) (st k j : Nat) (hj : j < bs.length), valV (bs.zipIdx k |>.map fun p => ((Sum.inl ((st + p.2 : Nat) : Int) : Key), V.bl p.1)) (Sum.inl ((st + (k + j) : Nat) : Int) : Key) = some (.bl bs[j])
  | b :: bs, st, k, 0, _ => valV_pos rfl
  | b :: bs, st, k, j + 1, hj => by
    have e : st + (k + (j + 1)) = st + (k + 1 + j) := by omega
    rw [e]
    refine (valV_neg (fun z => ?_)).trans (frK_val bs st (k + 1) j (by simpa using hj))
    have e2 : ((st + k : Nat) : Int) = ((st + (k + 1 + j) : Nat) : Int) := Sum.inl.inj z
    omega
theorem frK_dget {H : Hp} {q : Addr} {st : Nat} {bs : List Bool} {j : Nat} (e : H q = some (.dK (frK st bs))) (hj : j < bs.length) : DGet H q (.int ((st + j : Nat) : Int)) (some (.bl bs[j])) := by
  have h := frK_val bs st 0 j hj
  rw [Nat.zero_add] at h
  have g := DGet.k (k := (Sum.inl ((st + j : Nat) : Int) : Key)) e
  unfold frK at g
  rw [h] at g
  exact g
abbrev S_Machine_held : Stmt := inClass (topS 30) 1
abbrev N_Machine_held : List Str := ["self", "name"]
abbrev P_Machine_held : List Str := ["self", "name"]
theorem sc_Machine_held : FnScope N_Machine_held P_Machine_held (defScope S_Machine_held) := ⟨rfl, rfl, rfl, by decide +kernel, rfl, by decide +kernel, by decide +kernel⟩
abbrev S_Machine_made : Stmt := inClass (topS 30) 5
abbrev N_Machine_made : List Str := ["self"]
abbrev P_Machine_made : List Str := ["self"]
theorem sc_Machine_made : FnScope N_Machine_made P_Machine_made (defScope S_Machine_made) := ⟨rfl, rfl, rfl, by decide +kernel, rfl, by decide +kernel, by decide +kernel⟩
abbrev S_Machine_value : Stmt := inClass (topS 30) 3
abbrev N_Machine_value : List Str := ["self", "number"]
abbrev P_Machine_value : List Str := ["self", "number"]
theorem sc_Machine_value : FnScope N_Machine_value P_Machine_value (defScope S_Machine_value) := ⟨rfl, rfl, rfl, by decide +kernel, rfl, by decide +kernel, by decide +kernel⟩
abbrev S_Machine_looks : Stmt := inClass (topS 30) 7
abbrev N_Machine_looks : List Str := ["self"]
abbrev P_Machine_looks : List Str := ["self"]
theorem sc_Machine_looks : FnScope N_Machine_looks P_Machine_looks (defScope S_Machine_looks) := ⟨rfl, rfl, rfl, by decide +kernel, rfl, by decide +kernel, by decide +kernel⟩
abbrev S_Machine_reached : Stmt := inClass (topS 30) 8
abbrev N_Machine_reached : List Str := ["self"]
abbrev P_Machine_reached : List Str := ["self"]
theorem sc_Machine_reached : FnScope N_Machine_reached P_Machine_reached (defScope S_Machine_reached) := ⟨rfl, rfl, rfl, by decide +kernel, rfl, by decide +kernel, by decide +kernel⟩
abbrev S_Machine__nothing : Stmt := inClass (topS 30) 28
abbrev N_Machine__nothing : List Str := ["self", "field"]
abbrev P_Machine__nothing : List Str := ["self"]
theorem sc_Machine__nothing : FnScope N_Machine__nothing P_Machine__nothing (defScope S_Machine__nothing) := ⟨rfl, rfl, rfl, by decide +kernel, rfl, by decide +kernel, by decide +kernel⟩
abbrev S_Machine__write : Stmt := inClass (topS 30) 17
abbrev N_Machine__write : List Str := ["self", "table", "key", "value"]
abbrev P_Machine__write : List Str := ["self", "table", "key", "value"]
theorem sc_Machine__write : FnScope N_Machine__write P_Machine__write (defScope S_Machine__write) := ⟨rfl, rfl, rfl, by decide +kernel, rfl, by decide +kernel, by decide +kernel⟩
section
variable {P : Program} {w : World} {K : PySem.W.Frag} {mg : Str → Option Value} {base : Heap}
set_option maxHeartbeats 4000000 in
theorem ok_held {f C : Addr} {fd : FuncData} (F : Fun K "held" "Machine.held" S_Machine_held f fd) (T0 : HCM K mg C) : FnOk P w K mg base CX0 1 f fd P_Machine_held (spHeldM C) := by
  refine F.ok sc_Machine_held (fun vs H Q E h => ?_) (fun cdv A outer s H vs Q E hr h => ?_)
  · obtain ⟨h, p, fs, m, x, rfl, _⟩ := h
    rfl
  · obtain ⟨h, p, fs, m, x, rfl, M, k⟩ := h
    have hu := hu_of hr
    refine ⟨_, (pss_one (ps_ret (pe_dget1 hu (pe_fld (pv 0) rfl) (pv 1) ⟨rfl, rfl, rfl, rfl⟩))), ?_⟩
    refine ⟨_, rfl, h, C, _, _, _, rfl, M.ob, T0.cl, T0.n_variables, mfl_variables .., p.qV, rfl, .inl ⟨_, .inl M.v⟩, _, rfl, _, DGet.k (k := (Sum.inr x : Key)) M.v, ?_⟩
    rw [held_dk]
    exact k
set_option maxHeartbeats 4000000 in
theorem ok_made {f C : Addr} {fd : FuncData} (F : Fun K "made" "Machine.made" S_Machine_made f fd) (B : Bl mg) (T0 : HCM K mg C) : FnOk P w K mg base CX0 1 f fd P_Machine_made (spMadeM C) := by
  refine F.ok sc_Machine_made (fun vs H Q E h => ?_) (fun cdv A outer s H vs Q E hr h => ?_)
  · obtain ⟨h, p, fs, m, rfl, _⟩ := h
    rfl
  · obtain ⟨h, p, fs, m, rfl, M, k⟩ := h
    refine ⟨_, (pss_one (ps_ret (pe_op op_sub (pe_callB call_lenD (by rfl) B.m_len PySem.boot_len (pa_cons (pe_fld (pv 0) rfl) pa_nil)) (pe_fld (pv 0) rfl)))), ?_⟩
    refine ⟨_, rfl, h, C, _, _, _, rfl, M.ob, T0.cl, T0.n_cells, mfl_cells .., p.qC, _, rfl, M.c, _, rfl, h, C, _, _, _, rfl, M.ob, T0.cl, T0.n_starts, mfl_starts .., _, _, rfl, rfl, ?_⟩
    have e := M.len
    have e2 : ((enK (m.cells.map V.ref)).length : Int) - (m.starts : Int) = (m.frz.length : Int) := by
      rw [enK_len, List.length_map, e]
      omega
    show Q (V.int (((enK (m.cells.map V.ref)).length : Int) - (m.starts : Int))) H
    rw [e2]
    exact k
set_option maxHeartbeats 4000000 in
theorem ok_looksM {f C : Addr} {fd : FuncData} (F : Fun K "looks" "Machine.looks" S_Machine_looks f fd) (B : Bl mg) (T0 : HCM K mg C) : FnOk P w K mg base CX0 1 f fd P_Machine_looks (spLooksM C) := by
  refine F.ok sc_Machine_looks (fun vs H Q E h => ?_) (fun cdv A outer s H vs Q E hr h => ?_)
  · obtain ⟨h, p, fs, m, rfl, _⟩ := h
    rfl
  · obtain ⟨h, p, fs, m, rfl, M, k⟩ := h
    refine ⟨_, (pss_one (ps_ret (pe_callTy (call_listD rfl) (by rfl) B.m_list (by decide +kernel) (pa_cons (pe_fld (pv 0) rfl) pa_nil)))), ?_⟩
    refine ⟨_, rfl, h, C, _, _, _, rfl, M.ob, T0.cl, T0.n_looks, mfl_looks .., p.qL, _, rfl, .inl M.l, fun q nq => ?_⟩
    exact k q nq
set_option maxHeartbeats 4000000 in
theorem ok_writeM {f C : Addr} {fd : FuncData} (F : Fun K "_write" "Machine._write" S_Machine__write f fd) (T0 : HCM K mg C) : FnOk P w K mg base CX0 1 f fd P_Machine__write (spWriteM C) := by
  refine F.ok sc_Machine__write (fun vs H Q E h => ?_) (fun cdv A outer s H vs Q E hr h => ?_)
  · obtain ⟨h, p, st, q, y, v, H', rfl, _⟩ := h
    rfl
  · obtain ⟨h, p, st, q, y, v, H', rfl, hh, hp, k⟩ := h
    have hu := hu_of hr
    refine ⟨_, (pss_cons (ps_if (pt_cmpR op_notN (pe_fld (pv 0) rfl) pe_non (nomark _)) (pss_one ps_never) pss_nil)
 (pss_one (ps_dput hu (pv 1) (pv 2) (pv 3) rfl))), ?_⟩
    refine ⟨_, rfl, h, C, _, _, _, rfl, hh, T0.cl, T0.n_log, mfl_log .., ?_⟩
    refine ⟨rfl, _, rfl, ite_dec (fun hb => by simp at hb) (fun _ => ?_)⟩
    exact ⟨_, rfl, _, rfl, _, rfl, q, _, rfl, hp, k⟩
set_option maxHeartbeats 4000000 in
theorem ok_nothing {f C : Addr} {fd : FuncData} (F : Fun K "_nothing" "Machine._nothing" S_Machine__nothing f fd) (T0 : HCM K mg C) : FnOk P w K mg base CX0 1 f fd P_Machine__nothing (spNothing C) := by
  refine F.ok sc_Machine__nothing (fun vs H Q E h => ?_) (fun cdv A outer s H vs Q E hr h => ?_)
  · obtain ⟨h, p, fs, m, rfl, _⟩ := h
    rfl
  · obtain ⟨h, p, fs, m, rfl, M, nd, l2, k⟩ := h
    refine ⟨_, (pss_one (ps_ret (pe_dc (own := [("field", 1)]) (g := gName 1) (tt := tYes) rfl sc_Machine__nothing.nd (pi_tup (pe_fld (pv 0) rfl)) (blkOk_by (own := [("field", 1)]) (N := N_Machine__nothing) (sc := defScope S_Machine__nothing) (by decide +kernel)) (fun _ _ _ _ _ => pg_name (i := 1) sc_Machine__nothing.nd rfl (by first | exact Or.inl rfl | exact Or.inr rfl)) (fun _ _ _ _ _ => pts_nil) (fun _ _ _ _ _ => (pv 1)) (fun _ _ _ _ _ => pe_non)))), ?_⟩
    refine ⟨_, rfl, h, C, _, _, _, rfl, M.ob, T0.cl, T0.n_fields, mfl_fields .., p.tF, rfl, ⟨_, SqT.of M.f⟩, fun D hD => ?_⟩
    refine dc_tup (xs := fs.map V.str) (fun i H2 => Same H H2 ∧ H2 D = some (.dK (dk ((fs.take i).map fun f => (f, none)))) ∧ ∀ x, H2 x = none → H x = none) ⟨same_new hD, upd_same, fun x e => ?_⟩ ?_ ?_ ?_
    · by_cases z : x = D
      · rw [z]
        exact hD
      · rw [upd_ne z] at e
        exact e
    · rintro i H2 hi ⟨s2, w2, g2⟩
      exact SqT.of (s2 _ _ M.f)
    · rintro i x H2 hx ⟨s2, w2, g2⟩
      obtain ⟨z, hz, rfl⟩ := get_str hx
      have fresh : z ∉ ((fs.take i).map fun f => ((f, none) : Str × Option Nat)).map (·.1) := by
        rw [List.map_map]
        have e : ((fs.take i).map ((fun x : Str × Option Nat => x.1) ∘ fun f => (f, none))) = fs.take i := (List.map_congr_left fun _ _ => rfl).trans (List.map_id _)
        rw [e]
        exact nodup_fresh nd hz
      have e1 := dk_put (v := none) fresh
      refine ⟨rfl, yes_of ?_⟩
      refine ⟨_, rfl, _, (Sum.inr z : Key), rfl, w2, by rw [dk_len, List.length_map, List.length_take]; exact small1000 (by omega), fun b o e => ?_, ?_, fun x e => ?_⟩
      · rw [upd_ne (ne_of_none e hD)]
        exact s2 _ _ e
      · rw [upd_same]
        refine congrArg (fun x => some (HO.dK x)) (Eq.trans e1 ?_)
        rw [take_next hz, List.map_append]
        rfl
      · by_cases z : x = D
        · rw [z]
          exact hD
        · rw [upd_ne z] at e
          exact g2 x e
    · rintro H2 ⟨s2, w2, g2⟩
      rw [List.length_map, List.take_length] at w2
      exact k D H2 hD s2 w2 g2
set_option maxHeartbeats 4000000 in
theorem ok_valueM {f C : Addr} {fd : FuncData} (F : Fun K "value" "Machine.value" S_Machine_value f fd) (T0 : HCM K mg C) : FnOk P w K mg base CX0 1 f fd P_Machine_value (spValueM K C) := by
  refine F.ok sc_Machine_value (fun vs H Q E h => ?_) (fun cdv A outer s H vs Q E hr h => ?_)
  · obtain ⟨h, p, fs, m, v, rfl, _⟩ := h
    rfl
  · obtain ⟨h, p, fs, m, v, rfl, M, ok, k⟩ := h
    have hu := hu_of hr
    refine ⟨_, (pss_cons (ps_if (pt_cmpR op_isN (pv 1) pe_non (nomark _)) (pss_one (ps_ret (pe_tup (pa_cons pe_str pa_nil)))) pss_nil)
 (pss_cons (ps_if (pt_cmpR op_lt (pv 1) (pe_fld (pv 0) rfl) (nomark _)) (pss_one (ps_ret (pe_tup (pa_cons pe_str (pa_cons (pv 1) pa_nil))))) pss_nil)
 (pss_one (ps_ret (pe_tup (pa_cons pe_str (pa_cons (pe_op op_sub (pv 1) (pe_fld (pv 0) rfl)) (pa_cons (pe_dget hu (pe_fld (pv 0) rfl) (pv 1) (fun _ _ => rfl)) pa_nil)))))))), ?_⟩
    refine ⟨_, rfl, rfl, _, rfl, ite_dec (fun hb => ?_) (fun hb => ?_)⟩
    · have ev : v = none := by
        cases v with
        | none => rfl
        | some n => cases of_decide_eq_true hb
      subst ev
      refine ⟨by show 1 ≤ sizeLine; decide, fun t nt => k t _ (same_new nt) nt ?_⟩
      exact .tup (SqT.of upd_same) (.cons (.str _) .nil)
    · obtain ⟨n, rfl⟩ : ∃ n, v = some n := by
        cases v with
        | none => exact absurd rfl (of_decide_eq_false hb)
        | some n => exact ⟨n, rfl⟩
      have ok' : n < m.cells.length := ok
      refine ⟨_, rfl, _, rfl, h, C, _, _, _, rfl, M.ob, T0.cl, T0.n_starts, mfl_starts .., _, _, rfl, rfl, _, rfl, ite_dec (fun hb2 => ?_) (fun hb2 => ?_)⟩
      · have lt : n < m.starts := by have := of_decide_eq_true hb2; omega
        refine ⟨_, rfl, by show 2 ≤ sizeLine; decide, fun t nt => k t _ (same_new nt) nt ?_⟩
        show Dp K _ _ (if n < m.starts then _ else _)
        rw [if_pos lt]
        exact .tup (SqT.of upd_same) (.cons (.str _) (.cons (.int _) .nil))
      · have ge : m.starts ≤ n := by have := of_decide_eq_false hb2; omega
        have e := M.len
        obtain ⟨j, rfl⟩ : ∃ j, n = m.starts + j := ⟨n - m.starts, by omega⟩
        have hj : j < m.frz.length := by omega
        refine ⟨_, rfl, _, rfl, h, C, _, _, _, rfl, M.ob, T0.cl, T0.n_starts, mfl_starts .., _, _, rfl, rfl, ?_⟩
        refine ⟨_, rfl, h, C, _, _, _, rfl, M.ob, T0.cl, T0.n_frozen, mfl_frozen .., _, rfl, p.qZ, _, rfl, frK_dget M.z hj, ?_⟩
        refine ⟨by show 3 ≤ sizeLine; decide, fun t nt => k t _ (same_new nt) nt ?_⟩
        show Dp K _ _ (if m.starts + j < m.starts then _ else _)
        rw [if_neg (by omega)]
        have e5 : ((m.starts + j : Nat) : Int) - (m.starts : Int) = ((m.starts + j - m.starts : Nat) : Int) := by omega
        have e6 : (m.frz[m.starts + j - m.starts]?).getD false = m.frz[j] := by
          rw [show m.starts + j - m.starts = j by omega, List.getElem?_eq_getElem hj]
          rfl
        rw [e6]
        refine .tup (SqT.of upd_same) (.cons (.str _) (.cons ?_ (.cons (.bl _) .nil)))
        show Dp K _ (.int (((m.starts + j : Nat) : Int) - (m.starts : Int))) _
        rw [e5]
        exact .int _
set_option maxHeartbeats 4000000 in
theorem ok_reachedM {f C : Addr} {fd : FuncData} (F : Fun K "reached" "Machine.reached" S_Machine_reached f fd) (B : Bl mg) (T0 : HCM K mg C) : FnOk P w K mg base CX0 1 f fd P_Machine_reached (spLooksM C) := by
  refine F.ok sc_Machine_reached (fun vs H Q E h => ?_) (fun cdv A outer s H vs Q E hr h => ?_)
  · obtain ⟨h, p, fs, m, rfl, _⟩ := h
    rfl
  · obtain ⟨h, p, fs, m, rfl, M, k⟩ := h
    refine ⟨_, (pss_one (ps_ret (pe_callB cr_sortedS (by rfl) B.m_sorted (by decide +kernel) (pa_cons (pe_fld (pv 0) rfl) pa_nil)))), ?_⟩
    refine ⟨_, rfl, h, C, _, _, _, rfl, M.ob, T0.cl, T0.n_reached, mfl_reached .., ?_⟩
    refine ⟨p.qH, [], rfl, SqL.of M.a, by show 0 < 64; decide, fun ys q pm so nq => ?_⟩
    have e := pm.eq_nil
    subst e
    exact k q nq
end
end TW
set_option Elab.async false
set_option linter.all false
set_option maxRecDepth 100000
namespace TW
open PySem PySem.Spec PyProof.Rows L2 TL LamX NdefX LamQ
def mAttrs : List Str := ["fields", "_starts", "_variables", "_cells", "_sources", "_frozen", "_readers", "_looks", "_copies", "_puts", "_reached", "_views", "_kept_copies", "_kept_puts", "_log", "_before"]
theorem mfl_no (p : MP) (st cp pu : Nat) {m : Str} (h : m ∉ mAttrs) : (mfl p st cp pu).lookup m = none := by
  have k : ∀ f ∈ mAttrs, ¬ m = f := fun f hf e => h (by rw [e]; exact hf)
  exact mfl_none p st cp pu (k _ (by decide +kernel)) (k _ (by decide +kernel)) (k _ (by decide +kernel)) (k _ (by decide +kernel)) (k _ (by decide +kernel)) (k _ (by decide +kernel)) (k _ (by decide +kernel)) (k _ (by decide +kernel)) (k _ (by decide +kernel)) (k _ (by decide +kernel)) (k _ (by decide +kernel)) (k _ (by decide +kernel)) (k _ (by decide +kernel)) (k _ (by decide +kernel)) (k _ (by decide +kernel)) (k _ (by decide +kernel))
theorem mno_held (p : MP) (st : Nat) : (mfl p st 0 0).lookup ("held" : Str) = none := mfl_no p st 0 0 (by decide +kernel)
theorem mno_write (p : MP) (st : Nat) : (mfl p st 0 0).lookup ("_write" : Str) = none := mfl_no p st 0 0 (by decide +kernel)
theorem mno_make (p : MP) (st : Nat) : (mfl p st 0 0).lookup ("_make" : Str) = none := mfl_no p st 0 0 (by decide +kernel)
theorem mno_nothing (p : MP) (st : Nat) : (mfl p st 0 0).lookup ("_nothing" : Str) = none := mfl_no p st 0 0 (by decide +kernel)
theorem mno_do (p : MP) (st : Nat) : (mfl p st 0 0).lookup ("do" : Str) = none := mfl_no p st 0 0 (by decide +kernel)
theorem mno_value (p : MP) (st : Nat) : (mfl p st 0 0).lookup ("value" : Str) = none := mfl_no p st 0 0 (by decide +kernel)
theorem mno_made (p : MP) (st : Nat) : (mfl p st 0 0).lookup ("made" : Str) = none := mfl_no p st 0 0 (by decide +kernel)
theorem mno_looks (p : MP) (st : Nat) : (mfl p st 0 0).lookup ("looks" : Str) = none := mfl_no p st 0 0 (by decide +kernel)
theorem mno_reached (p : MP) (st : Nat) : (mfl p st 0 0).lookup ("reached" : Str) = none := mfl_no p st 0 0 (by decide +kernel)
theorem putK_fresh {l : List (Key × V)} {k : Key} {v : V} (h : ∀ kv ∈ l, kv.1 ≠ k) : putK l k v = l ++ [(k, v)] := by
  unfold putK
  rw [if_neg]
  intro z
  obtain ⟨kv, m, e⟩ := List.any_eq_true.mp z
  exact h kv m (of_decide_eq_true e)
theorem enK_put (xs : List V) (v : V) : putK (enK xs) (Sum.inl (xs.length : Int) : Key) v = enK (xs ++ [v]) := by
  rw [putK_fresh]
  · unfold enK
    rw [List.zipIdx_append, List.map_append]
    simp
  · intro kv m e
    unfold enK at m
    obtain ⟨q, hq, rfl⟩ := List.mem_map.mp m
    have h := List.snd_lt_of_mem_zipIdx hq
    have e2 : (q.2 : Int) = (xs.length : Int) := Sum.inl.inj e
    omega
theorem frK_put (st : Nat) (bs : List Bool) (b : Bool) : putK (frK st bs) (Sum.inl ((st + bs.length : Nat) : Int) : Key) (.bl b) = frK st (bs ++ [b]) := by
  rw [putK_fresh]
  · unfold frK
    rw [List.zipIdx_append, List.map_append]
    simp
  · intro kv m e
    unfold frK at m
    obtain ⟨q, hq, rfl⟩ := List.mem_map.mp m
    have h := List.snd_lt_of_mem_zipIdx hq
    have e2 : ((st + q.2 : Nat) : Int) = ((st + bs.length : Nat) : Int) := Sum.inl.inj e
    omega
/-- nothing goes, and what is not in L stays -/
structure Wr (L : List Addr) (H H' : Hp) : Prop where
  k : ∀ b o, H b = some o → b ∉ L → H' b = some o
  g : ∀ x, H' x = none → H x = none
theorem Wr.refl (L : List Addr) (H : Hp) : Wr L H H := ⟨fun _ _ e _ => e, fun _ e => e⟩
theorem Wr.trans {L : List Addr} {H H1 H2 : Hp} (a : Wr L H H1) (b : Wr L H1 H2) : Wr L H H2 := ⟨fun x o e n => b.k x o (a.k x o e n) n, fun x e => a.g x (b.g x e)⟩
theorem Wr.put {L : List Addr} {H : Hp} {q : Addr} (o : HO) (h : q ∈ L) (u : HO) (e : H q = some u) : Wr L H (upd H q o) := ⟨fun b x e n => (upd_ne (fun z => n (by rw [z]; exact h))).trans e, fun x ex => by
  by_cases z : x = q
  · rw [z, upd_same] at ex
    cases ex
  · rwa [upd_ne z] at ex⟩
theorem Wr.same {L : List Addr} {H H' : Hp} (s : Same H H') (g : ∀ x, H' x = none → H x = none) : Wr L H H' := ⟨fun b o e _ => s b o e, g⟩
theorem Wr.none {L : List Addr} {H H' : Hp} (w : Wr L H H') {x : Addr} (e : H' x = none) : H x = none := w.g x e
def MS.made1 (m : MS) (dC : Addr) (b : Bool) (kS : List (Key × V)) : MS := { m with cells := m.cells ++ [dC], frz := m.frz ++ [b], kS := kS }
def spMakeM (C : Addr) : Sp := fun vs H Q _ => ∃ (h dC dS : Addr) (b : Bool) (p : MP) (fs : List Str) (m : MS), vs = [.ref h, .ref dC, .ref dS, .bl b] ∧ MachAt C H h p fs m ∧ m.cells.length ≤ 1000 ∧
  ∀ H' kS, MachAt C H' h p fs (m.made1 dC b kS) → Wr p.qs H H' → Q (.int (m.cells.length : Int)) H'
/-- the parts of a Machine, whatever its dicts hold -/
structure MR (C : Addr) (H : Hp) (h : Addr) (p : MP) (fs : List Str) (st : Nat) (kv kc ks kz : List (Key × V)) : Prop where
  ob : H h = some (.ins C p.dx (mfl p st 0 0))
  f : H p.tF = some (.tup (fs.map V.str))
  v : H p.qV = some (.dK kv)
  c : H p.qC = some (.dK kc)
  s : H p.qS = some (.dK ks)
  z : H p.qZ = some (.dK kz)
  r : H p.qR = some (.dK [])
  l : H p.qL = some (.dK [])
  a : H p.qH = some (.lst [])
  w : H p.qW = some (.dK [])
  nd : [p.qV, p.qC, p.qS, p.qZ, p.qR, p.qL, p.qW].Nodup
theorem MachAt.mr {C : Addr} {H : Hp} {h : Addr} {p : MP} {fs : List Str} {m : MS} (M : MachAt C H h p fs m) : MR C H h p fs m.starts (dk m.vars) (enK (m.cells.map V.ref)) m.kS (frK m.starts m.frz) :=
  ⟨M.ob, M.f, M.v, M.c, M.s, M.z, M.r, M.l, M.a, M.w, M.nd⟩
section
variable {C : Addr} {H : Hp} {h : Addr} {p : MP} {fs : List Str} {st : Nat} {kv kc ks kz k' : List (Key × V)}
theorem MR.un (M : MR C H h p fs st kv kc ks kz) : (p.qV ≠ p.qC ∧ p.qV ≠ p.qS ∧ p.qV ≠ p.qZ ∧ p.qV ≠ p.qR ∧ p.qV ≠ p.qL ∧ p.qV ≠ p.qW) ∧ (p.qC ≠ p.qS ∧ p.qC ≠ p.qZ ∧ p.qC ≠ p.qR ∧ p.qC ≠ p.qL ∧ p.qC ≠ p.qW) ∧ (p.qS ≠ p.qZ ∧ p.qS ≠ p.qR ∧ p.qS ≠ p.qL ∧ p.qS ≠ p.qW) ∧ (p.qZ ≠ p.qR ∧ p.qZ ≠ p.qL ∧ p.qZ ≠ p.qW) ∧ (p.qR ≠ p.qL ∧ p.qR ≠ p.qW) ∧ p.qL ≠ p.qW := by
  have := M.nd
  simpa only [List.nodup_cons, List.mem_cons, List.not_mem_nil, or_false, not_or, not_false_eq_true, List.nodup_nil, and_true] using this
theorem MR.putV (M : MR C H h p fs st kv kc ks kz) : MR C (upd H p.qV (.dK k')) h p fs st k' kc ks kz := by
  obtain ⟨⟨d1, d2, d3, d4, d5, d6⟩, ⟨e2, e3, e4, e5, e6⟩, ⟨g3, g4, g5, g6⟩, ⟨i4, i5, i6⟩, ⟨j5, j6⟩, l6⟩ := M.un
  have n : ∀ {b : Addr} {o : HO}, H b = some o → (∀ x, o ≠ .dK x) → b ≠ p.qV := fun {b o} e x z => by rw [z, M.v] at e; exact x _ (Option.some.inj e).symm
  exact ⟨(upd_ne (n M.ob fun x => nofun)).trans M.ob, (upd_ne (n M.f fun x => nofun)).trans M.f, upd_same, (upd_ne d1.symm).trans M.c, (upd_ne d2.symm).trans M.s, (upd_ne d3.symm).trans M.z, (upd_ne d4.symm).trans M.r, (upd_ne d5.symm).trans M.l, (upd_ne (n M.a fun x => nofun)).trans M.a, (upd_ne d6.symm).trans M.w, M.nd⟩
theorem MR.putC (M : MR C H h p fs st kv kc ks kz) : MR C (upd H p.qC (.dK k')) h p fs st kv k' ks kz := by
  obtain ⟨⟨d1, d2, d3, d4, d5, d6⟩, ⟨e2, e3, e4, e5, e6⟩, ⟨g3, g4, g5, g6⟩, ⟨i4, i5, i6⟩, ⟨j5, j6⟩, l6⟩ := M.un
  have n : ∀ {b : Addr} {o : HO}, H b = some o → (∀ x, o ≠ .dK x) → b ≠ p.qC := fun {b o} e x z => by rw [z, M.c] at e; exact x _ (Option.some.inj e).symm
  exact ⟨(upd_ne (n M.ob fun x => nofun)).trans M.ob, (upd_ne (n M.f fun x => nofun)).trans M.f, (upd_ne d1).trans M.v, upd_same, (upd_ne e2.symm).trans M.s, (upd_ne e3.symm).trans M.z, (upd_ne e4.symm).trans M.r, (upd_ne e5.symm).trans M.l, (upd_ne (n M.a fun x => nofun)).trans M.a, (upd_ne e6.symm).trans M.w, M.nd⟩
theorem MR.putS (M : MR C H h p fs st kv kc ks kz) : MR C (upd H p.qS (.dK k')) h p fs st kv kc k' kz := by
  obtain ⟨⟨d1, d2, d3, d4, d5, d6⟩, ⟨e2, e3, e4, e5, e6⟩, ⟨g3, g4, g5, g6⟩, ⟨i4, i5, i6⟩, ⟨j5, j6⟩, l6⟩ := M.un
  have n : ∀ {b : Addr} {o : HO}, H b = some o → (∀ x, o ≠ .dK x) → b ≠ p.qS := fun {b o} e x z => by rw [z, M.s] at e; exact x _ (Option.some.inj e).symm
  exact ⟨(upd_ne (n M.ob fun x => nofun)).trans M.ob, (upd_ne (n M.f fun x => nofun)).trans M.f, (upd_ne d2).trans M.v, (upd_ne e2).trans M.c, upd_same, (upd_ne g3.symm).trans M.z, (upd_ne g4.symm).trans M.r, (upd_ne g5.symm).trans M.l, (upd_ne (n M.a fun x => nofun)).trans M.a, (upd_ne g6.symm).trans M.w, M.nd⟩
theorem MR.putZ (M : MR C H h p fs st kv kc ks kz) : MR C (upd H p.qZ (.dK k')) h p fs st kv kc ks k' := by
  obtain ⟨⟨d1, d2, d3, d4, d5, d6⟩, ⟨e2, e3, e4, e5, e6⟩, ⟨g3, g4, g5, g6⟩, ⟨i4, i5, i6⟩, ⟨j5, j6⟩, l6⟩ := M.un
  have n : ∀ {b : Addr} {o : HO}, H b = some o → (∀ x, o ≠ .dK x) → b ≠ p.qZ := fun {b o} e x z => by rw [z, M.z] at e; exact x _ (Option.some.inj e).symm
  exact ⟨(upd_ne (n M.ob fun x => nofun)).trans M.ob, (upd_ne (n M.f fun x => nofun)).trans M.f, (upd_ne d3).trans M.v, (upd_ne e3).trans M.c, (upd_ne g3).trans M.s, upd_same, (upd_ne i4.symm).trans M.r, (upd_ne i5.symm).trans M.l, (upd_ne (n M.a fun x => nofun)).trans M.a, (upd_ne i6.symm).trans M.w, M.nd⟩
end
theorem mem_qV (p : MP) : p.qV ∈ p.qs := List.mem_cons_self ..
theorem mem_qC (p : MP) : p.qC ∈ p.qs := List.mem_cons_of_mem _ (List.mem_cons_self ..)
theorem mem_qS (p : MP) : p.qS ∈ p.qs := List.mem_cons_of_mem _ (List.mem_cons_of_mem _ (List.mem_cons_self ..))
theorem mem_qZ (p : MP) : p.qZ ∈ p.qs := List.mem_cons_of_mem _ (List.mem_cons_of_mem _ (List.mem_cons_of_mem _ (List.mem_cons_self ..)))
theorem putK_len (l : List (Key × V)) (k : Key) (v : V) : (putK l k v).length ≤ l.length + 1 := length_putK l k v
abbrev S_Machine__make : Stmt := inClass (topS 30) 26
abbrev N_Machine__make : List Str := ["self", "cells", "sources", "frozen", "number"]
abbrev P_Machine__make : List Str := ["self", "cells", "sources", "frozen"]
theorem sc_Machine__make : FnScope N_Machine__make P_Machine__make (defScope S_Machine__make) := ⟨rfl, rfl, rfl, by decide +kernel, rfl, by decide +kernel, by decide +kernel⟩
section
variable {P : Program} {w : World} {K : PySem.W.Frag} {mg : Str → Option Value} {base : Heap}
set_option maxHeartbeats 8000000 in
theorem ok_make {f fW C : Addr} {fd fdW : FuncData} (F : Fun K "_make" "Machine._make" S_Machine__make f fd) (B : Bl mg) (T0 : HCM K mg C) (M_write : Meth K C "_write" fW) (G_write : FnOk P w K mg base CX0 1 fW fdW P_Machine__write (spWriteM C)) (b_write : Binds K fdW P_Machine__write []) : FnOk P w K mg base CX0 2 f fd P_Machine__make (spMakeM C) := by
  refine F.ok sc_Machine__make (fun vs H Q E h => ?_) (fun cdv A outer s H vs Q E hr h => ?_)
  · obtain ⟨h, dC, dS, b, p, fs, m, rfl, _⟩ := h
    rfl
  · obtain ⟨h, dC, dS, b, p, fs, m, rfl, M, small, k⟩ := h
    have hr_write : Room 1 _ := hr
    refine ⟨_, (pss_cons (ps_set (i := 4) sc_Machine__make.nd rfl (by first | exact Or.inl rfl | exact Or.inr rfl) (pe_callB call_lenD (by rfl) B.m_len PySem.boot_len (pa_cons (pe_fld (pv 0) rfl) pa_nil)))
 (pss_cons (ps_expr (pe_meth (pv 0) T0.cl M_write G_write hr_write b_write .nil pass0 (pa_cons (pe_fld (pv 0) rfl) (pa_cons (pv 4) (pa_cons (pv 1) pa_nil)))))
 (pss_cons (ps_expr (pe_meth (pv 0) T0.cl M_write G_write hr_write b_write .nil pass0 (pa_cons (pe_fld (pv 0) rfl) (pa_cons (pv 4) (pa_cons (pv 2) pa_nil)))))
 (pss_cons (ps_expr (pe_meth (pv 0) T0.cl M_write G_write hr_write b_write .nil pass0 (pa_cons (pe_fld (pv 0) rfl) (pa_cons (pv 4) (pa_cons (pv 3) pa_nil)))))
 (pss_one (ps_ret (pv 4))))))), ?_⟩
    refine ⟨_, rfl, h, C, _, _, _, rfl, M.ob, T0.cl, T0.n_cells, mfl_cells .., p.qC, _, rfl, M.c, ?_⟩
    have eN : ((enK (m.cells.map V.ref)).length : Int) = (m.cells.length : Int) := by rw [enK_len, List.length_map]
    rw [eN]
    have R0 := M.mr
    have l1 : (enK (m.cells.map V.ref)).length < sizeLine := by rw [enK_len, List.length_map]; exact small1000 (by omega)
    have e1 := M.len
    have l2 : m.kS.length < sizeLine := small1000 (by have := M.lS; omega)
    have l3 : (frK m.starts m.frz).length < sizeLine := by unfold frK; rw [List.length_map, List.length_zipIdx]; exact small1000 (by omega)
    refine ⟨_, rfl, h, _, _, rfl, R0.ob, mno_write .., _, rfl, h, C, _, _, _, rfl, R0.ob, T0.cl, T0.n_cells, mfl_cells .., _, rfl, _, rfl, h, p, m.starts, p.qC, _, _, _, rfl, R0.ob, DPut.k (k := (Sum.inl (m.cells.length : Int) : Key)) R0.c l1, ?_⟩
    have R1 := R0.putC (k' := putK (enK (m.cells.map V.ref)) (Sum.inl (m.cells.length : Int) : Key) (.ref dC))
    have W1 := Wr.put (.dK (putK (enK (m.cells.map V.ref)) (Sum.inl (m.cells.length : Int) : Key) (.ref dC))) (mem_qC p) _ R0.c
    refine ⟨_, rfl, h, _, _, rfl, R1.ob, mno_write .., _, rfl, h, C, _, _, _, rfl, R1.ob, T0.cl, T0.n_sources, mfl_sources .., _, rfl, _, rfl, h, p, m.starts, p.qS, _, _, _, rfl, R1.ob, DPut.k (k := (Sum.inl (m.cells.length : Int) : Key)) R1.s l2, ?_⟩
    have R2 := R1.putS (k' := putK m.kS (Sum.inl (m.cells.length : Int) : Key) (.ref dS))
    have W2 := W1.trans (Wr.put (.dK (putK m.kS (Sum.inl (m.cells.length : Int) : Key) (.ref dS))) (mem_qS p) _ R1.s)
    refine ⟨_, rfl, h, _, _, rfl, R2.ob, mno_write .., _, rfl, h, C, _, _, _, rfl, R2.ob, T0.cl, T0.n_frozen, mfl_frozen .., _, rfl, _, rfl, h, p, m.starts, p.qZ, _, _, _, rfl, R2.ob, DPut.k (k := (Sum.inl (m.cells.length : Int) : Key)) R2.z l3, ?_⟩
    have R3 := R2.putZ (k' := putK (frK m.starts m.frz) (Sum.inl (m.cells.length : Int) : Key) (.bl b))
    have W3 := W2.trans (Wr.put (.dK (putK (frK m.starts m.frz) (Sum.inl (m.cells.length : Int) : Key) (.bl b))) (mem_qZ p) _ R2.z)
    have ec : putK (enK (m.cells.map V.ref)) (Sum.inl (m.cells.length : Int) : Key) (.ref dC) = enK ((m.cells ++ [dC]).map V.ref) := by
      have z := enK_put (m.cells.map V.ref) (.ref dC)
      rw [List.length_map] at z
      rw [z, List.map_append]
      rfl
    have ez : putK (frK m.starts m.frz) (Sum.inl (m.cells.length : Int) : Key) (.bl b) = frK m.starts (m.frz ++ [b]) := by
      rw [e1]
      exact frK_put ..
    refine ⟨_, rfl, k _ (putK m.kS (Sum.inl (m.cells.length : Int) : Key) (.ref dS)) ⟨R3.ob, R3.f, R3.v, R3.c.trans (by rw [ec]; rfl), R3.s, R3.z.trans (by rw [ez]; rfl), R3.r, R3.l, R3.a, R3.w, R3.nd, ?_, ?_⟩ W3⟩
    · show (m.cells ++ [dC]).length = m.starts + (m.frz ++ [b]).length
      rw [List.length_append, List.length_append]
      show m.cells.length + 1 = m.starts + (m.frz.length + 1)
      omega
    · show (putK m.kS _ _).length ≤ (m.frz ++ [b]).length
      have := putK_len m.kS (Sum.inl (m.cells.length : Int) : Key) (.ref dS)
      have := M.lS
      rw [List.length_append]
      show _ ≤ m.frz.length + 1
      omega
end
end TW
set_option Elab.async false
set_option linter.all false
set_option maxRecDepth 100000
namespace TW
open PySem PySem.Spec PyProof.Rows L2 TL LamX NdefX LamQ
/-- a row that knows no objects' fields -/
inductive PRow where
  | move (x y : Str)
  | non (x : Str)
  | new (x : Str)
def PRow.vs : PRow → List V
  | .move x y => [.str "move", .str x, .str y]
  | .non x => [.str "none", .str x]
  | .new x => [.str "new", .str x]
/-- one row done -/
inductive Stp (m : MS) : PRow → MS → Prop where
  | move (x y : Str) : Stp m (.move x y) { m with vars := setV m.vars x (heldV m y) }
  | non (x : Str) : Stp m (.non x) { m with vars := setV m.vars x none }
  | new (x : Str) (dC : Addr) (kS : List (Key × V)) : Stp m (.new x) { m.made1 dC false kS with vars := setV m.vars x (some m.cells.length) }
structure MOk (m : MS) (fs : List Str) (k : Nat) : Prop where
  nd : (m.vars.map (·.1)).Nodup
  lv : m.vars.length ≤ k
  lc : m.cells.length ≤ k
  fn : fs.Nodup
  f2 : fs.length ≤ 2
def spDo (C : Addr) : Sp := fun vs H Q _ => ∃ (h r : Addr) (d : PRow) (p : MP) (fs : List Str) (m : MS), vs = [.ref h, .ref r] ∧ MachAt C H h p fs m ∧ MOk m fs 900 ∧ H r = some (.tup d.vs) ∧
  ∀ H' m', Stp m d m' → MachAt C H' h p fs m' → Wr p.qs H H' → Q (.str "done") H'
theorem nw1 : ¬ (("move" : Str) = "look") := by decide +kernel
theorem nw2 : ¬ (("move" : Str) = "put") := by decide +kernel
theorem nw3 : ¬ (("move" : Str) = "watch") := by decide +kernel
abbrev S_Machine_do : Stmt := inClass (topS 30) 10
abbrev N_Machine_do : List Str := ["self", "row", "word"]
abbrev P_Machine_do : List Str := ["self", "row"]
theorem sc_Machine_do : FnScope N_Machine_do P_Machine_do (defScope S_Machine_do) := ⟨rfl, rfl, rfl, by decide +kernel, rfl, by decide +kernel, by decide +kernel⟩
section
variable {P : Program} {w : World} {K : PySem.W.Frag} {mg : Str → Option Value} {base : Heap}
set_option maxHeartbeats 8000000 in
theorem ok_do {f fW fH fN fM C : Addr} {fd fdW fdH fdN fdM : FuncData} (F : Fun K "do" "Machine.do" S_Machine_do f fd) (B : Bl mg) (T0 : HCM K mg C) (M_write : Meth K C "_write" fW) (G_write : FnOk P w K mg base CX0 1 fW fdW P_Machine__write (spWriteM C)) (b_write : Binds K fdW P_Machine__write [])
    (M_held : Meth K C "held" fH) (G_held : FnOk P w K mg base CX0 1 fH fdH P_Machine_held (spHeldM C)) (b_held : Binds K fdH P_Machine_held [])
    (M_nothing : Meth K C "_nothing" fN) (G_nothing : FnOk P w K mg base CX0 1 fN fdN P_Machine__nothing (spNothing C)) (b_nothing : Binds K fdN P_Machine__nothing [])
    (M_make : Meth K C "_make" fM) (G_make : FnOk P w K mg base CX0 2 fM fdM P_Machine__make (spMakeM C)) (b_make : Binds K fdM P_Machine__make []) : FnOk P w K mg base CX0 3 f fd P_Machine_do (spDo C) := by
  refine F.ok sc_Machine_do (fun vs H Q E h => ?_) (fun cdv A outer s H vs Q E hr h => ?_)
  · obtain ⟨h, r, d, p, fs, m, rfl, _⟩ := h
    rfl
  · obtain ⟨h, r, d, p, fs, m, rfl, M, O, hd, k⟩ := h
    have hr_write : Room 1 _ := hr.mono (by decide)
    have hr_held : Room 1 _ := hr.mono (by decide)
    have hr_nothing : Room 1 _ := hr.mono (by decide)
    have hr_make : Room 2 _ := hr
    refine ⟨_, (pss_cons (ps_set (i := 2) sc_Machine_do.nd rfl (by first | exact Or.inl rfl | exact Or.inr rfl) (pe_ix ix_tup (pv 1) pe_int (fun _ _ => rfl)))
 (pss_cons (ps_if (pt_cmpR op_eq (pv 2) pe_str (nomark _)) (pss_one ps_never) pss_nil)
 (pss_cons (ps_if (pt_cmpR op_eq (pv 2) pe_str (nomark _)) (pss_one ps_never) pss_nil)
 (pss_cons (ps_if (pt_cmpR op_eq (pv 2) pe_str (nomark _)) (pss_one ps_never) (pss_one (ps_if (pt_cmpR op_eq (pv 2) pe_str (nomark _)) (pss_one (ps_expr (pe_meth (pv 0) T0.cl M_write G_write hr_write b_write .nil pass0 (pa_cons (pe_fld (pv 0) rfl) (pa_cons (pe_ix ix_tup (pv 1) pe_int (fun _ _ => rfl)) (pa_cons (pe_meth (pv 0) T0.cl M_held G_held hr_held b_held .nil pass0 (pa_cons (pe_ix ix_tup (pv 1) pe_int (fun _ _ => rfl)) pa_nil)) pa_nil)))))) (pss_one (ps_if (pt_cmpR op_eq (pv 2) pe_str (nomark _)) (pss_one (ps_expr (pe_meth (pv 0) T0.cl M_write G_write hr_write b_write .nil pass0 (pa_cons (pe_fld (pv 0) rfl) (pa_cons (pe_ix ix_tup (pv 1) pe_int (fun _ _ => rfl)) (pa_cons pe_non pa_nil)))))) (pss_one (ps_if (pt_cmpR op_eq (pv 2) pe_str (nomark _)) (pss_one (ps_expr (pe_meth (pv 0) T0.cl M_write G_write hr_write b_write .nil pass0 (pa_cons (pe_fld (pv 0) rfl) (pa_cons (pe_ix ix_tup (pv 1) pe_int (fun _ _ => rfl)) (pa_cons (pe_meth (pv 0) T0.cl M_make G_make hr_make b_make .nil pass0 (pa_cons (pe_meth0 (pv 0) T0.cl M_nothing G_nothing hr_nothing b_nothing .nil pass0) (pa_cons (pe_meth0 (pv 0) T0.cl M_nothing G_nothing hr_nothing b_nothing .nil pass0) (pa_cons pe_bl pa_nil)))) pa_nil)))))) (pss_one ps_never))))))))
 (pss_one (ps_ret pe_str)))))), ?_⟩
    have l1 : (dk m.vars).length < sizeLine := by rw [dk_len]; exact small1000 (by have := O.lv; omega)
    cases d with
    | move x y =>
      have hd' : H r = some (.tup [.str "move", .str x, .str y]) := hd
      refine ⟨_, rfl, r, _, _, _, rfl, rfl, SqT.of hd', rfl, ?_⟩
      refine ⟨_, rfl, rfl, _, rfl, ?_⟩
      rw [show decide (V.str "move" = V.str "look") = false by decide +kernel]
      refine iteF ?_
      refine ⟨_, rfl, rfl, _, rfl, ?_⟩
      rw [show decide (V.str "move" = V.str "put") = false by decide +kernel]
      refine iteF ?_
      refine ⟨_, rfl, rfl, _, rfl, ?_⟩
      rw [show decide (V.str "move" = V.str "watch") = false by decide +kernel]
      refine iteF ?_
      refine ⟨_, rfl, rfl, _, rfl, ?_⟩
      rw [show decide (V.str "move" = V.str "move") = true by decide +kernel]
      refine iteT ?_
      refine ⟨_, rfl, h, _, _, rfl, M.ob, mno_write .., _, rfl, h, C, _, _, _, rfl, M.ob, T0.cl, T0.n_variables, mfl_variables .., _, rfl, r, _, _, _, rfl, rfl, SqT.of hd', rfl, _, rfl, h, _, _, rfl, M.ob, mno_held .., _, rfl, r, _, _, _, rfl, rfl, SqT.of hd', rfl, h, p, fs, m, y, rfl, M, ?_⟩
      have R := M.mr.putV (k' := putK (dk m.vars) (Sum.inr x : Key) (hv (heldV m y)))
      have W := Wr.put (.dK (putK (dk m.vars) (Sum.inr x : Key) (hv (heldV m y)))) (mem_qV p) _ M.v
      refine ⟨h, p, m.starts, p.qV, _, _, _, rfl, M.ob, DPut.k (k := (Sum.inr x : Key)) M.v l1, ?_⟩
      refine k _ _ (.move x y) ⟨R.ob, R.f, R.v.trans (by rw [putK_dk _ O.nd]), R.c, R.s, R.z, R.r, R.l, R.a, R.w, R.nd, M.len, M.lS⟩ W
    | non x =>
      have hd' : H r = some (.tup [.str "none", .str x]) := hd
      refine ⟨_, rfl, r, _, _, _, rfl, rfl, SqT.of hd', rfl, ?_⟩
      refine ⟨_, rfl, rfl, _, rfl, ?_⟩
      rw [show decide (V.str "none" = V.str "look") = false by decide +kernel]
      refine iteF ?_
      refine ⟨_, rfl, rfl, _, rfl, ?_⟩
      rw [show decide (V.str "none" = V.str "put") = false by decide +kernel]
      refine iteF ?_
      refine ⟨_, rfl, rfl, _, rfl, ?_⟩
      rw [show decide (V.str "none" = V.str "watch") = false by decide +kernel]
      refine iteF ?_
      refine ⟨_, rfl, rfl, _, rfl, ?_⟩
      rw [show decide (V.str "none" = V.str "move") = false by decide +kernel]
      refine iteF ?_
      refine ⟨_, rfl, rfl, _, rfl, ?_⟩
      rw [show decide (V.str "none" = V.str "none") = true by decide +kernel]
      refine iteT ?_
      refine ⟨_, rfl, h, _, _, rfl, M.ob, mno_write .., _, rfl, h, C, _, _, _, rfl, M.ob, T0.cl, T0.n_variables, mfl_variables .., _, rfl, r, _, _, _, rfl, rfl, SqT.of hd', rfl, h, p, m.starts, p.qV, _, _, _, rfl, M.ob, DPut.k (k := (Sum.inr x : Key)) M.v l1, ?_⟩
      have R := M.mr.putV (k' := putK (dk m.vars) (Sum.inr x : Key) (hv none))
      have W := Wr.put (.dK (putK (dk m.vars) (Sum.inr x : Key) (hv none))) (mem_qV p) _ M.v
      refine k _ _ (.non x) ⟨R.ob, R.f, R.v.trans (by rw [putK_dk _ O.nd]), R.c, R.s, R.z, R.r, R.l, R.a, R.w, R.nd, M.len, M.lS⟩ W
    | new x =>
      have hd' : H r = some (.tup [.str "new", .str x]) := hd
      refine ⟨_, rfl, r, _, _, _, rfl, rfl, SqT.of hd', rfl, ?_⟩
      refine ⟨_, rfl, rfl, _, rfl, ?_⟩
      rw [show decide (V.str "new" = V.str "look") = false by decide +kernel]
      refine iteF ?_
      refine ⟨_, rfl, rfl, _, rfl, ?_⟩
      rw [show decide (V.str "new" = V.str "put") = false by decide +kernel]
      refine iteF ?_
      refine ⟨_, rfl, rfl, _, rfl, ?_⟩
      rw [show decide (V.str "new" = V.str "watch") = false by decide +kernel]
      refine iteF ?_
      refine ⟨_, rfl, rfl, _, rfl, ?_⟩
      rw [show decide (V.str "new" = V.str "move") = false by decide +kernel]
      refine iteF ?_
      refine ⟨_, rfl, rfl, _, rfl, ?_⟩
      rw [show decide (V.str "new" = V.str "none") = false by decide +kernel]
      refine iteF ?_
      refine ⟨_, rfl, rfl, _, rfl, ?_⟩
      rw [show decide (V.str "new" = V.str "new") = true by decide +kernel]
      refine iteT ?_
      refine ⟨_, rfl, h, _, _, rfl, M.ob, mno_write .., _, rfl, h, C, _, _, _, rfl, M.ob, T0.cl, T0.n_variables, mfl_variables .., _, rfl, r, _, _, _, rfl, rfl, SqT.of hd', rfl, _, rfl, h, _, _, rfl, M.ob, mno_make .., ?_⟩
      refine ⟨_, rfl, h, _, _, rfl, M.ob, mno_nothing .., h, p, fs, m, rfl, M, O.fn, O.f2, fun d1 H1 f1 s1 w1 g1 => ?_⟩
      have M1 := M.same s1
      refine ⟨_, rfl, h, _, _, rfl, M1.ob, mno_nothing .., h, p, fs, m, rfl, M1, O.fn, O.f2, fun d2 H2 f2 s2 w2 g2 => ?_⟩
      have M2 := M1.same s2
      refine ⟨h, d1, d2, false, p, fs, m, rfl, M2, by have := O.lc; omega, fun H3 kS M3 W3 => ?_⟩
      have l3 : (dk (m.made1 d1 false kS).vars).length < sizeLine := l1
      refine ⟨h, p, m.starts, p.qV, _, _, _, rfl, M3.ob, DPut.k (k := (Sum.inr x : Key)) M3.v l3, ?_⟩
      have R := M3.mr.putV (k' := putK (dk m.vars) (Sum.inr x : Key) (hv (some m.cells.length)))
      have W4 := Wr.put (.dK (putK (dk m.vars) (Sum.inr x : Key) (hv (some m.cells.length)))) (mem_qV p) _ M3.v
      refine k _ _ (.new x d1 kS) ⟨R.ob, R.f, R.v.trans (by rw [putK_dk _ O.nd]), R.c, R.s, R.z, R.r, R.l, R.a, R.w, R.nd, M3.len, M3.lS⟩ ((((Wr.same s1 g1).trans (Wr.same s2 g2)).trans W3).trans W4)
end
end TW
set_option Elab.async false
set_option linter.all false
set_option maxRecDepth 100000
namespace TW
open PySem PySem.Spec PyProof.Rows L2 TL
/-! data with the addresses of its lists: what may be written to without a change of it -/
mutual
inductive Dq (H : Hp) : V → PyData → List Addr → Prop
  | non : Dq H .non .none []
  | bl (b : Bool) : Dq H (.bl b) (.bool b) []
  | int (i : Int) : Dq H (.int i) (.int i) []
  | str (x : Str) : Dq H (.str x) (.str x) []
  | lst {a : Addr} {xs : List V} {ds : List PyData} {L : List Addr} : H a = some (.lst xs) → DqAll H xs ds L → Dq H (.ref a) (.list ds) (a :: L)
  | tup {a : Addr} {xs : List V} {ds : List PyData} {L : List Addr} : H a = some (.tup xs) → DqAll H xs ds L → Dq H (.ref a) (.tuple ds) L
inductive DqAll (H : Hp) : List V → List PyData → List Addr → Prop
  | nil : DqAll H [] [] []
  | cons {v : V} {vs : List V} {d : PyData} {ds : List PyData} {L M : List Addr} : Dq H v d L → DqAll H vs ds M → DqAll H (v :: vs) (d :: ds) (L ++ M)
end
/-- the lists of L as they were, and all tuples -/
structure KeepL (L : List Addr) (H H' : Hp) : Prop where
  l : ∀ b ∈ L, H' b = H b
  t : ∀ b xs, H b = some (.tup xs) → H' b = some (.tup xs)
theorem KeepL.sub {L M : List Addr} {H H' : Hp} (k : KeepL L H H') (s : ∀ b ∈ M, b ∈ L) : KeepL M H H' := ⟨fun b m => k.l b (s b m), k.t⟩
theorem KeepL.same {L : List Addr} {H H' : Hp} (s : Same H H') (h : ∀ b ∈ L, ∃ xs, H b = some (.lst xs)) : KeepL L H H' := ⟨fun b m => by
  obtain ⟨xs, e⟩ := h b m
  rw [e, s _ _ e], fun b xs e => s _ _ e⟩
section
variable {K : PySem.W.Frag} {H H' : Hp}
mutual
theorem Dq.dp : ∀ {v : V} {d : PyData} {L : List Addr}, Dq H v d L → Dp K H v d
  | _, _, _, .non => .non
  | _, _, _, .bl b => .bl b
  | _, _, _, .int i => .int i
  | _, _, _, .str x => .str x
  | _, _, _, .lst h a => .lst (SqL.of h) (DqAll.dp a)
  | _, _, _, .tup h a => .tup (SqT.of h) (DqAll.dp a)
theorem DqAll.dp : ∀ {vs : List V} {ds : List PyData} {L : List Addr}, DqAll H vs ds L → DpAll K H vs ds
  | _, _, _, .nil => .nil
  | _, _, _, .cons h a => .cons (Dq.dp h) (DqAll.dp a)
end
mutual
theorem Dq.keep : ∀ {v : V} {d : PyData} {L : List Addr}, Dq H v d L → KeepL L H H' → Dq H' v d L
  | _, _, _, .non, _ => .non
  | _, _, _, .bl b, _ => .bl b
  | _, _, _, .int i, _ => .int i
  | _, _, _, .str x, _ => .str x
  | _, _, _, .lst h a, k => .lst ((k.l _ (List.mem_cons_self ..)).trans h) (DqAll.keep a (k.sub fun b m => List.mem_cons_of_mem _ m))
  | _, _, _, .tup h a, k => .tup (k.t _ _ h) (DqAll.keep a k)
theorem DqAll.keep : ∀ {vs : List V} {ds : List PyData} {L : List Addr}, DqAll H vs ds L → KeepL L H H' → DqAll H' vs ds L
  | _, _, _, .nil, _ => .nil
  | _, _, _, .cons h a, k => .cons (Dq.keep h (k.sub fun b m => List.mem_append_left _ m)) (DqAll.keep a (k.sub fun b m => List.mem_append_right _ m))
end
mutual
theorem Dq.there : ∀ {v : V} {d : PyData} {L : List Addr}, Dq H v d L → ∀ b ∈ L, ∃ xs, H b = some (.lst xs)
  | _, _, _, .lst h a, b, m => by
    rcases List.mem_cons.mp m with rfl | m
    · exact ⟨_, h⟩
    · exact DqAll.there a b m
  | _, _, _, .tup h a, b, m => DqAll.there a b m
theorem DqAll.there : ∀ {vs : List V} {ds : List PyData} {L : List Addr}, DqAll H vs ds L → ∀ b ∈ L, ∃ xs, H b = some (.lst xs)
  | _, _, _, .cons h a, b, m => by
    rcases List.mem_append.mp m with m | m
    · exact Dq.there h b m
    · exact DqAll.there a b m
end
theorem Dq.same {v : V} {d : PyData} {L : List Addr} (h : Dq H v d L) (s : Same H H') : Dq H' v d L := h.keep (.same s h.there)
theorem DqAll.same {vs : List V} {ds : List PyData} {L : List Addr} (h : DqAll H vs ds L) (s : Same H H') : DqAll H' vs ds L := h.keep (.same s h.there)
theorem DqAll.len : ∀ {vs : List V} {ds : List PyData} {L : List Addr}, DqAll H vs ds L → vs.length = ds.length
  | _, _, _, .nil => rfl
  | _, _, _, .cons _ a => congrArg (· + 1) (DqAll.len a)
theorem DqAll.get : ∀ {vs : List V} {ds : List PyData} {L : List Addr} {i : Nat} {v : V}, DqAll H vs ds L → vs[i]? = some v → ∃ d M, ds[i]? = some d ∧ Dq H v d M ∧ ∀ b ∈ M, b ∈ L
  | _, _, _, i, _, .nil, h => by simp at h
  | _, _, _, 0, _, .cons q a, h => by
    have e := Option.some.inj h
    rw [← e]
    exact ⟨_, _, rfl, q, fun b m => List.mem_append_left _ m⟩
  | _, _, _, i + 1, _, .cons q a, h => by
    obtain ⟨d, M, e, z, s⟩ := DqAll.get (i := i) a h
    exact ⟨d, M, e, z, fun b m => List.mem_append_right _ (s b m)⟩
theorem DqAll.append : ∀ {vs us : List V} {ds es : List PyData} {L M : List Addr}, DqAll H vs ds L → DqAll H us es M → DqAll H (vs ++ us) (ds ++ es) (L ++ M)
  | _, _, _, _, _, _, .nil, b => b
  | _, _, _, _, _, _, .cons (L := L1) (M := L2) h a, b => by
    rw [List.append_assoc]
    exact .cons h (DqAll.append a b)
theorem DqAll.snoc {vs : List V} {ds : List PyData} {L M : List Addr} {v : V} {d : PyData} (h : DqAll H vs ds L) (q : Dq H v d M) : DqAll H (vs ++ [v]) (ds ++ [d]) (L ++ M) := by
  have := h.append (.cons q .nil)
  rwa [List.append_nil] at this
end
end TW
set_option Elab.async false
set_option linter.all false
set_option maxRecDepth 100000
namespace TW
open PySem PySem.Spec PyProof.Rows L2 TL
inductive FlatD : PyData → Prop
  | str (x : Str) : FlatD (.str x)
  | int (i : Int) : FlatD (.int i)
/-- a row of a program, with rows inside on n levels -/
inductive RowD : Nat → PyData → Prop
  | plain {n : Nat} {x : Str} {ds : List PyData} : x ≠ "same" → x ≠ "empty" → (∀ d ∈ ds, FlatD d) → ds.length ≤ 5 → RowD n (.tuple (.str x :: ds))
  | br {n : Nat} {x : Str} {ds as bs : List PyData} : (x = "same" ∨ x = "empty") → (∀ d ∈ ds, FlatD d) → ds.length ≤ 2 → (∀ d ∈ as, RowD n d) → (∀ d ∈ bs, RowD n d) → as.length ≤ 100 → bs.length ≤ 100 → RowD (n + 1) (.tuple (.str x :: (ds ++ [.list as, .list bs])))
theorem DqAll.flat {H : Hp} : ∀ {vs : List V} {ds : List PyData} {L : List Addr}, DqAll H vs ds L → (∀ d ∈ ds, FlatD d) → L = []
  | _, _, _, .nil, _ => rfl
  | _, _, _, .cons h a, f => by
    have e2 := DqAll.flat a fun d m => f d (List.mem_cons_of_mem _ m)
    subst e2
    have g := f _ (List.mem_cons_self ..)
    cases h with
    | str x => rfl
    | int i => rfl
    | non => cases g
    | bl b => cases g
    | lst _ _ => cases g
    | tup _ _ => cases g
theorem DqAll.split {H : Hp} : ∀ {ds es : List PyData} {vs : List V} {L : List Addr}, DqAll H vs (ds ++ es) L → ∃ v1 v2 L1 L2, vs = v1 ++ v2 ∧ L = L1 ++ L2 ∧ DqAll H v1 ds L1 ∧ DqAll H v2 es L2
  | [], es, vs, L, h => ⟨[], vs, [], L, rfl, rfl, .nil, h⟩
  | d :: ds, es, vs, L, h => by
    cases h with
    | cons q a =>
      obtain ⟨v1, v2, L1, L2, rfl, rfl, h1, h2⟩ := DqAll.split a
      exact ⟨_ :: v1, v2, _ ++ L1, L2, rfl, (List.append_assoc ..).symm, .cons q h1, h2⟩
def spCopied (n : Nat) : Sp := fun vs H Q _ => ∃ (a : Addr) (ds : List PyData) (L : List Addr), vs = [.ref a] ∧ Dq H (.ref a) (.list ds) L ∧ (∀ d ∈ ds, RowD n d) ∧ ds.length ≤ 100 ∧
  ∀ (b : Addr) (M : List Addr) (H' : Hp), Same H H' → Dq H' (.ref b) (.list ds) M → (∀ x ∈ M, H x = none) → Q (.ref b) H'
def spInner : Nat → Sp
  | 0 => fun _ _ _ _ => False
  | n + 1 => spCopied n
theorem sIx_two {xs : List V} {u v : V} : HT.sIx (xs ++ [u, v]).length (xs ++ [u, v]).length (some (-2)) = xs.length := by
  show (if (-2 : Int) < 0 then ((-2 : Int) + ((xs ++ [u, v]).length : Int)).toNat else min (-2 : Int).toNat (xs ++ [u, v]).length) = _
  rw [if_pos (by omega), List.length_append]
  show ((-2 : Int) + ((xs.length + 2 : Nat) : Int)).toNat = _
  omega
theorem cutV_two {xs : List V} {u v : V} : cutV (xs ++ [u, v]) none (some (-2)) = xs := by
  unfold cutV
  have e0 : HT.sIx (xs ++ [u, v]).length 0 none = 0 := rfl
  rw [sIx_two, e0, List.drop_zero, Nat.sub_zero, List.take_left']
  rfl
theorem atI_two {xs : List V} {u v : V} : atI (xs ++ [u, v]) (-2) = some u ∧ atI (xs ++ [u, v]) (-1) = some v := by
  have n : (xs ++ [u, v]).length = xs.length + 2 := List.length_append ..
  constructor
  · have e : ixN (xs ++ [u, v]).length (-2) = some xs.length := by
      unfold ixN
      rw [if_neg (by omega), if_pos (by omega), n]
      exact congrArg some (by omega)
    unfold atI
    rw [e]
    simp
  · have e : ixN (xs ++ [u, v]).length (-1) = some (xs.length + 1) := by
      unfold ixN
      rw [if_neg (by omega), if_pos (by omega), n]
      exact congrArg some (by omega)
    unfold atI
    rw [e]
    simp
theorem in_two {x : Str} : inV (.str x) [.str (Str.ofString "same"), .str (Str.ofString "empty")] = decide (x = Str.ofString "same" ∨ x = Str.ofString "empty") := by
  show ((Str.ofString "same" == x) || ((Str.ofString "empty" == x) || false)) = _
  by_cases h1 : x = Str.ofString "same"
  · subst h1; simp
  · by_cases h2 : x = Str.ofString "empty"
    · subst h2; simp
    · rw [decide_eq_false (fun h => h.elim h1 h2), beq_eq_false_iff_ne.mpr (Ne.symm h1), beq_eq_false_iff_ne.mpr (Ne.symm h2)]
      rfl
section
variable {P : Program} {w : World} {K : PySem.W.Frag} {mg : Str → Option Value} {base : Heap}
end
end TW
set_option Elab.async false
set_option linter.all false
set_option maxRecDepth 100000
namespace TW
open PySem PySem.Spec PyProof.Rows L2 TL
/-- up to three of the words, in their order -/
def spOutputs : Sp := fun vs H Q _ => ∃ (p c a : Addr) (ws : List Str), vs = [.ref p, .ref a] ∧ Pool p c H ∧ (a ≠ p ∧ a ≠ c) ∧ H a = some (.lst (ws.map V.str)) ∧ ws.length ≤ 100 ∧
  ∀ (b : Addr) (us : List Str) (H' : Hp), H b = none → H' b = some (.lst (us.map V.str)) → us.Sublist ws → us.length ≤ 3 → Pool p c H' → Fr p c H H' → Q (.ref b) H'
section
variable {P : Program} {w : World} {K : PySem.W.Frag} {mg : Str → Option Value} {base : Heap}
end
end TW
set_option Elab.async false
set_option linter.all false
set_option maxRecDepth 100000
namespace TW
open PySem PySem.Spec PyProof.Rows L2 TL
/-- the rows inside a row -/
def inner : PyData → List PyData × List PyData
  | .tuple ds => match ds.reverse with
    | .list bs :: .list as :: _ => (as, bs)
    | _ => ([], [])
  | _ => ([], [])
theorem inner_plain {w0 : Str} {ds : List PyData} (f : ∀ d ∈ ds, FlatD d) : inner (.tuple (.str w0 :: ds)) = ([], []) := by
  show (match (PyData.str w0 :: ds).reverse with | .list bs :: .list as :: _ => (as, bs) | _ => ([], [])) = _
  have h : ∀ d ∈ (PyData.str w0 :: ds).reverse, FlatD d := fun d m => by
    rcases List.mem_cons.mp (List.mem_reverse.mp m) with rfl | m
    · exact .str _
    · exact f d m
  cases e : (PyData.str w0 :: ds).reverse with
  | nil => rfl
  | cons u us =>
    rw [e] at h
    cases h u (List.mem_cons_self ..) <;> rfl
theorem inner_br {w0 : Str} {ds as bs : List PyData} : inner (.tuple (.str w0 :: (ds ++ [.list as, .list bs]))) = (as, bs) := by
  show (match (PyData.str w0 :: (ds ++ [.list as, .list bs])).reverse with | .list bs :: .list as :: _ => (as, bs) | _ => ([], [])) = _
  have e : (PyData.str w0 :: (ds ++ [.list as, .list bs])).reverse = .list bs :: .list as :: (ds.reverse ++ [.str w0]) := by simp
  rw [e]
def Lst100 (m : Nat) (H : Hp) (b : Addr) : Prop := ∃ ys, H b = some (.lst ys) ∧ ys.length ≤ m
/-- a row with rows inside, at its address -/
structure BrAt (n : Nat) (H : Hp) (r : Addr) (w0 : Str) (us : List V) (pa pb : Addr) (as bs : List PyData) (La Lb : List Addr) : Prop where
  w : w0 = "same" ∨ w0 = "empty"
  t : H r = some (.tup (.str w0 :: (us ++ [.ref pa, .ref pb])))
  a : Dq H (.ref pa) (.list as) La
  b : Dq H (.ref pb) (.list bs) Lb
  ra : ∀ d ∈ as, RowD n d
  rb : ∀ d ∈ bs, RowD n d
  la : as.length ≤ 100
  lb : bs.length ≤ 100
theorem row_at {n : Nat} {H : Hp} {v : V} {d : PyData} {L : List Addr} (hr : RowD n d) (hq : Dq H v d L) :
    (∃ (r : Addr) (w0 : Str) (us : List V), v = .ref r ∧ w0 ≠ "same" ∧ w0 ≠ "empty" ∧ H r = some (.tup (.str w0 :: us)) ∧ L = [] ∧ inner d = ([], [])) ∨
    (∃ (m : Nat) (r : Addr) (w0 : Str) (us : List V) (pa pb : Addr) (as bs : List PyData) (La Lb : List Addr), n = m + 1 ∧ v = .ref r ∧ BrAt m H r w0 us pa pb as bs La Lb ∧ L = La ++ Lb ∧ inner d = (as, bs)) := by
  cases hr with
  | @plain _ w0 ds0 n1 n2 fl l5 =>
    cases hq with
    | @tup r us _ _ hr2 du =>
    cases du with
    | @cons v0 us0 _ _ L0 M0 hv0 du0 =>
    cases hv0 with
    | str _ =>
    have e0 := du0.flat fl
    subst e0
    exact .inl ⟨r, w0, us0, rfl, n1, n2, hr2, rfl, inner_plain fl⟩
  | @br m w0 ds0 as bs hw fl l2 ra rb la lb =>
    cases hq with
    | @tup r us _ _ hr2 du =>
    cases du with
    | @cons v0 us0 _ _ L0 M0 hv0 du0 =>
    cases hv0 with
    | str _ =>
    obtain ⟨u1, u2, L1, L2, rfl, rfl, e1, e2⟩ := du0.split
    have z1 := e1.flat fl
    subst z1
    cases e2 with
    | @cons va ur _ _ La Lr qa e3 =>
    cases e3 with
    | @cons vb ur2 _ _ Lb Lr2 qb e4 =>
    cases e4
    obtain ⟨pa, rfl⟩ : ∃ pa, va = .ref pa := by cases qa; exact ⟨_, rfl⟩
    obtain ⟨pb, rfl⟩ : ∃ pb, vb = .ref pb := by cases qb; exact ⟨_, rfl⟩
    exact .inr ⟨m, r, w0, u1, pa, pb, as, bs, La, Lb, rfl, rfl, ⟨hw, hr2, qa, qb, ra, rb, la, lb⟩, by simp, inner_br⟩
theorem dqAll_lists {H : Hp} {n : Nat} (ih : ∀ {v : V} {d : PyData} {L : List Addr}, RowD n d → Dq H v d L → ∀ b ∈ L, Lst100 100 H b) : ∀ {vs : List V} {ds : List PyData} {L : List Addr}, (∀ d ∈ ds, RowD n d) → DqAll H vs ds L → ∀ b ∈ L, Lst100 100 H b
  | _, _, _, f, .cons h a, b, m => by
    rcases List.mem_append.mp m with m | m
    · exact ih (f _ (List.mem_cons_self ..)) h b m
    · exact dqAll_lists ih (fun d z => f d (List.mem_cons_of_mem _ z)) a b m
theorem row_lists {H : Hp} : ∀ (n : Nat) {v : V} {d : PyData} {L : List Addr}, RowD n d → Dq H v d L → ∀ b ∈ L, Lst100 100 H b := by
  intro n
  induction n with
  | zero =>
    intro v d L hr hq b m
    rcases row_at hr hq with ⟨_, _, _, _, _, _, _, e, _⟩ | ⟨_, _, _, _, _, _, _, _, _, _, e, _⟩
    · rw [e] at m
      cases m
    · cases e
  | succ n ih =>
    intro v d L hr hq b m
    rcases row_at hr hq with ⟨_, _, _, _, _, _, _, e, _⟩ | ⟨_, _, _, _, pa, pb, as, bs, La, Lb, e0, _, B, e, _⟩
    · rw [e] at m
      cases m
    · cases e0
      have one : ∀ {p : Addr} {cs : List PyData} {M : List Addr}, Dq H (.ref p) (.list cs) M → (∀ d ∈ cs, RowD n d) → cs.length ≤ 100 → b ∈ M → Lst100 100 H b := fun {p cs M} q f l m => by
        cases q with
        | @lst _ xs _ M2 hp da =>
        rcases List.mem_cons.mp m with rfl | m
        · exact ⟨xs, hp, by rw [da.len]; exact l⟩
        · exact dqAll_lists (fun h q => ih h q) f da b m
      rw [e] at m
      rcases List.mem_append.mp m with m | m
      · exact one B.a B.ra B.la m
      · exact one B.b B.rb B.lb m
/-- nothing but the lists of L is written to -/
def OnlyL (L : List Addr) (H H' : Hp) : Prop := ∀ b o, H b = some o → b ∉ L → H' b = some o
def spSpoiled : Sp := fun vs H Q _ => ∃ (n : Nat) (a : Addr) (ds : List PyData) (L : List Addr), vs = [.ref a] ∧ Dq H (.ref a) (.list ds) (a :: L) ∧ a ∉ L ∧ (∀ d ∈ ds, RowD n d) ∧ ds.length ≤ 100 ∧ ∀ H', OnlyL (a :: L) H H' → Q .non H'
section
variable {P : Program} {w : World} {K : PySem.W.Frag} {mg : Str → Option Value} {base : Heap}
end
end TW
set_option Elab.async false
set_option linter.all false
set_option maxRecDepth 100000
namespace L2
open PySem PySem.Spec PyProof.Rows
/-- a statement behind which a mark of one's own choice holds -/
def tCut (t : TS) : TS := fun D σ H => ∃ J : St → Hp → Prop, t { D with nx := J } σ H ∧ ∀ σ' H', J σ' H' → D.nx σ' H'
theorem ps_cut {X : Cx} {st : Stmt} {t : TS} (h : PS X st t) : PS X st (tCut t) := by
  refine ⟨fun pins s σ H D I q => ?_⟩
  obtain ⟨J, q1, q2⟩ := q
  refine thn (h.run pins s σ H { D with nx := J } I q1) fun f s1 z => ?_
  cases f with
  | next =>
    obtain ⟨σ', H', I', q⟩ := z
    exact ⟨σ', H', I', q2 _ _ q⟩
  | ret v => exact z
  | brk => exact z
  | cont => exact z
end L2
set_option Elab.async false
set_option linter.all false
set_option maxRecDepth 100000
namespace TW
open PySem PySem.Spec PyProof.Rows L2 TL
/-- one level of the walk; W: what a deeper one tells -/
def plvl (W : List Int → List PyData → List (List Int × PyData)) (base : List Int) (ds : List PyData) : List (List Int × PyData) :=
  ds.zipIdx.flatMap fun p => (base ++ [(p.2 : Int)], p.1) :: (W (base ++ [(p.2 : Int)] ++ [0]) (inner p.1).1 ++ W (base ++ [(p.2 : Int)] ++ [1]) (inner p.1).2)
/-- places and rows, depth first -/
def walkD : Nat → List Int → List PyData → List (List Int × PyData)
  | 0 => plvl fun _ _ => []
  | n + 1 => plvl (walkD n)
theorem plvl_nil (W : List Int → List PyData → List (List Int × PyData)) (base : List Int) : plvl W base [] = [] := rfl
theorem walkD_nil (n : Nat) (base : List Int) : walkD n base [] = [] := by cases n <;> rfl
theorem lvl_take {W : List Int → List PyData → List (List Int × PyData)} {base : List Int} {ds : List PyData} {i : Nat} {d : PyData} (h : ds[i]? = some d) :
    plvl W base (ds.take (i + 1)) = plvl W base (ds.take i) ++ ((base ++ [(i : Int)], d) :: (W (base ++ [(i : Int)] ++ [0]) (inner d).1 ++ W (base ++ [(i : Int)] ++ [1]) (inner d).2)) := by
  have hi : i < ds.length := (List.getElem?_eq_some_iff.mp h).1
  have e : (ds.take i).length = i := by rw [List.length_take]; omega
  unfold plvl
  rw [take_next h, List.zipIdx_append, List.flatMap_append]
  simp [e]
theorem plvl_le {W : List Int → List PyData → List (List Int × PyData)} {base : List Int} {ds : List PyData} (i : Nat) : (plvl W base (ds.take i)).length ≤ (plvl W base ds).length := by
  have e : plvl W base ds = plvl W base (ds.take i ++ ds.drop i) := by rw [List.take_append_drop]
  rw [e]
  unfold plvl
  rw [List.zipIdx_append, List.flatMap_append, List.length_append]
  exact Nat.le_add_right _ _
/-- a pair (place, row) -/
def pd (p : List Int × PyData) : PyData := .tuple [.tuple (p.1.map .int), p.2]
def Wn : Nat → List Int → List PyData → List (List Int × PyData)
  | 0 => fun _ _ => []
  | n + 1 => walkD n
theorem walkD_plvl (n : Nat) : walkD n = plvl (Wn n) := by cases n <;> rfl
def spWalk (K : PySem.W.Frag) (n : Nat) : Sp := fun vs H Q _ => ∃ (a q : Addr) (ds : List PyData) (L : List Addr) (base : List Int), vs = [.ref a, .ref q] ∧ Dq H (.ref a) (.list ds) L ∧ (∀ d ∈ ds, RowD n d) ∧ ds.length ≤ 100 ∧ SqT K H q (base.map V.int) ∧ base.length + 2 * n ≤ 90 ∧ (walkD n base ds).length ≤ 1000 ∧
  ∀ (b : Addr) (ys : List V) (M : List Addr) (H' : Hp), Same H H' → H b = none → H' b = some (.lst ys) → DqAll H' ys ((walkD n base ds).map pd) M → (∀ x ∈ M, x ∈ L) → Q (.ref b) H'
def spWInner (K : PySem.W.Frag) : Nat → Sp
  | 0 => fun _ _ _ _ => False
  | n + 1 => spWalk K n
theorem dq_ints {H : Hp} : ∀ is : List Int, DqAll H (is.map V.int) (is.map PyData.int) []
  | [] => .nil
  | i :: is => .cons (L := []) (.int i) (dq_ints is)
end TW
set_option Elab.async false
set_option linter.all false
set_option maxRecDepth 100000
namespace TW
open PySem PySem.Spec PyProof.Rows L2 TL
theorem Wn_nil (n : Nat) (bs : List Int) : Wn n bs [] = [] := by
  cases n with
  | zero => rfl
  | succ n => exact walkD_nil n bs
section
variable {P : Program} {w : World} {K : PySem.W.Frag} {mg : Str → Option Value} {base : Heap}
end
end TW
set_option Elab.async false
set_option linter.all false
set_option maxRecDepth 100000
namespace TW
open PySem PySem.Spec PyProof.Rows L2 TL
/-! rows depth first, without places -/
def lvlR (W : List PyData → List PyData) (ds : List PyData) : List PyData := ds.flatMap fun d => d :: (W (inner d).1 ++ W (inner d).2)
def rowsD : Nat → List PyData → List PyData
  | 0 => lvlR fun _ => []
  | n + 1 => lvlR (rowsD n)
def Rn : Nat → List PyData → List PyData
  | 0 => fun _ => []
  | n + 1 => rowsD n
theorem rowsD_lvl (n : Nat) : rowsD n = lvlR (Rn n) := by cases n <;> rfl
theorem rowsD_nil (n : Nat) : rowsD n [] = [] := by cases n <;> rfl
theorem Rn_nil (n : Nat) : Rn n [] = [] := by
  cases n with
  | zero => rfl
  | succ n => exact rowsD_nil n
theorem rowsD_append (n : Nat) (a b : List PyData) : rowsD n (a ++ b) = rowsD n a ++ rowsD n b := by
  rw [rowsD_lvl]
  unfold lvlR
  exact List.flatMap_append
theorem rowsD_one (n : Nat) (d : PyData) : rowsD n [d] = d :: (Rn n (inner d).1 ++ Rn n (inner d).2) := by
  rw [rowsD_lvl]
  unfold lvlR
  simp
theorem lvl_rows {W : List Int → List PyData → List (List Int × PyData)} {R : List PyData → List PyData} (h : ∀ b ds, (W b ds).map (·.2) = R ds) (base : List Int) : ∀ (ds : List PyData) (k : Nat),
    ((ds.zipIdx k).flatMap fun p => (base ++ [(p.2 : Int)], p.1) :: (W (base ++ [(p.2 : Int)] ++ [0]) (inner p.1).1 ++ W (base ++ [(p.2 : Int)] ++ [1]) (inner p.1).2)).map (·.2) = lvlR R ds
  | [], _ => rfl
  | d :: ds, k => by
    have ih := lvl_rows h base ds (k + 1)
    rw [List.zipIdx_cons, List.flatMap_cons, List.map_append, ih]
    unfold lvlR
    rw [List.flatMap_cons, List.map_cons, List.map_append, h, h]
theorem walkD_rows : ∀ (n : Nat) (base : List Int) (ds : List PyData), (walkD n base ds).map (·.2) = rowsD n ds
  | 0, base, ds => lvl_rows (fun _ _ => rfl) base ds 0
  | n + 1, base, ds => lvl_rows (walkD_rows n) base ds 0
theorem walkD_len (n : Nat) (base : List Int) (ds : List PyData) : (walkD n base ds).length = (rowsD n ds).length := by
  rw [← walkD_rows n base ds, List.length_map]
/-! the kinds of rows -/
def formsT : List (Str × List Str) := [("move", ["variable", "variable"]), ("none", ["variable"]), ("new", ["variable"]), ("look", ["variable", "variable", "field"]), ("put", ["variable", "field", "variable"]), ("copy", ["variable", "variable", "kind", "depth"]),
  ("watch", ["reader", "variable", "depth"]), ("same", ["variable", "variable", "rows", "rows"]), ("empty", ["variable", "rows", "rows"])]
theorem forms_cases {k : Str} {rs : List Str} (h : formsT.lookup k = some rs) :
    (k = "move" ∧ rs = (["variable", "variable"] : List Str)) ∨ (k = "none" ∧ rs = (["variable"] : List Str)) ∨ (k = "new" ∧ rs = (["variable"] : List Str)) ∨ (k = "look" ∧ rs = (["variable", "variable", "field"] : List Str)) ∨ (k = "put" ∧ rs = (["variable", "field", "variable"] : List Str)) ∨
    (k = "copy" ∧ rs = (["variable", "variable", "kind", "depth"] : List Str)) ∨ (k = "watch" ∧ rs = (["reader", "variable", "depth"] : List Str)) ∨ (k = "same" ∧ rs = (["variable", "variable", "rows", "rows"] : List Str)) ∨ (k = "empty" ∧ rs = (["variable", "rows", "rows"] : List Str)) := by
  have go : ∀ l : List (Str × List Str), l.lookup k = some rs → (k, rs) ∈ l := by
    intro l
    induction l with
    | nil => intro h; cases h
    | cons p l ih =>
      obtain ⟨x, y⟩ := p
      intro h
      rw [List.lookup_cons] at h
      cases e : k == x with
      | true => rw [e] at h; have := eq_of_beq e; subst this; cases h; exact List.mem_cons_self ..
      | false => rw [e] at h; exact List.mem_cons_of_mem _ (ih h)
  have m := go _ h
  simp only [formsT, List.mem_cons, Prod.mk.injEq, List.not_mem_nil, or_false] at m
  exact m
/-- a part of a row in its role -/
inductive PartOk (ws fs : List Str) : Str → PyData → Prop
  | var {x : Str} : x ∈ ws → PartOk ws fs "variable" (.str x)
  | field {x : Str} : x ∈ fs → PartOk ws fs "field" (.str x)
  | kind {x : Str} : (x = "freeze" ∨ x = "thaw") → PartOk ws fs "kind" (.str x)
  | depth {i : Int} : 0 ≤ i → i ≤ 4 → PartOk ws fs "depth" (.int i)
  | reader {x : Str} : IsW x → PartOk ws fs "reader" (.str x)
  | rows {ds : List PyData} : PartOk ws fs "rows" (.list ds)
inductive PartsOk (ws fs : List Str) : List Str → List PyData → Prop
  | nil : PartsOk ws fs [] []
  | cons {r : Str} {rs : List Str} {d : PyData} {ds : List PyData} : PartOk ws fs r d → PartsOk ws fs rs ds → PartsOk ws fs (r :: rs) (d :: ds)
theorem PartsOk.len {ws fs : List Str} : ∀ {rs : List Str} {ds : List PyData}, PartsOk ws fs rs ds → rs.length = ds.length
  | _, _, .nil => rfl
  | _, _, .cons _ h => congrArg (· + 1) (PartsOk.len h)
/-- a row of good names -/
def OkR (ws fs : List Str) (d : PyData) : Prop := ∃ (k : Str) (ps : List PyData) (rs : List Str), d = .tuple (.str k :: ps) ∧ formsT.lookup k = some rs ∧ PartsOk ws fs rs ps
def kindOf : PyData → Str
  | .tuple (.str k :: _) => k
  | _ => ""
def restOf : PyData → List PyData
  | .tuple (.str _ :: r) => r
  | _ => []
def strD : PyData → Str
  | .str x => x
  | _ => ""
def rolesOf (d : PyData) : List Str := (formsT.lookup (kindOf d)).getD []
/-- the variables of the row itself -/
def varsOf (d : PyData) : List Str := ((restOf d).zip (rolesOf d)).filterMap fun p => if p.2 = ("variable" : Str) then some (strD p.1) else none
def readersOf (d : PyData) : List Str := if kindOf d = "watch" then [strD ((restOf d).getD 0 .none)] else []
def copiesOf (d : PyData) : Nat := if kindOf d = "copy" then 1 else 0
def rds (n : Nat) (ds : List PyData) : List Str := (rowsD n ds).flatMap readersOf
def cps (n : Nat) (ds : List PyData) : Nat := ((rowsD n ds).map copiesOf).sum
def cnt' (n : Nat) (ds : List PyData) : Nat := (rowsD n ds).length
theorem rds_append (n : Nat) (a b : List PyData) : rds n (a ++ b) = rds n a ++ rds n b := by
  unfold rds
  rw [rowsD_append, List.flatMap_append]
theorem cps_append (n : Nat) (a b : List PyData) : cps n (a ++ b) = cps n a + cps n b := by
  unfold cps
  rw [rowsD_append, List.map_append, List.sum_append]
theorem cnt_append (n : Nat) (a b : List PyData) : cnt' n (a ++ b) = cnt' n a + cnt' n b := by
  unfold cnt'
  rw [rowsD_append, List.length_append]
theorem vars_parts {ws fs : List Str} : ∀ {rs : List Str} {ps : List PyData}, PartsOk ws fs rs ps → ∀ x ∈ (ps.zip rs).filterMap (fun p => if p.2 = ("variable" : Str) then some (strD p.1) else none), x ∈ ws
  | _, _, .nil, x, m => nomatch m
  | _, _, .cons (r := r) (d := d) h a, x, m => by
    rw [List.zip_cons_cons, List.filterMap_cons] at m
    by_cases e : r = "variable"
    · rw [if_pos e] at m
      rcases List.mem_cons.mp m with m | m
      · cases h with
        | var h => rw [m]; exact h
        | field h => exact absurd e (by decide +kernel)
        | kind h => exact absurd e (by decide +kernel)
        | depth _ _ => exact absurd e (by decide +kernel)
        | reader h => exact absurd e (by decide +kernel)
        | rows => exact absurd e (by decide +kernel)
      · exact vars_parts a x m
    · rw [if_neg e] at m
      exact vars_parts a x m
/-- the variables are words of the program -/
theorem vars_in {ws fs : List Str} {d : PyData} (h : OkR ws fs d) : ∀ x ∈ varsOf d, x ∈ ws := by
  obtain ⟨k, ps, rs, rfl, hl, hp⟩ := h
  have e : varsOf (.tuple (.str k :: ps)) = (ps.zip rs).filterMap (fun p => if p.2 = ("variable" : Str) then some (strD p.1) else none) := by
    unfold varsOf rolesOf
    show (ps.zip ((formsT.lookup k).getD [])).filterMap _ = _
    rw [hl]
    rfl
  rw [e]
  exact vars_parts hp
/-! a list in another one of its own: never -/
mutual
theorem Dq.det {H : Hp} : ∀ {v : V} {d : PyData} {L : List Addr} {d' : PyData} {L' : List Addr}, Dq H v d L → Dq H v d' L' → d = d' ∧ L = L'
  | _, _, _, _, _, .non, h => by cases h; exact ⟨rfl, rfl⟩
  | _, _, _, _, _, .bl b, h => by cases h; exact ⟨rfl, rfl⟩
  | _, _, _, _, _, .int i, h => by cases h; exact ⟨rfl, rfl⟩
  | _, _, _, _, _, .str x, h => by cases h; exact ⟨rfl, rfl⟩
  | _, _, _, _, _, .lst e a, h => by
    cases h with
    | lst e' a' =>
      rw [e] at e'
      cases e'
      obtain ⟨e1, e2⟩ := DqAll.det a a'
      rw [e1, e2]
      exact ⟨rfl, rfl⟩
    | tup e' a' =>
      rw [e] at e'
      cases e'
  | _, _, _, _, _, .tup e a, h => by
    cases h with
    | lst e' a' =>
      rw [e] at e'
      cases e'
    | tup e' a' =>
      rw [e] at e'
      cases e'
      obtain ⟨e1, e2⟩ := DqAll.det a a'
      rw [e1, e2]
      exact ⟨rfl, rfl⟩
theorem DqAll.det {H : Hp} : ∀ {vs : List V} {ds : List PyData} {L : List Addr} {ds' : List PyData} {L' : List Addr}, DqAll H vs ds L → DqAll H vs ds' L' → ds = ds' ∧ L = L'
  | _, _, _, _, _, .nil, h => by cases h; exact ⟨rfl, rfl⟩
  | _, _, _, _, _, .cons q a, h => by
    cases h with
    | cons q' a' =>
      obtain ⟨e1, e2⟩ := Dq.det q q'
      obtain ⟨e3, e4⟩ := DqAll.det a a'
      rw [e1, e2, e3, e4]
      exact ⟨rfl, rfl⟩
end
mutual
theorem Dq.sub {H : Hp} : ∀ {v : V} {d : PyData} {L : List Addr}, Dq H v d L → ∀ b ∈ L, ∃ d' L', Dq H (.ref b) d' L' ∧ sizeOf d' ≤ sizeOf d
  | _, _, _, .lst e a, b, m => by
    rcases List.mem_cons.mp m with rfl | m
    · exact ⟨_, _, .lst e a, Nat.le_refl _⟩
    · obtain ⟨d', L', q, s⟩ := DqAll.sub a b m
      exact ⟨d', L', q, by simp only [PyData.list.sizeOf_spec]; omega⟩
  | _, _, _, .tup e a, b, m => by
    obtain ⟨d', L', q, s⟩ := DqAll.sub a b m
    exact ⟨d', L', q, by simp only [PyData.tuple.sizeOf_spec]; omega⟩
theorem DqAll.sub {H : Hp} : ∀ {vs : List V} {ds : List PyData} {L : List Addr}, DqAll H vs ds L → ∀ b ∈ L, ∃ d' L', Dq H (.ref b) d' L' ∧ sizeOf d' ≤ sizeOf ds
  | _, _, _, .cons q a, b, m => by
    rcases List.mem_append.mp m with m | m
    · obtain ⟨d', L', q', s⟩ := Dq.sub q b m
      exact ⟨d', L', q', by simp only [List.cons.sizeOf_spec]; omega⟩
    · obtain ⟨d', L', q', s⟩ := DqAll.sub a b m
      exact ⟨d', L', q', by simp only [List.cons.sizeOf_spec]; omega⟩
end
theorem Dq.own {H : Hp} {a : Addr} {ds : List PyData} {M : List Addr} (h : Dq H (.ref a) (.list ds) M) : ∃ L, M = a :: L ∧ a ∉ L ∧ ∃ xs, H a = some (.lst xs) ∧ DqAll H xs ds L := by
  cases h with
  | @lst _ xs _ L e da =>
    refine ⟨L, rfl, fun m => ?_, xs, e, da⟩
    obtain ⟨d', L', q, s⟩ := DqAll.sub da a m
    obtain ⟨e1, _⟩ := Dq.det q (.lst e da)
    rw [e1] at s
    simp only [PyData.list.sizeOf_spec] at s
    omega
end TW
set_option Elab.async false
set_option linter.all false
set_option maxRecDepth 100000
namespace TW
open PySem PySem.Spec PyProof.Rows L2 TL
/-- the room of a law: rows and copies left, readers left, variables met -/
structure RoomAt (H : Hp) (ro rr rn : Addr) (k cc : Nat) (rs ns : List Str) : Prop where
  o : H ro = some (.lst [.int (k : Int), .int (cc : Int), .ref rr, .ref rn])
  r : H rr = some (.lst (rs.map V.str))
  n : H rn = some (.lst (ns.map V.str))
structure Sep (p c a f ro rr rn : Addr) : Prop where
  a : a ≠ p ∧ a ≠ c ∧ a ≠ ro ∧ a ≠ rr ∧ a ≠ rn
  f : f ≠ p ∧ f ≠ c ∧ f ≠ ro ∧ f ≠ rr ∧ f ≠ rn
  o : ro ≠ p ∧ ro ≠ c
  r : rr ≠ p ∧ rr ≠ c ∧ rr ≠ ro
  n : rn ≠ p ∧ rn ≠ c ∧ rn ≠ ro ∧ rn ≠ rr
/-- all but the pool and the room stays -/
def FrR (p c ro rr rn : Addr) (H H' : Hp) : Prop := ∀ b o, b ≠ p → b ≠ c → b ≠ ro → b ≠ rr → b ≠ rn → H b = some o → H' b = some o
/-- where a law stands that draws rows -/
structure RSt (p c a f ro rr rn : Addr) (ws fs : List Str) (k cc : Nat) (rs ns : List Str) (H0 H : Hp) : Prop where
  S : Sep p c a f ro rr rn
  P : Pool p c H
  A : H a = some (.lst (ws.map V.str))
  F : H f = some (.lst (fs.map V.str))
  R : RoomAt H ro rr rn k cc rs ns
  fr : FrR p c ro rr rn H0 H
section
variable {p c a f ro rr rn : Addr} {ws fs : List Str} {k cc : Nat} {rs ns : List Str} {H0 H H' : Hp}
theorem RSt.drawn (T : RSt p c a f ro rr rn ws fs k cc rs ns H0 H) (P' : Pool p c H') (g : Fr p c H H') : RSt p c a f ro rr rn ws fs k cc rs ns H0 H' :=
  ⟨T.S, P', g _ _ T.S.a.1 T.S.a.2.1 T.A, g _ _ T.S.f.1 T.S.f.2.1 T.F, ⟨g _ _ T.S.o.1 T.S.o.2 T.R.o, g _ _ T.S.r.1 T.S.r.2.1 T.R.r, g _ _ T.S.n.1 T.S.n.2.1 T.R.n⟩, fun b o h1 h2 h3 h4 h5 e => g _ _ h1 h2 (T.fr b o h1 h2 h3 h4 h5 e)⟩
theorem RSt.same (T : RSt p c a f ro rr rn ws fs k cc rs ns H0 H) (s : Same H H') : RSt p c a f ro rr rn ws fs k cc rs ns H0 H' := T.drawn (T.P.same s) (.of_same s)
theorem RSt.new (T : RSt p c a f ro rr rn ws fs k cc rs ns H0 H) {q : Addr} {o : HO} (hq : H q = none) : RSt p c a f ro rr rn ws fs k cc rs ns H0 (upd H q o) := T.same (same_new hq)
theorem RSt.setN (T : RSt p c a f ro rr rn ws fs k cc rs ns H0 H) (ns' : List Str) : RSt p c a f ro rr rn ws fs k cc rs ns' H0 (upd H rn (.lst (ns'.map V.str))) :=
  ⟨T.S, T.P.upd2 ⟨T.S.n.1, T.S.n.2.1⟩ _, (upd_ne T.S.a.2.2.2.2).trans T.A, (upd_ne T.S.f.2.2.2.2).trans T.F, ⟨(upd_ne T.S.n.2.2.1.symm).trans T.R.o, (upd_ne T.S.n.2.2.2.symm).trans T.R.r, upd_same⟩, fun b o h1 h2 h3 h4 h5 e => (upd_ne h5).trans (T.fr b o h1 h2 h3 h4 h5 e)⟩
theorem RSt.setR (T : RSt p c a f ro rr rn ws fs k cc rs ns H0 H) (rs' : List Str) : RSt p c a f ro rr rn ws fs k cc rs' ns H0 (upd H rr (.lst (rs'.map V.str))) :=
  ⟨T.S, T.P.upd2 ⟨T.S.r.1, T.S.r.2.1⟩ _, (upd_ne T.S.a.2.2.2.1).trans T.A, (upd_ne T.S.f.2.2.2.1).trans T.F, ⟨(upd_ne T.S.r.2.2.symm).trans T.R.o, upd_same, (upd_ne T.S.n.2.2.2).trans T.R.n⟩, fun b o h1 h2 h3 h4 h5 e => (upd_ne h4).trans (T.fr b o h1 h2 h3 h4 h5 e)⟩
theorem RSt.setO (T : RSt p c a f ro rr rn ws fs k cc rs ns H0 H) (k' cc' : Nat) : RSt p c a f ro rr rn ws fs k' cc' rs ns H0 (upd H ro (.lst [.int (k' : Int), .int (cc' : Int), .ref rr, .ref rn])) :=
  ⟨T.S, T.P.upd2 T.S.o _, (upd_ne T.S.a.2.2.1).trans T.A, (upd_ne T.S.f.2.2.1).trans T.F, ⟨upd_same, (upd_ne T.S.r.2.2).trans T.R.r, (upd_ne T.S.n.2.2.1).trans T.R.n⟩, fun b o h1 h2 h3 h4 h5 e => (upd_ne h3).trans (T.fr b o h1 h2 h3 h4 h5 e)⟩
/-- what is new is none of these -/
theorem RSt.off (T : RSt p c a f ro rr rn ws fs k cc rs ns H0 H) {q : Addr} (hq : H q = none) : q ≠ p ∧ q ≠ c ∧ q ≠ ro ∧ q ≠ rr ∧ q ≠ rn :=
  ⟨(T.P.np hq).1, (T.P.np hq).2, (ne_of_none T.R.o hq).symm, (ne_of_none T.R.r hq).symm, (ne_of_none T.R.n hq).symm⟩
end
theorem FrR.refl (p c ro rr rn : Addr) (H : Hp) : FrR p c ro rr rn H H := fun _ _ _ _ _ _ _ e => e
theorem FrR.trans {p c ro rr rn : Addr} {H H1 H2 : Hp} (x : FrR p c ro rr rn H H1) (y : FrR p c ro rr rn H1 H2) : FrR p c ro rr rn H H2 := fun b o h1 h2 h3 h4 h5 e => y b o h1 h2 h3 h4 h5 (x b o h1 h2 h3 h4 h5 e)
/-- a plain row that is drawn -/
def spPlain : Sp := fun vs H Q _ => ∃ (p c a f ro rr rn : Addr) (ws fs : List Str) (k cc : Nat) (rs ns : List Str), vs = [.ref p, .ref a, .ref f, .ref ro] ∧ RSt p c a f ro rr rn ws fs k cc rs ns H H ∧ ws ≠ [] ∧ fs ≠ [] ∧ ws.length ≤ 100 ∧ fs.length ≤ 100 ∧ (∀ x ∈ ns, x ∈ ws) ∧ ns.length ≤ 100 ∧ (∀ x ∈ rs, IsW x) ∧ rs.length ≤ 100 ∧ ns ≠ [] ∧
  ∀ (b : Addr) (d : PyData) (cc' : Nat) (rs' ns' : List Str) (H' : Hp), H b = none → Dq H' (.ref b) d [] → OkR ws fs d → (∀ n, RowD n d) → copiesOf d + cc' = cc → rs = rs' ++ readersOf d → (∀ x ∈ ns', x ∈ ws) → ns'.length ≤ ns.length + 1 → ns' ≠ [] →
    RSt p c a f ro rr rn ws fs k cc' rs' ns' H H' → Q (.ref b) H'
theorem mem_reps {ns : List Str} {x : Str} {m : Nat} {i : Nat} {v : V} {ws : List Str} (h : ∀ y ∈ ns, y ∈ ws) (hx : x ∈ ws) (e : ((List.replicate m (ns.map V.str)).flatten ++ [V.str x])[i]? = some v) : ∃ y, v = .str y ∧ y ∈ ws := by
  have m1 := List.mem_of_getElem? e
  rcases List.mem_append.mp m1 with m1 | m1
  · obtain ⟨l, hl, hv⟩ := List.mem_flatten.mp m1
    rw [List.eq_of_mem_replicate hl] at hv
    obtain ⟨y, hy, rfl⟩ := List.mem_map.mp hv
    exact ⟨y, rfl, h y hy⟩
  · exact ⟨x, List.mem_singleton.mp m1, hx⟩
theorem mem_strs {ws : List Str} {v : V} {i : Nat} (e : (ws.map V.str)[i]? = some v) : ∃ y, v = .str y ∧ y ∈ ws := by
  obtain ⟨y, hy, rfl⟩ := List.mem_map.mp (List.mem_of_getElem? e)
  exact ⟨y, rfl, hy⟩
theorem flat_ok {ws fs : List Str} {r : Str} {d : PyData} (h : PartOk ws fs r d) (n : r ≠ "rows") : FlatD d := by
  cases h with
  | var _ => exact .str _
  | field _ => exact .str _
  | kind _ => exact .str _
  | depth _ _ => exact .int _
  | reader _ => exact .str _
  | rows => exact absurd rfl n
/-- data of a plain row: words and numbers -/
def plD : List V → List PyData
  | [] => []
  | .str x :: r => .str x :: plD r
  | .int i :: r => .int i :: plD r
  | _ :: r => .none :: plD r
section
variable {P : Program} {w : World} {K : PySem.W.Frag} {mg : Str → Option Value} {base : Heap}
end
end TW
set_option Elab.async false
set_option linter.all false
set_option maxRecDepth 100000
namespace TW
open PySem PySem.Spec PyProof.Rows L2 TL
section
variable {p c a f ro rr rn : Addr} {ws fs : List Str} {k cc k2 cc2 : Nat} {rs ns rs2 ns2 : List Str} {H0 H H' : Hp}
theorem RSt.trans (T : RSt p c a f ro rr rn ws fs k cc rs ns H0 H) (T2 : RSt p c a f ro rr rn ws fs k2 cc2 rs2 ns2 H H') : RSt p c a f ro rr rn ws fs k2 cc2 rs2 ns2 H0 H' :=
  ⟨T.S, T2.P, T2.A, T2.F, T2.R, T.fr.trans T2.fr⟩
theorem RSt.here (T : RSt p c a f ro rr rn ws fs k cc rs ns H0 H) : RSt p c a f ro rr rn ws fs k cc rs ns H H := ⟨T.S, T.P, T.A, T.F, T.R, FrR.refl _ _ _ _ _ _⟩
/-- what is written to is new -/
theorem RSt.updN (T : RSt p c a f ro rr rn ws fs k cc rs ns H0 H) {q : Addr} {o : HO} (h0 : H0 q = none) (off : q ≠ p ∧ q ≠ c ∧ q ≠ ro ∧ q ≠ rr ∧ q ≠ rn) (qa : q ≠ a) (qf : q ≠ f) : RSt p c a f ro rr rn ws fs k cc rs ns H0 (upd H q o) :=
  ⟨T.S, T.P.upd2 ⟨off.1, off.2.1⟩ _, (upd_ne qa.symm).trans T.A, (upd_ne qf.symm).trans T.F, ⟨(upd_ne off.2.2.1.symm).trans T.R.o, (upd_ne off.2.2.2.1.symm).trans T.R.r, (upd_ne off.2.2.2.2.symm).trans T.R.n⟩, fun b o h1 h2 h3 h4 h5 e => (upd_ne (ne_of_none e h0)).trans (T.fr b o h1 h2 h3 h4 h5 e)⟩
/-- tuples, and lists that are none of these, stay -/
theorem RSt.keepL (T : RSt p c a f ro rr rn ws fs k cc rs ns H0 H) (g : FrR p c ro rr rn H H') {M : List Addr} (h : ∀ x ∈ M, ∃ xs, H x = some (.lst xs)) (off : ∀ x ∈ M, x ≠ p ∧ x ≠ c ∧ x ≠ ro ∧ x ≠ rr ∧ x ≠ rn) : KeepL M H H' := by
  obtain ⟨xs, a', n', e1, e2, _⟩ := T.P.ex
  refine ⟨fun b m => ?_, fun b us e => g _ _ ?_ ?_ ?_ ?_ ?_ e⟩
  · obtain ⟨us, e⟩ := h b m
    obtain ⟨h1, h2, h3, h4, h5⟩ := off b m
    rw [e, g _ _ h1 h2 h3 h4 h5 e]
  · exact fun z => by rw [z, e1] at e; cases e
  · exact fun z => by rw [z, e2] at e; cases e
  · exact fun z => by rw [z, T.R.o] at e; cases e
  · exact fun z => by rw [z, T.R.r] at e; cases e
  · exact fun z => by rw [z, T.R.n] at e; cases e
theorem RSt.free (T : RSt p c a f ro rr rn ws fs k cc rs ns H0 H) (Th : RSt p c a f ro rr rn ws fs k2 cc2 rs2 ns2 H0 H0) {q : Addr} (hq : H q = none) : H0 q = none := by
  cases e : H0 q with
  | none => rfl
  | some o =>
    obtain ⟨z1, z2, z3, z4, z5⟩ := T.off hq
    have := T.fr _ _ z1 z2 z3 z4 z5 e
    rw [hq] at this
    cases this
end
/-- rows that are drawn, with n levels inside -/
def spRows (n : Nat) : Sp := fun vs H Q _ => ∃ (p c a f ro rr rn : Addr) (ws fs : List Str) (k cc : Nat) (rs ns : List Str) (most : Nat), vs = [.ref p, .ref a, .ref f, .ref ro, .int (4 - (n : Int)), .int (most : Int)] ∧ RSt p c a f ro rr rn ws fs k cc rs ns H H ∧ most ≤ 20 ∧ n ≤ 3 ∧
  ws ≠ [] ∧ fs ≠ [] ∧ ws.length ≤ 100 ∧ fs.length ≤ 100 ∧ (∀ x ∈ ns, x ∈ ws) ∧ ns.length + k ≤ 60 ∧ (∀ x ∈ rs, IsW x) ∧ rs.length ≤ 100 ∧ ns ≠ [] ∧
  ∀ (b : Addr) (ds : List PyData) (M : List Addr) (k' cc' : Nat) (rs' ns' : List Str) (H' : Hp), H b = none → Dq H' (.ref b) (.list ds) M → (∀ x ∈ M, H x = none) → (∀ d ∈ ds, RowD n d) → ds.length ≤ most → (∀ d ∈ rowsD n ds, OkR ws fs d) →
    cnt' n ds + k' = k → cps n ds + cc' = cc → rs = rs' ++ (rds n ds).reverse → (∀ x ∈ ns', x ∈ ws) → ns'.length + k' ≤ ns.length + k → ns' ≠ [] → RSt p c a f ro rr rn ws fs k' cc' rs' ns' H H' → Q (.ref b) H'
def spRInner : Nat → Sp
  | 0 => fun _ _ _ _ => False
  | n + 1 => spRows n
/-- rows drawn so far -/
structure RInv (n : Nat) (p c a f ro rr rn R : Addr) (ws fs : List Str) (k cc : Nat) (rs ns : List Str) (H : Hp) (i : Nat) (ys : List V) (ds : List PyData) (M : List Addr) (k' cc' : Nat) (rs' ns' : List Str) (H2 : Hp) : Prop where
  iT : RSt p c a f ro rr rn ws fs k' cc' rs' ns' H H2
  iL : H2 R = some (.lst ys)
  iD : DqAll H2 ys ds M
  iM : ∀ x ∈ M, H x = none ∧ x ≠ R
  iR : ∀ d ∈ ds, RowD n d
  iN : ds.length ≤ i
  iO : ∀ d ∈ rowsD n ds, OkR ws fs d
  iK : cnt' n ds + k' = k
  iC : cps n ds + cc' = cc
  iS : rs = rs' ++ (rds n ds).reverse
  iW : ∀ x ∈ ns', x ∈ ws
  iB : ns'.length + k' ≤ ns.length + k
  iE : ns' ≠ []
theorem RInv.skip {n : Nat} {p c a f ro rr rn R : Addr} {ws fs : List Str} {k cc : Nat} {rs ns : List Str} {H : Hp} {i : Nat} {ys : List V} {ds : List PyData} {M : List Addr} {k' cc' : Nat} {rs' ns' : List Str} {H2 : Hp}
    (I : RInv n p c a f ro rr rn R ws fs k cc rs ns H i ys ds M k' cc' rs' ns' H2) : RInv n p c a f ro rr rn R ws fs k cc rs ns H (i + 1) ys ds M k' cc' rs' ns' H2 := { I with iN := Nat.le_succ_of_le I.iN }
theorem RInv.add {n : Nat} {p c a f ro rr rn R : Addr} {ws fs : List Str} {k cc : Nat} {rs ns : List Str} {H : Hp} {i : Nat} {ys : List V} {ds : List PyData} {M : List Addr} {k' cc' : Nat} {rs' ns' : List Str} {H2 : Hp}
    (I : RInv n p c a f ro rr rn R ws fs k cc rs ns H i ys ds M k' cc' rs' ns' H2) (hR : H R = none) (hRoff : R ≠ p ∧ R ≠ c ∧ R ≠ ro ∧ R ≠ rr ∧ R ≠ rn) (Ra : R ≠ a) (Rf : R ≠ f) {G : Hp} {v : V} {d : PyData} {N : List Addr} {k9 cc9 : Nat} {rs9 ns9 : List Str}
    (T9 : RSt p c a f ro rr rn ws fs k9 cc9 rs9 ns9 H2 G) (hq : Dq G v d N) (hN : ∀ x ∈ N, H x = none ∧ x ≠ R) (hr : RowD n d) (ho : ∀ e ∈ rowsD n [d], OkR ws fs e) (h1 : cnt' n [d] + k9 = k') (h2 : cps n [d] + cc9 = cc') (h3 : rs' = rs9 ++ (rds n [d]).reverse)
    (h4 : ∀ x ∈ ns9, x ∈ ws) (h5 : ns9.length + k9 ≤ ns'.length + k') (h6 : ns9 ≠ []) (off : ∀ x ∈ M, x ≠ p ∧ x ≠ c ∧ x ≠ ro ∧ x ≠ rr ∧ x ≠ rn) :
    RInv n p c a f ro rr rn R ws fs k cc rs ns H (i + 1) (ys ++ [v]) (ds ++ [d]) (M ++ N) k9 cc9 rs9 ns9 (upd G R (.lst (ys ++ [v]))) := by
  have hRG : G R = some (.lst ys) := T9.fr _ _ hRoff.1 hRoff.2.1 hRoff.2.2.1 hRoff.2.2.2.1 hRoff.2.2.2.2 I.iL
  have kp : ∀ {X : List Addr}, (∀ x ∈ X, H x = none ∧ x ≠ R) → KeepL X G (upd G R (.lst (ys ++ [v]))) := fun h => ⟨fun b m => upd_ne (h b m).2, fun b us e => (upd_ne (fun z : b = R => by rw [z, hRG] at e; cases e)).trans e⟩
  refine ⟨(I.iT.trans T9).updN hR hRoff Ra Rf, upd_same, ?_, fun x m => (List.mem_append.mp m).elim (I.iM x) (hN x), fun e m => (List.mem_append.mp m).elim (I.iR e) (fun m => by rw [List.mem_singleton.mp m]; exact hr), ?_, ?_, ?_, ?_, ?_, h4, Nat.le_trans h5 I.iB, h6⟩
  · exact ((I.iD.keep (I.iT.keepL T9.fr I.iD.there off)).keep (kp I.iM)).snoc (hq.keep (kp hN))
  · rw [List.length_append]
    exact Nat.succ_le_succ I.iN
  · intro e m
    rw [rowsD_append] at m
    exact (List.mem_append.mp m).elim (I.iO e) (ho e)
  · rw [cnt_append]
    have := I.iK
    omega
  · rw [cps_append]
    have := I.iC
    omega
  · rw [rds_append, List.reverse_append, ← List.append_assoc, ← h3]
    exact I.iS
theorem PartsOk.app {ws fs : List Str} : ∀ {rs us : List Str} {ds es : List PyData}, PartsOk ws fs rs ds → PartsOk ws fs us es → PartsOk ws fs (rs ++ us) (ds ++ es)
  | _, _, _, _, .nil, b => b
  | _, _, _, _, .cons h a, b => .cons h (a.app b)
theorem PartsOk.flat {ws fs : List Str} : ∀ {rs : List Str} {ds : List PyData}, PartsOk ws fs rs ds → ("rows" : Str) ∉ rs → ∀ d ∈ ds, FlatD d
  | _, _, .nil, _, d, m => nomatch m
  | _, _, .cons h a, n, d, m => by
    rcases List.mem_cons.mp m with rfl | m
    · exact flat_ok h fun z => n (by rw [z]; exact List.mem_cons_self ..)
    · exact a.flat (fun z => n (List.mem_cons_of_mem _ z)) d m
theorem rows_br {n : Nat} {d : PyData} {as bs : List PyData} (h : inner d = (as, bs)) : rowsD (n + 1) [d] = d :: (rowsD n as ++ rowsD n bs) := by
  rw [rowsD_one, h]
  rfl
theorem br_nums {n : Nat} {d : PyData} {as bs : List PyData} (h : inner d = (as, bs)) (c0 : copiesOf d = 0) (r0 : readersOf d = []) : cnt' (n + 1) [d] = 1 + cnt' n as + cnt' n bs ∧ cps (n + 1) [d] = cps n as + cps n bs ∧ rds (n + 1) [d] = rds n as ++ rds n bs := by
  refine ⟨?_, ?_, ?_⟩
  · unfold cnt'
    rw [rows_br h, List.length_cons, List.length_append]
    omega
  · unfold cps
    rw [rows_br h, List.map_cons, List.sum_cons, List.map_append, List.sum_append, c0]
    omega
  · unfold rds
    rw [rows_br h, List.flatMap_cons, List.flatMap_append, r0]
    rfl
theorem pl_nums {n : Nat} {d : PyData} (h : inner d = ([], [])) : rowsD n [d] = [d] ∧ cnt' n [d] = 1 ∧ cps n [d] = copiesOf d ∧ rds n [d] = readersOf d := by
  have e : rowsD n [d] = [d] := by
    rw [rowsD_one, h]
    show d :: (Rn n [] ++ Rn n []) = [d]
    rw [Rn_nil]
    rfl
  refine ⟨e, ?_, ?_, ?_⟩
  · unfold cnt'
    rw [e]
    rfl
  · unfold cps
    rw [e]
    show copiesOf d + 0 = _
    omega
  · unfold rds
    rw [e]
    show readersOf d ++ [] = _
    rw [List.append_nil]
theorem readers_short (d : PyData) : (readersOf d).reverse = readersOf d := by
  unfold readersOf
  split <;> rfl
section
variable {P : Program} {w : World} {K : PySem.W.Frag} {mg : Str → Option Value} {base : Heap}
end
end TW
set_option Elab.async false
set_option linter.all false
set_option maxRecDepth 100000
namespace TW
open PySem PySem.Spec PyProof.Rows L2 TL
theorem vars_eq {k : Str} {ps : List PyData} {rs : List Str} (hl : formsT.lookup k = some rs) : varsOf (.tuple (.str k :: ps)) = (ps.zip rs).filterMap (fun p => if p.2 = ("variable" : Str) then some (strD p.1) else none) := by
  unfold varsOf rolesOf
  show (ps.zip ((formsT.lookup k).getD [])).filterMap _ = _
  rw [hl]
  rfl
def kindsA : List Str := ["move", "look", "copy", "same"]
/-- what the law takes for the variables of a row -/
def nm1 (k : Str) (us : List V) : List V := if k ∈ kindsA then [us.getD 0 .non, us.getD 1 .non] else [us.getD 0 .non]
def nm2 (k : Str) (us : List V) : List V := if k = "put" then [us.getD 0 .non, us.getD 2 .non] else nm1 k us
def nm3 (k : Str) (us : List V) : List V := if k = "watch" then [us.getD 1 .non] else nm2 k us
theorem nv1 : ¬ (("field" : Str) = "variable") := by decide +kernel
theorem nv2 : ¬ (("kind" : Str) = "variable") := by decide +kernel
theorem nv3 : ¬ (("depth" : Str) = "variable") := by decide +kernel
theorem nv4 : ¬ (("reader" : Str) = "variable") := by decide +kernel
theorem nv5 : ¬ (("rows" : Str) = "variable") := by decide +kernel
theorem part_v {ws fs : List Str} {H : Hp} {r : Str} {d : PyData} {v : V} {L : List Addr} (h : PartOk ws fs r d) (q : Dq H v d L) (e : r = "variable") : v = .str (strD d) := by
  cases h with
  | var h => cases q; rfl
  | field h => exact absurd e nv1
  | kind h => exact absurd e nv2
  | depth _ _ => exact absurd e nv3
  | reader h => exact absurd e nv4
  | rows => exact absurd e nv5
theorem fv1 {d : PyData} {r : List (PyData × Str)} : ((d, ("variable" : Str)) :: r).filterMap (fun p => if p.2 = ("variable" : Str) then some (strD p.1) else none) = strD d :: r.filterMap (fun p => if p.2 = ("variable" : Str) then some (strD p.1) else none) := by
  rw [List.filterMap_cons]
  rfl
theorem fvN {d : PyData} {z : Str} {r : List (PyData × Str)} (h : ¬ z = ("variable" : Str)) : ((d, z) :: r).filterMap (fun p => if p.2 = ("variable" : Str) then some (strD p.1) else none) = r.filterMap (fun p => if p.2 = ("variable" : Str) then some (strD p.1) else none) := by
  rw [List.filterMap_cons, if_neg h]
theorem nm3_A {k : Str} {us : List V} (h1 : ¬ k = "watch") (h2 : ¬ k = "put") (h3 : k ∈ kindsA) : nm3 k us = [us.getD 0 .non, us.getD 1 .non] := by
  unfold nm3 nm2 nm1
  rw [if_neg h1, if_neg h2, if_pos h3]
theorem nm3_1 {k : Str} {us : List V} (h1 : ¬ k = "watch") (h2 : ¬ k = "put") (h3 : ¬ k ∈ kindsA) : nm3 k us = [us.getD 0 .non] := by
  unfold nm3 nm2 nm1
  rw [if_neg h1, if_neg h2, if_neg h3]
theorem row_named {ws fs : List Str} {H : Hp} {v : V} {d : PyData} {L : List Addr} (ok : OkR ws fs d) (hq : Dq H v d L) : ∃ (r : Addr) (k : Str) (us : List V), v = .ref r ∧ H r = some (.tup (.str k :: us)) ∧ 0 < us.length ∧ (k ∈ kindsA → 1 < us.length) ∧ (k = "put" → 2 < us.length) ∧ (k = "watch" → 1 < us.length) ∧
    nm3 k us = (varsOf d).map V.str := by
  obtain ⟨k, ps, rs, rfl, hl, hp⟩ := ok
  rw [vars_eq hl]
  cases hq with
  | @tup r vs _ _ hr dv =>
  cases dv with
  | @cons v0 us _ _ L0 M0 hv0 du =>
  cases hv0 with
  | str _ =>
  refine ⟨r, k, us, rfl, hr, ?_⟩
  have no : ∀ {p q : Prop}, ¬ p → p → q := fun n h => absurd h n
  rcases forms_cases hl with ⟨rfl, rfl⟩ | ⟨rfl, rfl⟩ | ⟨rfl, rfl⟩ | ⟨rfl, rfl⟩ | ⟨rfl, rfl⟩ | ⟨rfl, rfl⟩ | ⟨rfl, rfl⟩ | ⟨rfl, rfl⟩ | ⟨rfl, rfl⟩
  · obtain _ | ⟨p1, _ | ⟨p2, _ | _⟩⟩ := hp
    obtain _ | ⟨q1, _ | ⟨q2, _ | _⟩⟩ := du
    refine ⟨by simp, fun _ => by simp, no (by decide +kernel), no (by decide +kernel), ?_⟩
    rw [nm3_A (by decide +kernel) (by decide +kernel) (by decide +kernel), List.zip_cons_cons, List.zip_cons_cons, fv1, fv1]
    rw [part_v p1 q1 rfl, part_v p2 q2 rfl]
    rfl
  · obtain _ | ⟨p1, _ | _⟩ := hp
    obtain _ | ⟨q1, _ | _⟩ := du
    refine ⟨by simp, no (by decide +kernel), no (by decide +kernel), no (by decide +kernel), ?_⟩
    rw [nm3_1 (by decide +kernel) (by decide +kernel) (by decide +kernel), List.zip_cons_cons, fv1, part_v p1 q1 rfl]
    rfl
  · obtain _ | ⟨p1, _ | _⟩ := hp
    obtain _ | ⟨q1, _ | _⟩ := du
    refine ⟨by simp, no (by decide +kernel), no (by decide +kernel), no (by decide +kernel), ?_⟩
    rw [nm3_1 (by decide +kernel) (by decide +kernel) (by decide +kernel), List.zip_cons_cons, fv1, part_v p1 q1 rfl]
    rfl
  · obtain _ | ⟨p1, _ | ⟨p2, _ | ⟨p3, _ | _⟩⟩⟩ := hp
    obtain _ | ⟨q1, _ | ⟨q2, _ | ⟨q3, _ | _⟩⟩⟩ := du
    refine ⟨by simp, fun _ => by simp, no (by decide +kernel), no (by decide +kernel), ?_⟩
    rw [nm3_A (by decide +kernel) (by decide +kernel) (by decide +kernel), List.zip_cons_cons, List.zip_cons_cons, List.zip_cons_cons, fv1, fv1, fvN nv1, part_v p1 q1 rfl, part_v p2 q2 rfl]
    rfl
  · obtain _ | ⟨p1, _ | ⟨p2, _ | ⟨p3, _ | _⟩⟩⟩ := hp
    obtain _ | ⟨q1, _ | ⟨q2, _ | ⟨q3, _ | _⟩⟩⟩ := du
    refine ⟨by simp, no (by decide +kernel), fun _ => by simp, no (by decide +kernel), ?_⟩
    unfold nm3 nm2
    rw [if_neg (by decide +kernel), if_pos rfl, List.zip_cons_cons, List.zip_cons_cons, List.zip_cons_cons, fv1, fvN nv1, fv1, part_v p1 q1 rfl, part_v p3 q3 rfl]
    rfl
  · obtain _ | ⟨p1, _ | ⟨p2, _ | ⟨p3, _ | ⟨p4, _ | _⟩⟩⟩⟩ := hp
    obtain _ | ⟨q1, _ | ⟨q2, _ | ⟨q3, _ | ⟨q4, _ | _⟩⟩⟩⟩ := du
    refine ⟨by simp, fun _ => by simp, no (by decide +kernel), no (by decide +kernel), ?_⟩
    rw [nm3_A (by decide +kernel) (by decide +kernel) (by decide +kernel), List.zip_cons_cons, List.zip_cons_cons, List.zip_cons_cons, List.zip_cons_cons, fv1, fv1, fvN nv2, fvN nv3, part_v p1 q1 rfl, part_v p2 q2 rfl]
    rfl
  · obtain _ | ⟨p1, _ | ⟨p2, _ | ⟨p3, _ | _⟩⟩⟩ := hp
    obtain _ | ⟨q1, _ | ⟨q2, _ | ⟨q3, _ | _⟩⟩⟩ := du
    refine ⟨by simp, fun _ => by simp, no (by decide +kernel), fun _ => by simp, ?_⟩
    unfold nm3
    rw [if_pos rfl, List.zip_cons_cons, List.zip_cons_cons, List.zip_cons_cons, fvN nv4, fv1, fvN nv3, part_v p2 q2 rfl]
    rfl
  · obtain _ | ⟨p1, _ | ⟨p2, _ | ⟨p3, _ | ⟨p4, _ | _⟩⟩⟩⟩ := hp
    obtain _ | ⟨q1, _ | ⟨q2, _ | ⟨q3, _ | ⟨q4, _ | _⟩⟩⟩⟩ := du
    refine ⟨by simp, fun _ => by simp, no (by decide +kernel), no (by decide +kernel), ?_⟩
    rw [nm3_A (by decide +kernel) (by decide +kernel) (by decide +kernel), List.zip_cons_cons, List.zip_cons_cons, List.zip_cons_cons, List.zip_cons_cons, fv1, fv1, fvN nv5, fvN nv5, part_v p1 q1 rfl, part_v p2 q2 rfl]
    rfl
  · obtain _ | ⟨p1, _ | ⟨p2, _ | ⟨p3, _ | _⟩⟩⟩ := hp
    obtain _ | ⟨q1, _ | ⟨q2, _ | ⟨q3, _ | _⟩⟩⟩ := du
    refine ⟨by simp, no (by decide +kernel), no (by decide +kernel), no (by decide +kernel), ?_⟩
    rw [nm3_1 (by decide +kernel) (by decide +kernel) (by decide +kernel), List.zip_cons_cons, List.zip_cons_cons, List.zip_cons_cons, fv1, fvN nv5, fvN nv5, part_v p1 q1 rfl]
    rfl
/-- each once, where it stands first -/
def dedupF (l : List Str) : List Str := (List.range l.length).filterMap fun k => match l[k]? with
  | some x => if x ∈ l.take k then none else some x
  | none => none
def spVars (K : PySem.W.Frag) : Sp := fun vs H Q _ => ∃ (n : Nat) (i a o : Addr) (is os ws fs : List Str) (ds : List PyData) (L : List Addr), vs = [.ref i, .ref a, .ref o] ∧ H i = some (.lst (is.map V.str)) ∧ H o = some (.lst (os.map V.str)) ∧ Dq H (.ref a) (.list ds) L ∧ (∀ d ∈ ds, RowD n d) ∧ n ≤ 3 ∧ ds.length ≤ 100 ∧
  (∀ d ∈ rowsD n ds, OkR ws fs d) ∧ (rowsD n ds).length ≤ 100 ∧ is.length ≤ 100 ∧ os.length ≤ 100 ∧ ∀ b H', Same H H' → H b = none → H' b = some (.lst ((dedupF (is ++ (rowsD n ds).flatMap varsOf ++ os)).map V.str)) → Q (.ref b) H'
theorem cutV_to {xs : List V} {j : Nat} (h : j ≤ xs.length) : cutV xs none (some (j : Int)) = xs.take j := by
  unfold cutV
  have e0 : HT.sIx xs.length 0 none = 0 := rfl
  have e1 : HT.sIx xs.length xs.length (some (j : Int)) = j := by
    show (if ((j : Int) < 0) then ((j : Int) + (xs.length : Int)).toNat else min (j : Int).toNat xs.length) = j
    rw [if_neg (by omega), Int.toNat_natCast]
    omega
  rw [e0, e1, List.drop_zero, Nat.sub_zero]
theorem getD_some {x : V} {us : List V} {i : Nat} (h : i < us.length) : (x :: us)[i + 1]? = some (us.getD i .non) := by
  rw [List.getElem?_cons_succ, List.getD_eq_getElem?_getD, List.getElem?_eq_getElem h]
  rfl
def dedupN (l : List Str) (i : Nat) : List Str := (List.range i).filterMap fun k => match l[k]? with
  | some x => if x ∈ l.take k then none else some x
  | none => none
theorem dedupN_in {l : List Str} {i : Nat} {x : Str} (h : l[i]? = some x) (m : x ∈ l.take i) : dedupN l (i + 1) = dedupN l i := by
  unfold dedupN
  rw [List.range_succ, List.filterMap_append]
  simp only [List.filterMap_cons, List.filterMap_nil, h, if_pos m, List.append_nil]
theorem dedupN_out {l : List Str} {i : Nat} {x : Str} (h : l[i]? = some x) (m : x ∉ l.take i) : dedupN l (i + 1) = dedupN l i ++ [x] := by
  unfold dedupN
  rw [List.range_succ, List.filterMap_append]
  simp only [List.filterMap_cons, List.filterMap_nil, h, if_neg m]
theorem dedupN_le (l : List Str) (i : Nat) : (dedupN l i).length ≤ i := by
  have := List.length_filterMap_le (fun k => match l[k]? with | some x => if x ∈ l.take k then none else some x | none => none) (List.range i)
  rw [List.length_range] at this
  exact this
theorem vars_le {ws fs : List Str} {d : PyData} (h : OkR ws fs d) : (varsOf d).length ≤ 2 := by
  obtain ⟨k, ps, rs, rfl, hl, hp⟩ := h
  rw [vars_eq hl]
  have hps := hp.len
  rcases forms_cases hl with ⟨rfl, rfl⟩ | ⟨rfl, rfl⟩ | ⟨rfl, rfl⟩ | ⟨rfl, rfl⟩ | ⟨rfl, rfl⟩ | ⟨rfl, rfl⟩ | ⟨rfl, rfl⟩ | ⟨rfl, rfl⟩ | ⟨rfl, rfl⟩
  · exact Nat.le_trans (List.length_filterMap_le _ _) (by rw [List.length_zip]; exact Nat.min_le_right _ _)
  · exact Nat.le_trans (List.length_filterMap_le _ _) (by rw [List.length_zip]; exact Nat.le_trans (Nat.min_le_right _ _) (by decide))
  · exact Nat.le_trans (List.length_filterMap_le _ _) (by rw [List.length_zip]; exact Nat.le_trans (Nat.min_le_right _ _) (by decide))
  · obtain _ | ⟨p1, _ | ⟨p2, _ | ⟨p3, _ | _⟩⟩⟩ := hp
    rw [List.zip_cons_cons, List.zip_cons_cons, List.zip_cons_cons, fv1, fv1, fvN nv1]
    exact Nat.le_refl _
  · obtain _ | ⟨p1, _ | ⟨p2, _ | ⟨p3, _ | _⟩⟩⟩ := hp
    rw [List.zip_cons_cons, List.zip_cons_cons, List.zip_cons_cons, fv1, fvN nv1, fv1]
    exact Nat.le_refl _
  · obtain _ | ⟨p1, _ | ⟨p2, _ | ⟨p3, _ | ⟨p4, _ | _⟩⟩⟩⟩ := hp
    rw [List.zip_cons_cons, List.zip_cons_cons, List.zip_cons_cons, List.zip_cons_cons, fv1, fv1, fvN nv2, fvN nv3]
    exact Nat.le_refl _
  · obtain _ | ⟨p1, _ | ⟨p2, _ | ⟨p3, _ | _⟩⟩⟩ := hp
    rw [List.zip_cons_cons, List.zip_cons_cons, List.zip_cons_cons, fvN nv4, fv1, fvN nv3]
    exact Nat.le_succ _
  · obtain _ | ⟨p1, _ | ⟨p2, _ | ⟨p3, _ | ⟨p4, _ | _⟩⟩⟩⟩ := hp
    rw [List.zip_cons_cons, List.zip_cons_cons, List.zip_cons_cons, List.zip_cons_cons, fv1, fv1, fvN nv5, fvN nv5]
    exact Nat.le_refl _
  · obtain _ | ⟨p1, _ | ⟨p2, _ | ⟨p3, _ | _⟩⟩⟩ := hp
    rw [List.zip_cons_cons, List.zip_cons_cons, List.zip_cons_cons, fv1, fvN nv5, fvN nv5]
    exact Nat.le_succ _
theorem vars_all_le {ws fs : List Str} : ∀ {l : List PyData}, (∀ d ∈ l, OkR ws fs d) → (l.flatMap varsOf).length ≤ 2 * l.length
  | [], _ => Nat.le_refl _
  | d :: l, h => by
    have h1 := vars_le (h d (List.mem_cons_self ..))
    have h2 := vars_all_le (l := l) fun e m => h e (List.mem_cons_of_mem _ m)
    rw [List.flatMap_cons, List.length_append, List.length_cons]
    omega
section
variable {P : Program} {w : World} {K : PySem.W.Frag} {mg : Str → Option Value} {base : Heap}
end
end TW
set_option Elab.async false
set_option linter.all false
set_option maxRecDepth 100000
namespace TW
open PySem PySem.Spec PyProof.Rows L2 TL
theorem pg_tupK {X : Cx} {K : PySem.W.Frag} {es : List Expr} {k : Nat} {t : TGs} {n : Nat} {pos : Pos} (e : X.K = K) (hc : X.calm = true) (h : PGs X es t)
    (hn : (assignEach es X.env).length = n := by rfl) (hst : (assignEach es X.env).findIdx? (·.1) = none := by rfl) : PG X (.Tuple es k pos) (gTup K n t) := e ▸ pg_tup hc h hn hst
/-- a comprehension over zip of two tuples of one length -/
theorem lc_zipT {K : PySem.W.Frag} {a b : Addr} {xs ys : List V} {g : TG} {tt : TT} {te : TE} {vs : List Nat} {σ : St'} {H1 : Hp} {D : Addr} {Qd : Hp → Prop} (hl : xs.length = ys.length) (Pv : Nat → Hp → Prop) (h0 : Pv 0 (upd H1 D (.lst [])))
    (hq : ∀ i H, Pv i H → SqT K H a xs ∧ SqT K H b ys)
    (hs : ∀ (i : Nat) (x y : V) (T : Addr) (H : Hp), xs[i]? = some x → ys[i]? = some y → Pv i H → H T = none → g (.ref T) (wipe σ vs) (upd H T (.tup [x, y])) fun σ2 H2 => wipe σ2 vs = wipe σ vs ∧ tt σ2 H2 fun b H3 =>
      if b = true then te σ2 H3 fun y H4 => ∃ acc, H4 D = some (.lst acc) ∧ acc.length < sizeLine ∧ Pv (i + 1) (upd H4 D (.lst (acc ++ [y]))) else Pv (i + 1) H3) (hd : ∀ H, Pv xs.length H → Qd H) :
    ∃ W : Nat → Nat → Hp → Prop, (∃ m, W 0 m (upd H1 D (.lst []))) ∧ ∀ i m H, W i m H →
      ((RZ.ItzT K a b).stop i H ∧ Qd H) ∨ ((RZ.ItzT K a b).go i H ∧ ∃ Nx : Hp → Prop, (∀ H', Nx H' → ∃ m', m' < m ∧ W (i + 1) m' H') ∧ ∀ y H', (RZ.ItzT K a b).yld i H y H' → g y (wipe σ vs) H' fun σ2 H2 => wipe σ2 vs = wipe σ vs ∧ tt σ2 H2 fun b H3 =>
        if b = true then te σ2 H3 fun y H4 => ∃ acc, H4 D = some (.lst acc) ∧ acc.length < sizeLine ∧ Nx (upd H4 D (.lst (acc ++ [y]))) else Nx H3) := by
  refine ⟨fun i m H => m = xs.length - i ∧ i ≤ xs.length ∧ Pv i H, ⟨xs.length, by simp, Nat.zero_le _, h0⟩, ?_⟩
  rintro i m H ⟨rfl, hi, p⟩
  obtain ⟨qa, qb⟩ := hq i H p
  by_cases hlt : i < xs.length
  · have hx : xs[i]? = some xs[i] := List.getElem?_eq_getElem hlt
    have hlt2 : i < ys.length := by omega
    have hy : ys[i]? = some ys[i] := List.getElem?_eq_getElem hlt2
    refine .inr ⟨⟨xs, ys, _, _, qa, qb, hx, hy⟩, Pv (i + 1), fun H' p' => ⟨xs.length - (i + 1), by omega, rfl, hlt, p'⟩, fun v H' hv => ?_⟩
    obtain ⟨T, x, y, rfl, hT, rfl, h1, h2⟩ := hv
    exact hs i x y T H (h1 _ qa) (h2 _ qb) p hT
  · have e : i = xs.length := by omega
    subst e
    exact .inl ⟨⟨xs, ys, qa, qb, .inl (Nat.le_refl _)⟩, hd H p⟩
/-- the table of the kinds of rows, as the module holds it -/
structure FormsK (K : PySem.W.Frag) (w : World) (mg : Str → Option Value) (DF : Addr) (es : Array DictEntry) (n : Nat) : Prop where
  g : mg "FORMS" = some (.ref DF)
  k : KDict K w DF es n
  at' : ∀ {k : Str} {rs : List Str}, formsT.lookup k = some rs → ∃ T, PySem.W.nsIn K DF k = some (some (.ref T)) ∧ ∀ H, SqT K H T (rs.map V.str)
theorem FormsK.dct {K : PySem.W.Frag} {w : World} {mg : Str → Option Value} {DF : Addr} {es : Array DictEntry} {n : Nat} (F : FormsK K w mg DF es n) {k : Str} {T : Addr} (h : PySem.W.nsIn K DF k = some (some (.ref T))) : KDct K w DF k (.ref T) := ⟨es, n, _, F.k.at_, F.k.lit, h, rfl⟩
/-- a row at r: its kind, its parts, their roles -/
structure RowV (H : Hp) (r : Addr) (k : Str) (us : List V) (rs : List Str) : Prop where
  t : H r = some (.tup (.str k :: us))
  l : formsT.lookup k = some rs
  n : us.length = rs.length
theorem RowV.same {H H' : Hp} {r : Addr} {k : Str} {us : List V} {rs : List Str} (R : RowV H r k us rs) (s : Same H H') : RowV H' r k us rs := ⟨s _ _ R.t, R.l, R.n⟩
theorem forms_len {k : Str} {rs : List Str} (h : formsT.lookup k = some rs) : 1 ≤ rs.length ∧ rs.length ≤ 4 := by
  rcases forms_cases h with ⟨_, rfl⟩ | ⟨_, rfl⟩ | ⟨_, rfl⟩ | ⟨_, rfl⟩ | ⟨_, rfl⟩ | ⟨_, rfl⟩ | ⟨_, rfl⟩ | ⟨_, rfl⟩ | ⟨_, rfl⟩ <;> exact ⟨by simp, by simp⟩
/-- the parts of a role -/
def pick (z : Str) (us : List V) (rs : List Str) : List V := (us.zip rs).filterMap fun p => if p.2 = z then some p.1 else none
theorem pick_cons {z : Str} {u : V} {us : List V} {r : Str} {rs : List Str} : pick z (u :: us) (r :: rs) = (if r = z then [u] else []) ++ pick z us rs := by
  unfold pick
  rw [List.zip_cons_cons, List.filterMap_cons]
  by_cases h : r = z
  · rw [if_pos h, if_pos h]
    rfl
  · rw [if_neg h, if_neg h]
    rfl
theorem pick_take {z : Str} {us : List V} {rs : List Str} {i : Nat} {u : V} {r : Str} (h1 : us[i]? = some u) (h2 : rs[i]? = some r) : pick z (us.take (i + 1)) (rs.take (i + 1)) = pick z (us.take i) (rs.take i) ++ (if r = z then [u] else []) := by
  unfold pick
  have h3 : (us.take (i + 1)).zip (rs.take (i + 1)) = (us.take i).zip (rs.take i) ++ [(u, r)] := by
    rw [take_next h1, take_next h2]
    refine List.zip_append ?_ |>.trans ?_
    · have a1 := (List.getElem?_eq_some_iff.mp h1).1
      have a2 := (List.getElem?_eq_some_iff.mp h2).1
      rw [List.length_take, List.length_take]
      omega
    · rfl
  rw [h3, List.filterMap_append]
  by_cases h : r = z
  · rw [if_pos h]
    simp [h]
  · rw [if_neg h]
    simp [h]
theorem pick_le {z : Str} (us : List V) (rs : List Str) : (pick z us rs).length ≤ rs.length := Nat.le_trans (List.length_filterMap_le _ _) (by rw [List.length_zip]; exact Nat.min_le_right _ _)
theorem sIx_one {n : Nat} (h : 1 ≤ n) : HT.sIx n 0 (some 1) = 1 := by
  show (if ((1 : Int) < 0) then ((1 : Int) + (n : Int)).toNat else min (1 : Int).toNat n) = 1
  rw [if_neg (by omega)]
  show min 1 n = 1
  omega
theorem cutV_one {x : V} {us : List V} : cutV (x :: us) (some 1) none = us := by
  unfold cutV
  rw [sIx_one (by rw [List.length_cons]; omega)]
  show (us).take ((us.length + 1) - 1) = us
  rw [Nat.add_sub_cancel, List.take_length]
def spPartsOf (z : Str) : Sp := fun vs H Q _ => ∃ (r : Addr) (k : Str) (us : List V) (rs : List Str), vs = [.ref r] ∧ RowV H r k us rs ∧ ∀ b H', Same H H' → H b = none → H' b = some (.lst (pick z us rs)) → Q (.ref b) H'
abbrev S_branches : Stmt := topS 42
abbrev N_branches : List Str := ["row", "part", "role"]
abbrev P_branches : List Str := ["row"]
theorem sc_branches : FnScope N_branches P_branches (defScope S_branches) := ⟨rfl, rfl, rfl, by decide +kernel, rfl, by decide +kernel, by decide +kernel⟩
abbrev S_row_variables : Stmt := topS 41
abbrev N_row_variables : List Str := ["row", "part", "role"]
abbrev P_row_variables : List Str := ["row"]
theorem sc_row_variables : FnScope N_row_variables P_row_variables (defScope S_row_variables) := ⟨rfl, rfl, rfl, by decide +kernel, rfl, by decide +kernel, by decide +kernel⟩
section
variable {P : Program} {w : World} {K : PySem.W.Frag} {mg : Str → Option Value} {base : Heap}
set_option maxHeartbeats 4000000 in
theorem ok_branches {f DF : Addr} {fd : FuncData} {es : Array DictEntry} {nE : Nat} (F : Fun K "branches" "branches" S_branches f fd) (B : Bl mg) (FM : FormsK K w mg DF es nE) : FnOk P w K mg base CX0 1 f fd P_branches (spPartsOf "rows") := by
  refine F.ok sc_branches (fun vs H Q E h => ?_) (fun cdv A outer s H vs Q E hr h => ?_)
  · obtain ⟨r, k, us, rs, rfl, _⟩ := h
    rfl
  · obtain ⟨r, k, us, rs, rfl, R, kk⟩ := h
    obtain ⟨T, hT, hS⟩ := FM.at' R.l
    refine ⟨_, (pss_one (ps_ret (pe_lc (own := [("part", 1), ("role", 2)])  rfl sc_branches.nd (RZ.pi_zipA (by rfl) B.m_zip (pa_cons (pe_slice sl_tup (pv 0) (po_some pe_int) po_none) (pa_cons (pe_ix ix_kdict (pe_glob (v := .ref DF) rfl FM.g rfl) (pe_ix ix_tup (pv 0) pe_int (fun _ _ => rfl)) (fun _ _ => rfl)) pa_nil))) (blkOk_by (own := [("part", 1), ("role", 2)]) (N := N_branches) (sc := defScope S_branches) (by decide +kernel)) (fun _ _ _ _ _ => (pg_tupK (K := K) (n := 2) rfl rfl (pgs_cons (pg_name (i := 1) sc_branches.nd rfl (by first | exact Or.inl rfl | exact Or.inr rfl)) (pgs_cons (pg_name (i := 2) sc_branches.nd rfl (by first | exact Or.inl rfl | exact Or.inr rfl)) pgs_nil)))) (fun _ _ _ _ _ => pts_one (pt_cmpR op_eq (pv 2) pe_str (nomark _))) (fun _ _ _ _ _ => (pv 1))))), ?_⟩
    obtain ⟨f1, f4⟩ := forms_len R.l
    refine ⟨_, rfl, _, rfl, r, _, rfl, SqT.of R.t, ?_, fun p1 hp1 => ?_⟩
    · rw [sIx_one (by rw [List.length_cons]; omega)]
      exact fun z => absurd z.1 (by decide)
    rw [cutV_one]
    have s1 := same_new (o := .tup us) hp1
    refine ⟨_, rfl, r, _, 0, .str k, rfl, rfl, SqT.of (s1 _ _ R.t), atI_of (j := 0) rfl rfl, DF, k, .ref T, rfl, rfl, FM.dct hT, p1, T, us, rs.map V.str, rfl, .inr ⟨SqT.of upd_same, hS _, fun D hD => ?_⟩⟩
    refine lc_zipT (xs := us) (ys := rs.map V.str) (by rw [List.length_map]; exact R.n) (fun i G => Same (upd H p1 (.tup us)) G ∧ G D = some (.lst (pick "rows" (us.take i) (rs.take i)))) ⟨same_new hD, upd_same⟩ ?_ ?_ ?_
    · rintro i G ⟨sG, _⟩
      exact ⟨SqT.of (sG _ _ upd_same), hS G⟩
    · rintro i x y T2 G hx hy ⟨sG, hGD⟩ hT2
      obtain ⟨role, hrole, rfl⟩ := get_str hy
      have s2 := same_new (o := .tup [x, .str role]) hT2
      have acc : (pick "rows" (us.take i) (rs.take i)).length < sizeLine := small1000 (Nat.le_trans (pick_le _ _) (by rw [List.length_take]; omega))
      refine ⟨T2, _, rfl, SqT.of upd_same, rfl, _, _, rfl, _, _, rfl, rfl, ?_⟩
      refine ⟨rfl, _, rfl, rfl, _, rfl, ite_dec (fun hb => ?_) (fun hb => ?_)⟩
      · have hz : role = "rows" := V.str.inj (of_decide_eq_true hb)
        refine ⟨_, rfl, _, s2 _ _ hGD, acc, ?_, ?_⟩
        · exact fun b o e => (upd_ne (ne_of_none e hD)).trans (s2 _ _ (sG _ _ e))
        · rw [upd_same, pick_take hx hrole, if_pos hz]
      · have hz : ¬ role = "rows" := fun e => of_decide_eq_false hb (by rw [e])
        refine ⟨sG.trans s2, ?_⟩
        rw [pick_take hx hrole, if_neg hz, List.append_nil]
        exact s2 _ _ hGD
    · rintro G ⟨sG, hGD⟩
      rw [List.take_length, R.n, List.take_length] at hGD
      exact kk D G (s1.trans sG) (s1.free hD) hGD
set_option maxHeartbeats 4000000 in
theorem ok_row_variables {f DF : Addr} {fd : FuncData} {es : Array DictEntry} {nE : Nat} (F : Fun K "row_variables" "row_variables" S_row_variables f fd) (B : Bl mg) (FM : FormsK K w mg DF es nE) : FnOk P w K mg base CX0 1 f fd P_row_variables (spPartsOf "variable") := by
  refine F.ok sc_row_variables (fun vs H Q E h => ?_) (fun cdv A outer s H vs Q E hr h => ?_)
  · obtain ⟨r, k, us, rs, rfl, _⟩ := h
    rfl
  · obtain ⟨r, k, us, rs, rfl, R, kk⟩ := h
    obtain ⟨T, hT, hS⟩ := FM.at' R.l
    refine ⟨_, (pss_one (ps_ret (pe_lc (own := [("part", 1), ("role", 2)])  rfl sc_row_variables.nd (RZ.pi_zipA (by rfl) B.m_zip (pa_cons (pe_slice sl_tup (pv 0) (po_some pe_int) po_none) (pa_cons (pe_ix ix_kdict (pe_glob (v := .ref DF) rfl FM.g rfl) (pe_ix ix_tup (pv 0) pe_int (fun _ _ => rfl)) (fun _ _ => rfl)) pa_nil))) (blkOk_by (own := [("part", 1), ("role", 2)]) (N := N_row_variables) (sc := defScope S_row_variables) (by decide +kernel)) (fun _ _ _ _ _ => (pg_tupK (K := K) (n := 2) rfl rfl (pgs_cons (pg_name (i := 1) sc_row_variables.nd rfl (by first | exact Or.inl rfl | exact Or.inr rfl)) (pgs_cons (pg_name (i := 2) sc_row_variables.nd rfl (by first | exact Or.inl rfl | exact Or.inr rfl)) pgs_nil)))) (fun _ _ _ _ _ => pts_one (pt_cmpR op_eq (pv 2) pe_str (nomark _))) (fun _ _ _ _ _ => (pv 1))))), ?_⟩
    obtain ⟨f1, f4⟩ := forms_len R.l
    refine ⟨_, rfl, _, rfl, r, _, rfl, SqT.of R.t, ?_, fun p1 hp1 => ?_⟩
    · rw [sIx_one (by rw [List.length_cons]; omega)]
      exact fun z => absurd z.1 (by decide)
    rw [cutV_one]
    have s1 := same_new (o := .tup us) hp1
    refine ⟨_, rfl, r, _, 0, .str k, rfl, rfl, SqT.of (s1 _ _ R.t), atI_of (j := 0) rfl rfl, DF, k, .ref T, rfl, rfl, FM.dct hT, p1, T, us, rs.map V.str, rfl, .inr ⟨SqT.of upd_same, hS _, fun D hD => ?_⟩⟩
    refine lc_zipT (xs := us) (ys := rs.map V.str) (by rw [List.length_map]; exact R.n) (fun i G => Same (upd H p1 (.tup us)) G ∧ G D = some (.lst (pick "variable" (us.take i) (rs.take i)))) ⟨same_new hD, upd_same⟩ ?_ ?_ ?_
    · rintro i G ⟨sG, _⟩
      exact ⟨SqT.of (sG _ _ upd_same), hS G⟩
    · rintro i x y T2 G hx hy ⟨sG, hGD⟩ hT2
      obtain ⟨role, hrole, rfl⟩ := get_str hy
      have s2 := same_new (o := .tup [x, .str role]) hT2
      have acc : (pick "variable" (us.take i) (rs.take i)).length < sizeLine := small1000 (Nat.le_trans (pick_le _ _) (by rw [List.length_take]; omega))
      refine ⟨T2, _, rfl, SqT.of upd_same, rfl, _, _, rfl, _, _, rfl, rfl, ?_⟩
      refine ⟨rfl, _, rfl, rfl, _, rfl, ite_dec (fun hb => ?_) (fun hb => ?_)⟩
      · have hz : role = "variable" := V.str.inj (of_decide_eq_true hb)
        refine ⟨_, rfl, _, s2 _ _ hGD, acc, ?_, ?_⟩
        · exact fun b o e => (upd_ne (ne_of_none e hD)).trans (s2 _ _ (sG _ _ e))
        · rw [upd_same, pick_take hx hrole, if_pos hz]
      · have hz : ¬ role = "variable" := fun e => of_decide_eq_false hb (by rw [e])
        refine ⟨sG.trans s2, ?_⟩
        rw [pick_take hx hrole, if_neg hz, List.append_nil]
        exact s2 _ _ hGD
    · rintro G ⟨sG, hGD⟩
      rw [List.take_length, R.n, List.take_length] at hGD
      exact kk D G (s1.trans sG) (s1.free hD) hGD
end
end TW
set_option Elab.async false
set_option linter.all false
set_option maxRecDepth 100000
namespace TW
open PySem PySem.Spec PyProof.Rows L2 TL
theorem pick_none {z : Str} : ∀ {us : List V} {rs : List Str}, z ∉ rs → pick z us rs = []
  | [], _, _ => by unfold pick; rw [List.zip_nil_left]; rfl
  | _ :: _, [], _ => by unfold pick; rw [List.zip_nil_right]; rfl
  | u :: us, r :: rs, h => by
    rw [pick_cons, if_neg fun e => h (by rw [e]; exact List.mem_cons_self ..), pick_none fun m => h (List.mem_cons_of_mem _ m)]
    rfl
theorem pick_append {z : Str} : ∀ {us vs : List V} {rs qs : List Str}, us.length = rs.length → pick z (us ++ vs) (rs ++ qs) = pick z us rs ++ pick z vs qs
  | [], vs, [], qs, _ => rfl
  | [], vs, _ :: _, qs, h => by simp at h
  | _ :: _, vs, [], qs, h => by simp at h
  | u :: us, vs, r :: rs, qs, h => by
    rw [List.cons_append, List.cons_append, pick_cons, pick_cons, pick_append (by simpa using h), List.append_assoc]
theorem pick_vars {ws fs : List Str} {H : Hp} : ∀ {rs : List Str} {ps : List PyData} {us : List V} {L : List Addr}, PartsOk ws fs rs ps → DqAll H us ps L → pick "variable" us rs = ((ps.zip rs).filterMap (fun p => if p.2 = ("variable" : Str) then some (strD p.1) else none)).map V.str
  | _, _, _, _, .nil, .nil => rfl
  | _, _, _, _, .cons (r := r) h a, .cons q b => by
    rw [pick_cons, List.zip_cons_cons, pick_vars a b]
    by_cases e : r = "variable"
    · rw [if_pos e, part_v h q e, e, fv1]
      rfl
    · rw [if_neg e, fvN e]
      rfl
def kindsB : List Str := ["same", "empty"]
theorem forms_plain {k : Str} {rs : List Str} (h : formsT.lookup k = some rs) (n1 : k ≠ "same") (n2 : k ≠ "empty") : ("rows" : Str) ∉ rs := by
  rcases forms_cases h with ⟨e, rfl⟩ | ⟨e, rfl⟩ | ⟨e, rfl⟩ | ⟨e, rfl⟩ | ⟨e, rfl⟩ | ⟨e, rfl⟩ | ⟨e, rfl⟩ | ⟨e, _⟩ | ⟨e, _⟩
  all_goals first | decide +kernel | exact absurd e n1 | exact absurd e n2
theorem forms_br {k : Str} {rs : List Str} (h : formsT.lookup k = some rs) (hk : k = "same" ∨ k = "empty") : ∃ qs : List Str, rs = qs ++ (["rows", "rows"] : List Str) ∧ ("rows" : Str) ∉ qs := by
  have no : ∀ {z : Str}, ¬ z = "same" → ¬ z = "empty" → k = z → False := fun a b e => by
    rcases hk with h | h
    · exact a (e.symm.trans h)
    · exact b (e.symm.trans h)
  rcases forms_cases h with ⟨e, rfl⟩ | ⟨e, rfl⟩ | ⟨e, rfl⟩ | ⟨e, rfl⟩ | ⟨e, rfl⟩ | ⟨e, rfl⟩ | ⟨e, rfl⟩ | ⟨e, rfl⟩ | ⟨e, rfl⟩
  · exact (no (by decide +kernel) (by decide +kernel) e).elim
  · exact (no (by decide +kernel) (by decide +kernel) e).elim
  · exact (no (by decide +kernel) (by decide +kernel) e).elim
  · exact (no (by decide +kernel) (by decide +kernel) e).elim
  · exact (no (by decide +kernel) (by decide +kernel) e).elim
  · exact (no (by decide +kernel) (by decide +kernel) e).elim
  · exact (no (by decide +kernel) (by decide +kernel) e).elim
  · exact ⟨["variable", "variable"], rfl, by decide +kernel⟩
  · exact ⟨["variable"], rfl, by decide +kernel⟩
/-- a row as the program sees it -/
structure RowG (ws fs : List Str) (H : Hp) (r : Addr) (d : PyData) (k : Str) (us : List V) (rs : List Str) (ps : List PyData) (L : List Addr) : Prop where
  rV : RowV H r k us rs
  rD : d = .tuple (.str k :: ps)
  rP : PartsOk ws fs rs ps
  rQ : DqAll H us ps L
  rX : pick "variable" us rs = (varsOf d).map V.str
theorem row_view {ws fs : List Str} {n : Nat} {H : Hp} {v : V} {d : PyData} {L : List Addr} (ok : OkR ws fs d) (rd : RowD n d) (hq : Dq H v d L) : ∃ (r : Addr) (k : Str) (us : List V) (rs : List Str) (ps : List PyData), v = .ref r ∧ RowG ws fs H r d k us rs ps L ∧
    ((pick "rows" us rs = [] ∧ L = [] ∧ inner d = ([], []) ∧ k ≠ "same" ∧ k ≠ "empty") ∨
     ∃ (m : Nat) (u1 : List V) (pa pb : Addr) (as bs : List PyData) (La Lb : List Addr), n = m + 1 ∧ us = u1 ++ [.ref pa, .ref pb] ∧ pick "rows" us rs = [.ref pa, .ref pb] ∧ BrAt m H r k u1 pa pb as bs La Lb ∧ L = La ++ Lb ∧ inner d = (as, bs) ∧ ∃ ps0, ps = ps0 ++ [.list as, .list bs] ∧ DqAll H u1 ps0 []) := by
  obtain ⟨k, ps, rs, rfl, hl, hp⟩ := ok
  have hat := row_at rd hq
  cases hq with
  | @tup r vs _ _ hr dv =>
  cases dv with
  | @cons v0 us _ _ L0 M0 hv0 du =>
  cases hv0 with
  | str _ =>
  have hv : RowV H r k us rs := ⟨hr, hl, by rw [du.len, hp.len]⟩
  refine ⟨r, k, us, rs, ps, rfl, ⟨hv, rfl, hp, by simpa using du, ?_⟩, ?_⟩
  · rw [vars_eq hl]
    exact pick_vars hp du
  · rcases hat with ⟨r', k', us', e1, n1, n2, h3, h4, h5⟩ | ⟨m, r', k', u1, pa, pb, as, bs, La, Lb, e0, e1, B, e2, e3⟩
    · cases e1
      rw [hr] at h3
      cases h3
      exact .inl ⟨pick_none (forms_plain hl n1 n2), h4, h5, n1, n2⟩
    · cases e1
      have ht := B.t
      rw [hr] at ht
      cases ht
      obtain ⟨qs, eq, hn⟩ := forms_br hl B.w
      have hlen : u1.length = qs.length := by
        have := hv.n
        rw [eq, List.length_append, List.length_append] at this
        simpa using this
      refine .inr ⟨m, u1, pa, pb, as, bs, La, Lb, e0, rfl, ?_, B, e2, e3, ?_⟩
      · rw [eq, pick_append hlen, pick_none hn, List.nil_append, pick_cons, if_pos rfl, pick_cons, if_pos rfl]
        rfl
      obtain ⟨ds0, as', bs', ep, fl⟩ : ∃ ds0 as' bs', ps = ds0 ++ [.list as', .list bs'] ∧ ∀ d ∈ ds0, FlatD d := by
        cases rd with
        | plain n1 n2 _ _ => exact (B.w.elim n1 n2).elim
        | br hw fl l2 ra rb la lb => exact ⟨_, _, _, rfl, fl⟩
      rw [ep, inner_br] at e3
      cases e3
      rw [ep] at du
      obtain ⟨v1, v2, L1, L2, ev, _, d1, d2⟩ := du.split
      have z := d1.flat fl
      subst z
      have l2 : v2.length = 2 := d2.len
      have := List.append_inj' ev (by rw [l2]; rfl)
      exact ⟨ds0, ep, by rw [this.1]; exact d1⟩
def spWithB : Sp := fun vs H Q _ => ∃ (r l : Addr) (xs zs : List V), vs = [.ref r, .ref l] ∧ H r = some (.tup xs) ∧ H l = some (.lst zs) ∧ zs.length < xs.length ∧ xs.length ≤ 100 ∧ ∀ q H', Same H H' → H' q = some (.tup (xs.take (xs.length - zs.length) ++ zs)) → Q (.ref q) H'
abbrev S_with_branches : Stmt := topS 43
abbrev N_with_branches : List Str := ["row", "lists"]
abbrev P_with_branches : List Str := ["row", "lists"]
theorem sc_with_branches : FnScope N_with_branches P_with_branches (defScope S_with_branches) := ⟨rfl, rfl, rfl, by decide +kernel, rfl, by decide +kernel, by decide +kernel⟩
theorem sIx_to {n : Nat} {i : Int} (h0 : 0 ≤ i) (h : i ≤ n) : HT.sIx n n (some i) = i.toNat := by
  show (if (i < 0) then (i + (n : Int)).toNat else min i.toNat n) = i.toNat
  rw [if_neg (by omega)]
  omega
section
variable {P : Program} {w : World} {K : PySem.W.Frag} {mg : Str → Option Value} {base : Heap}
set_option maxHeartbeats 4000000 in
theorem ok_with_branches {f : Addr} {fd : FuncData} (F : Fun K "with_branches" "with_branches" S_with_branches f fd) (B : Bl mg) : FnOk P w K mg base CX0 1 f fd P_with_branches spWithB := by
  refine F.ok sc_with_branches (fun vs H Q E h => ?_) (fun cdv A outer s H vs Q E hr h => ?_)
  · obtain ⟨r, l, xs, zs, rfl, _⟩ := h
    rfl
  · obtain ⟨r, l, xs, zs, rfl, hr1, hl1, lt, x100, kk⟩ := h
    refine ⟨_, (pss_one (ps_ret (pe_op op_catA (pe_slice sl_tupA (pv 0) po_none (po_some (pe_op op_sub (pe_callB call_len_seq (by rfl) B.m_len PySem.boot_len (pa_cons (pv 0) pa_nil)) (pe_callB call_len_seq (by rfl) B.m_len PySem.boot_len (pa_cons (pv 1) pa_nil))))) (pe_callTy call_tuple_of (by rfl) B.m_tuple (by decide +kernel) (pa_cons (pv 1) pa_nil))))), ?_⟩
    refine ⟨_, rfl, _, rfl, r, _, rfl, .inr (SqT.of hr1), _, rfl, l, _, rfl, .inl (SqL.of hl1), _, _, rfl, rfl, _, rfl, r, _, rfl, SqT.of hr1, ?_⟩
    have e1 : HT.sIx xs.length xs.length (some ((xs.length : Int) - (zs.length : Int))) = xs.length - zs.length := by
      rw [sIx_to (by omega) (by omega)]
      omega
    have e0 : HT.sIx xs.length 0 none = 0 := rfl
    have hx : xs ≠ [] := fun e => by rw [e] at lt; exact absurd lt (Nat.not_lt_zero _)
    have l0 : ∀ n : Nat, n ≤ 1000 → n ≤ sizeLine := fun n h => Nat.le_of_lt (small1000 h)
    rw [e0, e1]
    refine ⟨fun hw => ?_, fun hw p1 hp1 => ?_⟩
    · have hz : zs = [] := List.length_eq_zero_iff.mp (by have := hw.2; omega)
      refine ⟨_, rfl, l, _, rfl, .inl ⟨SqL.of hl1, fun t ht => ?_⟩⟩
      have s1 := same_new (o := .tup zs) ht
      refine ⟨r, t, xs, zs, rfl, rfl, SqT.of (s1 _ _ hr1), SqT.of upd_same, l0 _ (by omega), fun e => absurd e hx, fun _ _ => kk r _ s1 ?_, fun _ e => absurd hz e⟩
      rw [hz, List.length_nil, Nat.sub_zero, List.take_length, List.append_nil]
      exact (upd_ne (ne_of_none hr1 ht)).trans hr1
    · have hz : zs ≠ [] := fun e => hw ⟨rfl, by rw [e]; rfl⟩
      have ec : cutV xs none (some ((xs.length : Int) - (zs.length : Int))) = xs.take (xs.length - zs.length) := by
        unfold cutV
        rw [e0, e1, List.drop_zero, Nat.sub_zero]
      rw [ec]
      have s1 := same_new (o := .tup (xs.take (xs.length - zs.length))) hp1
      refine ⟨_, rfl, l, _, rfl, .inl ⟨SqL.of (s1 _ _ hl1), fun t ht => ?_⟩⟩
      have s2 := s1.trans (same_new (o := .tup zs) ht)
      have hn : xs.take (xs.length - zs.length) ≠ [] := fun e => by
        have := congrArg List.length e
        rw [List.length_take, List.length_nil] at this
        omega
      refine ⟨p1, t, _, zs, rfl, rfl, SqT.of ((upd_ne (ne_of_none upd_same ht)).trans upd_same), SqT.of upd_same, l0 _ (by rw [List.length_take]; omega), fun e => absurd e hn, fun _ e => absurd e hz, fun _ _ q hq => kk q _ (s2.trans (same_new hq)) upd_same⟩
end
/-- rows copied, with those inside -/
def spCopies (ws fs : List Str) (n : Nat) : Sp := fun vs H Q _ => ∃ (a : Addr) (ds : List PyData) (L : List Addr), vs = [.ref a] ∧ Dq H (.ref a) (.list ds) L ∧ (∀ d ∈ ds, RowD n d) ∧ (∀ d ∈ rowsD n ds, OkR ws fs d) ∧ ds.length ≤ 100 ∧
  ∀ (b : Addr) (M : List Addr) (H' : Hp), Same H H' → Dq H' (.ref b) (.list ds) M → (∀ x ∈ M, H x = none) → Q (.ref b) H'
def spCopyR (ws fs : List Str) (n : Nat) : Sp := fun vs H Q _ => ∃ (v : V) (d : PyData) (L : List Addr), vs = [v] ∧ Dq H v d L ∧ RowD n d ∧ (∀ e ∈ rowsD n [d], OkR ws fs e) ∧
  ∀ (u : V) (M : List Addr) (H' : Hp), Same H H' → Dq H' u d M → (∀ x ∈ M, H x = none) → Q u H'
def spCopiesI (ws fs : List Str) : Nat → Sp
  | 0 => fun _ _ _ _ => False
  | n + 1 => spCopies ws fs n
abbrev S_copied_rows : Stmt := topS 44
abbrev N_copied_rows : List Str := ["rows", "row"]
abbrev P_copied_rows : List Str := ["rows"]
theorem sc_copied_rows : FnScope N_copied_rows P_copied_rows (defScope S_copied_rows) := ⟨rfl, rfl, rfl, by decide +kernel, rfl, by decide +kernel, by decide +kernel⟩
abbrev S_copied_row : Stmt := topS 45
abbrev N_copied_row : List Str := ["row", "rows"]
abbrev P_copied_row : List Str := ["row"]
theorem sc_copied_row : FnScope N_copied_row P_copied_row (defScope S_copied_row) := ⟨rfl, rfl, rfl, by decide +kernel, rfl, by decide +kernel, by decide +kernel⟩
theorem rowsD_mem {n : Nat} {ds : List PyData} {d e : PyData} (h : d ∈ ds) (he : e ∈ rowsD n [d]) : e ∈ rowsD n ds := by
  obtain ⟨s, t, rfl⟩ := List.append_of_mem h
  rw [show s ++ d :: t = s ++ ([d] ++ t) from rfl, rowsD_append, rowsD_append]
  exact List.mem_append_right _ (List.mem_append_left _ he)
section
variable {P : Program} {w : World} {K : PySem.W.Frag} {mg : Str → Option Value} {base : Heap}
set_option maxHeartbeats 4000000 in
theorem ok_copied_row {f fB fW fC : Addr} {fd fdB fdW fdC : FuncData} {ws fs : List Str} (F : Fun K "copied_row" "copied_row" S_copied_row f fd) (B : Bl mg) (n : Nat) (d_branches : Df K mg "branches" S_branches fB fdB P_branches) (G_branches : FnOk P w K mg base CX0 1 fB fdB P_branches (spPartsOf "rows"))
    (d_with_branches : Df K mg "with_branches" S_with_branches fW fdW P_with_branches) (G_with_branches : FnOk P w K mg base CX0 1 fW fdW P_with_branches spWithB)
    (d_copied_rows : Df K mg "copied_rows" S_copied_rows fC fdC P_copied_rows) (G_copied_rows : FnOk P w K mg base CX0 (2 * n + 1) fC fdC P_copied_rows (spCopiesI ws fs n)) : FnOk P w K mg base CX0 (2 * n + 2) f fd P_copied_row (spCopyR ws fs n) := by
  refine F.ok sc_copied_row (fun vs H Q E h => ?_) (fun cdv A outer s H vs Q E hr h => ?_)
  · obtain ⟨v, d, L, rfl, _⟩ := h
    rfl
  · obtain ⟨v, d, L, rfl, hq, rd, ok, kk⟩ := h
    have hr_branches : Room 1 _ := hr.mono (by omega)
    have hr_with_branches : Room 1 _ := hr.mono (by omega)
    have hr_copied_rows : Room (2 * n + 1) _ := hr
    have okd : OkR ws fs d := ok d (by rw [rowsD_one]; exact List.mem_cons_self ..)
    obtain ⟨r, k, us, rs, ps, rfl, G, alt⟩ := row_view okd rd hq
    -- the lists inside, as data
    obtain ⟨lds, hl, each, fin⟩ : ∃ lds : List PyData, (∃ L', DqAll H (pick "rows" us rs) lds L') ∧ (∀ ld ∈ lds, ∃ (m : Nat) (cs : List PyData), n = m + 1 ∧ ld = .list cs ∧ (∀ d ∈ cs, RowD m d) ∧ (∀ d ∈ rowsD m cs, OkR ws fs d) ∧ cs.length ≤ 100) ∧
        (lds.length < (V.str k :: us).length ∧ ∀ (G' : Hp) (acc : List V) (M : List Addr), Same H G' → DqAll G' acc lds M → DqAll G' ((V.str k :: us).take ((V.str k :: us).length - acc.length) ++ acc) (.str k :: ps) M) := by
      rcases alt with ⟨e1, e2, e3, n1, n2⟩ | ⟨m, u1, pa, pb, as, bs, La, Lb, rfl, rfl, e1, B, e2, e3, ps0, rfl, d0⟩
      · refine ⟨[], ⟨[], by rw [e1]; exact .nil⟩, fun _ m => (nomatch m), by simp, fun G' acc M sG da => ?_⟩
        cases da
        rw [List.length_nil, Nat.sub_zero, List.take_length, List.append_nil]
        have z := G.rQ.same sG
        rw [e2] at z
        exact .cons (L := []) (M := []) (.str k) z
      · refine ⟨[.list as, .list bs], ⟨_, by rw [e1]; exact .cons B.a (.cons B.b .nil)⟩, fun ld h => ?_, by simp, fun G' acc M sG da => ?_⟩
        · have ein : rowsD (m + 1) [d] = d :: (rowsD m as ++ rowsD m bs) := rows_br e3
          rcases List.mem_cons.mp h with rfl | h
          · exact ⟨m, as, rfl, rfl, B.ra, fun e he => ok e (by rw [ein]; exact List.mem_cons_of_mem _ (List.mem_append_left _ he)), B.la⟩
          · rw [List.mem_singleton.mp h]
            exact ⟨m, bs, rfl, rfl, B.rb, fun e he => ok e (by rw [ein]; exact List.mem_cons_of_mem _ (List.mem_append_right _ he)), B.lb⟩
        · have al : acc.length = 2 := da.len
          have et : (V.str k :: (u1 ++ [V.ref pa, V.ref pb])).take ((V.str k :: (u1 ++ [V.ref pa, V.ref pb])).length - acc.length) = V.str k :: u1 := by
            rw [al, show V.str k :: (u1 ++ [V.ref pa, V.ref pb]) = (V.str k :: u1) ++ [V.ref pa, V.ref pb] from rfl, List.length_append]
            exact List.take_left' (by show _ = _ + 2 - 2; omega)
          rw [et]
          exact .cons (L := []) (M := M) (.str k) ((d0.same sG).append da)
    refine ⟨_, (pss_one (ps_ret (pe_call G_with_branches hr_with_branches rfl d_with_branches.g d_with_branches.F.kp d_with_branches.b .nil pass0 (pa_cons (pv 0) (pa_cons (pe_lc (own := [("rows", 1)]) (g := gName 1) (tt := tYes) rfl sc_copied_row.nd (pi_list (pe_call G_branches hr_branches rfl d_branches.g d_branches.F.kp d_branches.b .nil pass0 (pa_cons (pv 0) pa_nil))) (blkOk_by (own := [("rows", 1)]) (N := N_copied_row) (sc := defScope S_copied_row) (by decide +kernel)) (fun _ _ _ _ _ => (pg_name (i := 1) sc_copied_row.nd rfl (by first | exact Or.inl rfl | exact Or.inr rfl))) (fun _ _ _ _ _ => pts_nil) (fun _ _ _ _ _ => (pe_call G_copied_rows hr_copied_rows rfl d_copied_rows.g d_copied_rows.F.kp d_copied_rows.b .nil pass0 (pa_cons (pv 1) pa_nil)))) pa_nil))))), ?_⟩
    obtain ⟨L', hl⟩ := hl
    obtain ⟨llt, fin⟩ := fin
    have r4 := (forms_len G.rV.l).2
    have un := G.rV.n
    refine ⟨_, rfl, _, rfl, r, k, us, rs, rfl, G.rV, fun b H1 s1 hb h1 => ⟨b, rfl, ⟨_, SqL.of h1⟩, fun D hD => ?_⟩⟩
    have bD : b ≠ D := ne_of_none h1 hD
    have s2 := s1.trans (same_new (o := .lst []) hD)
    refine lc_list (xs := pick "rows" us rs) (fun i G' => ∃ (acc : List V) (M : List Addr), Same H1 G' ∧ G' D = some (.lst acc) ∧ DqAll G' acc (lds.take i) M ∧ (∀ x ∈ M, H x = none ∧ x ≠ D)) ⟨[], [], same_new hD, upd_same, .nil, fun x m => nomatch m⟩ ?_ ?_ ?_
    · rintro i G' hi ⟨acc, M, sG, hGD, da, fr⟩
      exact SqL.of (sG _ _ h1)
    · rintro i x G' hx ⟨acc, M, sG, hGD, da, fr⟩
      refine ⟨rfl, yes_of ?_⟩
      obtain ⟨ld, N, hld, hqx, _⟩ := hl.get hx
      obtain ⟨m, cs, rfl, rfl, r1, o1, c100⟩ := each ld (List.mem_of_getElem? hld)
      obtain ⟨pa, rfl⟩ : ∃ pa, x = .ref pa := by cases hqx; exact ⟨_, rfl⟩
      refine ⟨_, rfl, pa, cs, N, rfl, hqx.same (s1.trans sG), r1, o1, c100, fun b1 M1 G2 s3 q1 f1 => ?_⟩
      have al : acc.length ≤ 100 := by
        have h1 := da.len
        rw [List.length_take] at h1
        have h2 := pick_le (z := "rows") us rs
        have h3 := hl.len
        omega
      refine ⟨acc, s3 _ _ hGD, small1000 (by omega), acc ++ [.ref b1], M ++ M1, fun b o e => (upd_ne (ne_of_none e hD)).trans (s3 _ _ (sG _ _ e)), upd_same, ?_, fun x m => ?_⟩
      · have fr1 : ∀ x ∈ M1, H x = none ∧ x ≠ D := fun x m => ⟨(s1.trans sG).free (f1 x m), fun z => by have := f1 x m; rw [z, hGD] at this; cases this⟩
        have kp : ∀ {X : List Addr}, (∀ x ∈ X, H x = none ∧ x ≠ D) → KeepL X G2 (upd G2 D (.lst (acc ++ [.ref b1]))) := fun h => ⟨fun b m => upd_ne (h b m).2, fun b us e => (upd_ne (fun z : b = D => by rw [z, s3 _ _ hGD] at e; cases e)).trans e⟩
        rw [take_next hld]
        exact ((da.same s3).keep (kp fr)).snoc (q1.keep (kp fr1))
      · rcases List.mem_append.mp m with m | m
        · exact fr x m
        · exact ⟨(s1.trans sG).free (f1 x m), fun z => by have := f1 x m; rw [z, hGD] at this; cases this⟩
    · rintro G' ⟨acc, M, sG, hGD, da, fr⟩
      rw [hl.len, List.take_length] at da
      have s3 := s1.trans sG
      refine ⟨r, D, V.str k :: us, acc, rfl, s3 _ _ G.rV.t, hGD, by rw [da.len]; exact llt, by rw [List.length_cons]; omega, fun q H' s4 hq' => ?_⟩
      have s5 := s3.trans s4
      refine kk (.ref q) M H' s5 ?_ fun x m => (fr x m).1
      rw [G.rD]
      exact .tup hq' (fin H' acc M s5 (da.same s4))
end
end TW
set_option Elab.async false
set_option linter.all false
set_option maxRecDepth 100000
namespace TW
open PySem PySem.Spec PyProof.Rows L2 TL
section
variable {P : Program} {w : World} {K : PySem.W.Frag} {mg : Str → Option Value} {base : Heap}
set_option maxHeartbeats 4000000 in
theorem ok_copied_rows_step {f fC : Addr} {fd fdC : FuncData} {ws fs : List Str} (F : Fun K "copied_rows" "copied_rows" S_copied_rows f fd) (B : Bl mg) (n : Nat)
    (d_copied_row : Df K mg "copied_row" S_copied_row fC fdC P_copied_row) (G_copied_row : FnOk P w K mg base CX0 (2 * n + 2) fC fdC P_copied_row (spCopyR ws fs n)) : FnOk P w K mg base CX0 (2 * n + 3) f fd P_copied_rows (spCopies ws fs n) := by
  refine F.ok sc_copied_rows (fun vs H Q E h => ?_) (fun cdv A outer s H vs Q E hr h => ?_)
  · obtain ⟨a, ds, L, rfl, _⟩ := h
    rfl
  · obtain ⟨a, ds, L, rfl, hq, rd, ok, l100, kk⟩ := h
    have hr_copied_row : Room (2 * n + 2) _ := hr
    refine ⟨_, (pss_one (ps_ret (pe_lc (own := [("row", 1)]) (g := gName 1) (tt := tYes) rfl sc_copied_rows.nd (pi_list (pv 0)) (blkOk_by (own := [("row", 1)]) (N := N_copied_rows) (sc := defScope S_copied_rows) (by decide +kernel)) (fun _ _ _ _ _ => (pg_name (i := 1) sc_copied_rows.nd rfl (by first | exact Or.inl rfl | exact Or.inr rfl))) (fun _ _ _ _ _ => pts_nil) (fun _ _ _ _ _ => (pe_call G_copied_row hr_copied_row rfl d_copied_row.g d_copied_row.F.kp d_copied_row.b .nil pass0 (pa_cons (pv 1) pa_nil)))))), ?_⟩
    cases hq with
    | @lst _ xs _ L ha da =>
    refine ⟨_, rfl, a, rfl, ⟨_, SqL.of ha⟩, fun D hD => ?_⟩
    refine lc_list (xs := xs) (fun i G' => ∃ (acc : List V) (M : List Addr), Same H G' ∧ G' D = some (.lst acc) ∧ DqAll G' acc (ds.take i) M ∧ (∀ x ∈ M, H x = none ∧ x ≠ D)) ⟨[], [], same_new hD, upd_same, .nil, fun x m => nomatch m⟩ ?_ ?_ ?_
    · rintro i G' hi ⟨acc, M, sG, hGD, dac, fr⟩
      exact SqL.of (sG _ _ ha)
    · rintro i x G' hx ⟨acc, M, sG, hGD, dac, fr⟩
      refine ⟨rfl, yes_of ?_⟩
      obtain ⟨d, N, hd, hqx, _⟩ := da.get hx
      have dm : d ∈ ds := List.mem_of_getElem? hd
      refine ⟨_, rfl, x, d, N, rfl, hqx.same sG, rd d dm, fun e he => ok e (rowsD_mem dm he), fun u M1 G2 s3 q1 f1 => ?_⟩
      have al : acc.length ≤ 100 := by
        have h1 := dac.len
        rw [List.length_take] at h1
        omega
      have fr1 : ∀ x ∈ M1, H x = none ∧ x ≠ D := fun x m => ⟨sG.free (f1 x m), fun z => by have := f1 x m; rw [z, hGD] at this; cases this⟩
      refine ⟨acc, s3 _ _ hGD, small1000 (by omega), acc ++ [u], M ++ M1, fun b o e => (upd_ne (ne_of_none e hD)).trans (s3 _ _ (sG _ _ e)), upd_same, ?_, fun x m => (List.mem_append.mp m).elim (fr x) (fr1 x)⟩
      have kp : ∀ {X : List Addr}, (∀ x ∈ X, H x = none ∧ x ≠ D) → KeepL X G2 (upd G2 D (.lst (acc ++ [u]))) := fun h => ⟨fun b m => upd_ne (h b m).2, fun b us e => (upd_ne (fun z : b = D => by rw [z, s3 _ _ hGD] at e; cases e)).trans e⟩
      rw [take_next hd]
      exact ((dac.same s3).keep (kp fr)).snoc (q1.keep (kp fr1))
    · rintro G' ⟨acc, M, sG, hGD, dac, fr⟩
      rw [da.len, List.take_length] at dac
      exact kk D (D :: M) G' sG (.lst hGD dac) fun x m => (List.mem_cons.mp m).elim (fun e => by rw [e]; exact hD) fun m => (fr x m).1
theorem ok_copies {f fB fW fC : Addr} {fd fdB fdW fdC : FuncData} {ws fs : List Str} (F : Fun K "copied_row" "copied_row" S_copied_row f fd) (FC : Fun K "copied_rows" "copied_rows" S_copied_rows fC fdC) (B : Bl mg)
    (d_branches : Df K mg "branches" S_branches fB fdB P_branches) (G_branches : FnOk P w K mg base CX0 1 fB fdB P_branches (spPartsOf "rows"))
    (d_with_branches : Df K mg "with_branches" S_with_branches fW fdW P_with_branches) (G_with_branches : FnOk P w K mg base CX0 1 fW fdW P_with_branches spWithB)
    (d_copied_row : Df K mg "copied_row" S_copied_row f fd P_copied_row) (d_copied_rows : Df K mg "copied_rows" S_copied_rows fC fdC P_copied_rows) : ∀ n : Nat, FnOk P w K mg base CX0 (2 * n + 2) f fd P_copied_row (spCopyR ws fs n) ∧ FnOk P w K mg base CX0 (2 * n + 3) fC fdC P_copied_rows (spCopies ws fs n)
  | 0 => by
    have a := ok_copied_row (ws := ws) (fs := fs) F B 0 d_branches G_branches d_with_branches G_with_branches d_copied_rows ⟨fun _ _ _ _ h => False.elim h, fun _ _ _ _ _ _ _ _ _ _ _ _ _ h => False.elim h⟩
    exact ⟨a, ok_copied_rows_step FC B 0 d_copied_row a⟩
  | n + 1 => by
    have z := (ok_copies (ws := ws) (fs := fs) F FC B d_branches G_branches d_with_branches G_with_branches d_copied_row d_copied_rows n).2
    have a := ok_copied_row (ws := ws) (fs := fs) F B (n + 1) d_branches G_branches d_with_branches G_with_branches d_copied_rows z
    exact ⟨a, ok_copied_rows_step FC B (n + 1) d_copied_row a⟩
end
end TW
set_option Elab.async false
set_option linter.all false
set_option maxRecDepth 100000
namespace TW
open PySem PySem.Spec PyProof.Rows L2 TL
theorem kdW {K : PySem.W.Frag} {H : Hp} {z : Str} (h : z.length ≤ 1000) : Kd K H (.str z) "str" := ⟨by decide, .base (.str _), fun y e => by cases e; omega⟩
theorem kdI {K : PySem.W.Frag} {H : Hp} {i : Int} : Kd K H (.int i) "int" := ⟨by decide, .base (.int _), fun y e => by cases e⟩
def spDepth (K : PySem.W.Frag) : Sp := fun vs H Q _ => ∃ x T, vs = [x] ∧ Kd K H x T ∧ Q (.bl (btw x 0 4)) H
def spRight (K : PySem.W.Frag) (ws fs : List Str) : Sp := fun vs H Q _ => ∃ (u : V) (role : Str) (a : Addr) (d : PyData) (L : List Addr), vs = [u, .str role, .ref a] ∧ PartOk ws fs role d ∧ Dq H u d L ∧ (SqL K H a (fs.map V.str) ∨ SqT K H a (fs.map V.str)) ∧ (∀ x ∈ ws, IsW x) ∧ (∀ x ∈ fs, IsW x) ∧ ∀ H', Same H H' → Q (.bl true) H'
abbrev S_is_depth : Stmt := topS 39
abbrev N_is_depth : List Str := ["value"]
abbrev P_is_depth : List Str := ["value"]
theorem sc_is_depth : FnScope N_is_depth P_is_depth (defScope S_is_depth) := ⟨rfl, rfl, rfl, by decide +kernel, rfl, by decide +kernel, by decide +kernel⟩
abbrev S_is_right : Stmt := topS 38
abbrev N_is_right : List Str := ["part", "role", "fields"]
abbrev P_is_right : List Str := ["part", "role", "fields"]
theorem sc_is_right : FnScope N_is_right P_is_right (defScope S_is_right) := ⟨rfl, rfl, rfl, by decide +kernel, rfl, by decide +kernel, by decide +kernel⟩
abbrev S_has_form : Stmt := topS 36
abbrev N_has_form : List Str := ["row", "roles", "part", "role"]
abbrev P_has_form : List Str := ["row"]
theorem sc_has_form : FnScope N_has_form P_has_form (defScope S_has_form) := ⟨rfl, rfl, rfl, by decide +kernel, rfl, by decide +kernel, by decide +kernel⟩
abbrev S_has_names : Stmt := topS 37
abbrev N_has_names : List Str := ["row", "fields", "part", "role"]
abbrev P_has_names : List Str := ["row", "fields"]
theorem sc_has_names : FnScope N_has_names P_has_names (defScope S_has_names) := ⟨rfl, rfl, rfl, by decide +kernel, rfl, by decide +kernel, by decide +kernel⟩
theorem same_lit {a b : Str} {p : Prop} (hb : decide (V.str a = V.str b) = true) (n : ¬ a = b) : p := absurd (V.str.inj (of_decide_eq_true hb)) n
section
variable {P : Program} {w : World} {K : PySem.W.Frag} {mg : Str → Option Value} {base : Heap}
set_option maxHeartbeats 4000000 in
theorem ok_is_depth {f fB : Addr} {fd fdB : FuncData} {t : Tok} (F : Fun K "is_depth" "is_depth" S_is_depth f fd) (d_is_between : Df K mg "is_between" S_is_between fB fdB P_is_between) (G_is_between : FnOk P w K mg base CX0 2 fB fdB P_is_between (spBtw K)) (m_MOST_DEPTH : mg "MOST_DEPTH" = some (.int 4 t)) :
    FnOk P w K mg base CX0 3 f fd P_is_depth (spDepth K) := by
  refine F.ok sc_is_depth (fun vs H Q E h => ?_) (fun cdv A outer s H vs Q E hr h => ?_)
  · obtain ⟨x, T, rfl, _⟩ := h
    rfl
  · obtain ⟨x, T, rfl, hk, kk⟩ := h
    have hr_is_between : Room 2 _ := hr.mono (Nat.le_refl _)
    refine ⟨_, (pss_one (ps_ret (pe_call G_is_between hr_is_between rfl d_is_between.g d_is_between.F.kp d_is_between.b .nil pass0 (pa_cons (pv 0) (pa_cons pe_int (pa_cons (pe_glob (v := .int _) rfl m_MOST_DEPTH ⟨_, rfl⟩) pa_nil)))))), ?_⟩
    exact ⟨_, rfl, x, T, 0, 4, rfl, hk, kk⟩
set_option maxHeartbeats 4000000 in
theorem ok_is_right {f fO fD fW DK : Addr} {fd fdO fdD fdW : FuncData} {ws fs : List Str} (F : Fun K "is_right" "is_right" S_is_right f fd) (d_is_one_of : Df K mg "is_one_of" S_is_one_of fO fdO P_is_one_of) (G_is_one_of : FnOk P w K mg base CX0 1 fO fdO P_is_one_of (spOneOf K))
    (d_is_depth : Df K mg "is_depth" S_is_depth fD fdD P_is_depth) (G_is_depth : FnOk P w K mg base CX0 3 fD fdD P_is_depth (spDepth K)) (d_is_word : Df K mg "is_word" S_is_word fW fdW P_is_word) (G_is_word : FnOk P w K mg base CX0 1 fW fdW P_is_word (spIsW K))
    (m_KINDS : mg "KINDS" = some (.ref DK)) (hK : ∀ H, SqT K H DK (([("freeze" : Str), ("thaw" : Str)]).map V.str)) : FnOk P w K mg base CX0 4 f fd P_is_right (spRight K ws fs) := by
  refine F.ok sc_is_right (fun vs H Q E h => ?_) (fun cdv A outer s H vs Q E hr h => ?_)
  · obtain ⟨u, role, a, d, L, rfl, _⟩ := h
    rfl
  · obtain ⟨u, role, a, d, L, rfl, hp, hq, hS, hw, hf, kk⟩ := h
    have hr_is_one_of : Room 1 _ := hr.mono (by decide)
    have hr_is_depth : Room 3 _ := hr.mono (by decide)
    have hr_is_word : Room 1 _ := hr.mono (by decide)
    refine ⟨_, (pss_cons (ps_if (pt_cmpR op_eq (pv 1) pe_str (nomark _)) (pss_one (ps_ret (pe_call G_is_one_of hr_is_one_of rfl d_is_one_of.g d_is_one_of.F.kp d_is_one_of.b .nil pass0 (pa_cons (pv 0) (pa_cons (pv 2) pa_nil))))) pss_nil)
 (pss_cons (ps_if (pt_cmpR op_eq (pv 1) pe_str (nomark _)) (pss_one (ps_ret (pe_call G_is_one_of hr_is_one_of rfl d_is_one_of.g d_is_one_of.F.kp d_is_one_of.b .nil pass0 (pa_cons (pv 0) (pa_cons (pe_glob (v := .ref DK) rfl m_KINDS rfl) pa_nil))))) pss_nil)
 (pss_cons (ps_if (pt_cmpR op_eq (pv 1) pe_str (nomark _)) (pss_one (ps_ret (pe_call G_is_depth hr_is_depth rfl d_is_depth.g d_is_depth.F.kp d_is_depth.b .nil pass0 (pa_cons (pv 0) pa_nil)))) pss_nil)
 (pss_one (ps_ret (pe_or (pe_cmpR op_eq (pv 1) pe_str (nomark _)) (pe_one (pe_call G_is_word hr_is_word rfl d_is_word.g d_is_word.F.kp d_is_word.b .nil pass0 (pa_cons (pv 0) pa_nil))))))))), ?_⟩
    cases hp with
    | @field x h =>
      cases hq with
      | str _ =>
      refine ⟨_, rfl, rfl, _, rfl, ite_dec (fun _ => ?_) (fun hb => absurd rfl (of_decide_eq_false hb))⟩
      refine ⟨_, rfl, _, rfl, _, "str", a, fs, rfl, kdW (by have := (hf x h).2.1; omega), .inr hS, ?_⟩
      rw [show oneOf (.str x) fs = true from decide_eq_true h]
      exact kk H (Same.refl H)
    | @kind x h =>
      cases hq with
      | str _ =>
      refine ⟨_, rfl, rfl, _, rfl, ite_dec (fun hb => same_lit hb (by decide +kernel)) (fun _ => ?_)⟩
      refine ⟨_, rfl, rfl, _, rfl, ite_dec (fun _ => ?_) (fun hb => absurd rfl (of_decide_eq_false hb))⟩
      have hl : x.length ≤ 1000 := by rcases h with rfl | rfl <;> decide +kernel
      refine ⟨_, rfl, _, "str", DK, _, rfl, kdW hl, .inr (.inr (hK _)), ?_⟩
      rw [show oneOf (.str x) [("freeze" : Str), ("thaw" : Str)] = true from decide_eq_true (by rcases h with h | h <;> rw [h] <;> simp)]
      exact kk H (Same.refl H)
    | @depth i h0 h1 =>
      cases hq with
      | int _ =>
      refine ⟨_, rfl, rfl, _, rfl, ite_dec (fun hb => same_lit hb (by decide +kernel)) (fun _ => ?_)⟩
      refine ⟨_, rfl, rfl, _, rfl, ite_dec (fun hb => same_lit hb (by decide +kernel)) (fun _ => ?_)⟩
      refine ⟨_, rfl, rfl, _, rfl, ite_dec (fun _ => ?_) (fun hb => absurd rfl (of_decide_eq_false hb))⟩
      refine ⟨_, rfl, _, "int", rfl, kdI, ?_⟩
      rw [show btw (.int i) 0 4 = true by simp [btw, h0, h1]]
      exact kk H (Same.refl H)
    | rows =>
      refine ⟨_, rfl, rfl, _, rfl, ite_dec (fun hb => same_lit hb (by decide +kernel)) (fun _ => ?_)⟩
      refine ⟨_, rfl, rfl, _, rfl, ite_dec (fun hb => same_lit hb (by decide +kernel)) (fun _ => ?_)⟩
      refine ⟨_, rfl, rfl, _, rfl, ite_dec (fun hb => same_lit hb (by decide +kernel)) (fun _ => ?_)⟩
      exact ⟨_, rfl, rfl, _, rfl, ite_dec (fun _ => kk H (Same.refl H)) (fun hb => absurd rfl (of_decide_eq_false hb))⟩
    | @var x h =>
      cases hq with
      | str _ =>
      refine ⟨_, rfl, rfl, _, rfl, ite_dec (fun hb => same_lit hb (by decide +kernel)) (fun _ => ?_)⟩
      refine ⟨_, rfl, rfl, _, rfl, ite_dec (fun hb => same_lit hb (by decide +kernel)) (fun _ => ?_)⟩
      refine ⟨_, rfl, rfl, _, rfl, ite_dec (fun hb => same_lit hb (by decide +kernel)) (fun _ => ?_)⟩
      refine ⟨_, rfl, rfl, _, rfl, ite_dec (fun hb => same_lit hb (by decide +kernel)) (fun _ => ?_)⟩
      refine ⟨_, rfl, _, "str", rfl, kdW (by have := (hw x h).2.1; omega), fun H' s' => ?_⟩
      rw [show isWb (.str x) = true from decide_eq_true (hw x h)]
      exact kk H' s'
    | @reader x h =>
      cases hq with
      | str _ =>
      refine ⟨_, rfl, rfl, _, rfl, ite_dec (fun hb => same_lit hb (by decide +kernel)) (fun _ => ?_)⟩
      refine ⟨_, rfl, rfl, _, rfl, ite_dec (fun hb => same_lit hb (by decide +kernel)) (fun _ => ?_)⟩
      refine ⟨_, rfl, rfl, _, rfl, ite_dec (fun hb => same_lit hb (by decide +kernel)) (fun _ => ?_)⟩
      refine ⟨_, rfl, rfl, _, rfl, ite_dec (fun hb => same_lit hb (by decide +kernel)) (fun _ => ?_)⟩
      refine ⟨_, rfl, _, "str", rfl, kdW (by have := h.2.1; omega), fun H' s' => ?_⟩
      rw [show isWb (.str x) = true from decide_eq_true h]
      exact kk H' s'
end
/-- the parts of a row, each in its role -/
theorem PartsOk.at {ws fs : List Str} {H : Hp} : ∀ {rs : List Str} {ps : List PyData} {us : List V} {L : List Addr} {i : Nat} {u : V} {r : Str}, PartsOk ws fs rs ps → DqAll H us ps L → us[i]? = some u → rs[i]? = some r → ∃ d M, PartOk ws fs r d ∧ Dq H u d M
  | _, _, _, _, i, _, _, .nil, .nil, h, _ => by simp at h
  | _, _, _, _, 0, _, _, .cons p _, .cons q _, h, g => by
    rw [← Option.some.inj h, ← Option.some.inj g]
    exact ⟨_, _, p, q⟩
  | _, _, _, _, i + 1, _, _, .cons _ p, .cons _ q, h, g => PartsOk.at (i := i) p q h g
def spForm (ws fs : List Str) : Sp := fun vs H Q _ => ∃ (r : Addr) (d : PyData) (k : Str) (us : List V) (rs : List Str) (ps : List PyData) (L : List Addr), vs = [.ref r] ∧ RowG ws fs H r d k us rs ps L ∧ ∀ H', Same H H' → Q (.bl true) H'
def spNamesR (K : PySem.W.Frag) (ws fs : List Str) : Sp := fun vs H Q _ => ∃ (r a : Addr) (d : PyData) (k : Str) (us : List V) (rs : List Str) (ps : List PyData) (L : List Addr), vs = [.ref r, .ref a] ∧ RowG ws fs H r d k us rs ps L ∧ (SqL K H a (fs.map V.str) ∨ SqT K H a (fs.map V.str)) ∧ (∀ x ∈ ws, IsW x) ∧ (∀ x ∈ fs, IsW x) ∧ ∀ H', Same H H' → Q (.bl true) H'
section
variable {P : Program} {w : World} {K : PySem.W.Frag} {mg : Str → Option Value} {base : Heap}
set_option maxHeartbeats 4000000 in
theorem ok_has_names {f fR DF : Addr} {fd fdR : FuncData} {es : Array DictEntry} {nE : Nat} {ws fs : List Str} (F : Fun K "has_names" "has_names" S_has_names f fd) (B : Bl mg) (FM : FormsK K w mg DF es nE) (d_is_right : Df K mg "is_right" S_is_right fR fdR P_is_right) (G_is_right : FnOk P w K mg base CX0 4 fR fdR P_is_right (spRight K ws fs)) :
    FnOk P w K mg base CX0 5 f fd P_has_names (spNamesR K ws fs) := by
  refine F.ok sc_has_names (fun vs H Q E h => ?_) (fun cdv A outer s H vs Q E hr h => ?_)
  · obtain ⟨r, a, d, k, us, rs, ps, L, rfl, _⟩ := h
    rfl
  · obtain ⟨r, a, d, k, us, rs, ps, L, rfl, G, hS, hw, hf, kk⟩ := h
    have hr_is_right : Room 4 _ := hr.mono (Nat.le_refl _)
    obtain ⟨T, hT, hST⟩ := FM.at' G.rV.l
    obtain ⟨f1, f4⟩ := forms_len G.rV.l
    have un := G.rV.n
    refine ⟨_, (pss_one (ps_ret (pe_callB (cr_all rfl) (by rfl) B.m_all (by decide +kernel) (pa_cons (pe_lc (own := [("part", 2), ("role", 3)]) (tt := tYes) rfl sc_has_names.nd (RZ.pi_zipA (by rfl) B.m_zip (pa_cons (pe_slice sl_tup (pv 0) (po_some pe_int) po_none) (pa_cons (pe_ix ix_kdict (pe_glob (v := .ref DF) rfl FM.g rfl) (pe_ix ix_tup (pv 0) pe_int (fun _ _ => rfl)) (fun _ _ => rfl)) pa_nil))) (blkOk_by (own := [("part", 2), ("role", 3)]) (N := N_has_names) (sc := defScope S_has_names) (by decide +kernel)) (fun _ _ _ _ _ => (pg_tupK (K := K) (n := 2) rfl rfl (pgs_cons (pg_name (i := 2) sc_has_names.nd rfl (by first | exact Or.inl rfl | exact Or.inr rfl)) (pgs_cons (pg_name (i := 3) sc_has_names.nd rfl (by first | exact Or.inl rfl | exact Or.inr rfl)) pgs_nil)))) (fun _ _ _ _ _ => pts_nil) (fun _ _ _ _ _ => (pe_call G_is_right hr_is_right rfl d_is_right.g d_is_right.F.kp d_is_right.b .nil pass0 (pa_cons (pv 2) (pa_cons (pv 3) (pa_cons (pv 1) pa_nil)))))) pa_nil)))), ?_⟩
    refine ⟨_, rfl, _, rfl, r, _, rfl, SqT.of G.rV.t, ?_, fun p1 hp1 => ?_⟩
    · rw [sIx_one (by rw [List.length_cons]; omega)]
      exact fun z => absurd z.1 (by decide)
    rw [cutV_one]
    have s1 := same_new (o := .tup us) hp1
    refine ⟨_, rfl, r, _, 0, .str k, rfl, rfl, SqT.of (s1 _ _ G.rV.t), atI_of (j := 0) rfl rfl, DF, k, .ref T, rfl, rfl, FM.dct hT, p1, T, us, rs.map V.str, rfl, .inr ⟨SqT.of upd_same, hST _, fun D hD => ?_⟩⟩
    refine lc_zipT (xs := us) (ys := rs.map V.str) (by rw [List.length_map]; exact un) (fun i G' => Same (upd H p1 (.tup us)) G' ∧ G' D = some (.lst (List.replicate i (.bl true)))) ⟨same_new hD, upd_same⟩ ?_ ?_ ?_
    · rintro i G' ⟨sG, _⟩
      exact ⟨SqT.of (sG _ _ upd_same), hST G'⟩
    · rintro i x y T2 G' hx hy ⟨sG, hGD⟩ hT2
      obtain ⟨role, hrole, rfl⟩ := get_str hy
      have s2 := same_new (o := .tup [x, .str role]) hT2
      have iu : i < us.length := (List.getElem?_eq_some_iff.mp hx).1
      obtain ⟨d1, M1, hp, hq⟩ := G.rP.at G.rQ hx hrole
      refine ⟨T2, _, rfl, SqT.of upd_same, rfl, _, _, rfl, _, _, rfl, rfl, rfl, yes_of ?_⟩
      have s12 := (s1.trans sG).trans s2
      refine ⟨_, rfl, _, rfl, _, rfl, x, role, a, d1, M1, rfl, hp, hq.same s12, seq_same s12 hS, hw, hf, fun H' s' => ?_⟩
      refine ⟨_, s' _ _ (s2 _ _ hGD), by rw [List.length_replicate]; exact small1000 (by omega), fun b o e => (upd_ne (ne_of_none e hD)).trans (s' _ _ (s2 _ _ (sG _ _ e))), ?_⟩
      rw [upd_same, List.replicate_succ']
    · rintro G' ⟨sG, hGD⟩
      refine ⟨D, List.replicate us.length true, rfl, SqL.of (by rw [hGD, List.map_replicate]), ?_⟩
      have e : (List.replicate us.length true).all id = true := by rw [List.all_eq_true]; exact fun b hb => List.eq_of_mem_replicate hb
      rw [e]
      exact kk G' (s1.trans sG)
set_option maxHeartbeats 4000000 in
theorem ok_has_form {f DF : Addr} {fd : FuncData} {es : Array DictEntry} {nE : Nat} {ws fs : List Str} (F : Fun K "has_form" "has_form" S_has_form f fd) (B : Bl mg) (FM : FormsK K w mg DF es nE) : FnOk P w K mg base CX0 1 f fd P_has_form (spForm ws fs) := by
  refine F.ok sc_has_form (fun vs H Q E h => ?_) (fun cdv A outer s H vs Q E hr h => ?_)
  · obtain ⟨r, d, k, us, rs, ps, L, rfl, _⟩ := h
    rfl
  · obtain ⟨r, d, k, us, rs, ps, L, rfl, G, kk⟩ := h
    obtain ⟨T, hT, hST⟩ := FM.at' G.rV.l
    obtain ⟨f1, f4⟩ := forms_len G.rV.l
    have un := G.rV.n
    have hrt := G.rV.t
    have hk100 : k.length ≤ 1000 := by
      rcases forms_cases G.rV.l with ⟨rfl, _⟩ | ⟨rfl, _⟩ | ⟨rfl, _⟩ | ⟨rfl, _⟩ | ⟨rfl, _⟩ | ⟨rfl, _⟩ | ⟨rfl, _⟩ | ⟨rfl, _⟩ | ⟨rfl, _⟩ <;> decide +kernel
    refine ⟨_, (pss_cons (ps_if (PW.pt (pw_or (pt_not (pt_val (pe_callB call_isi (by rfl) B.m_isinstance (by decide +kernel) (pa_cons (pv 0) (pa_cons (pe_bltn (v := .ty "tuple") (by rfl) B.m_tuple (by decide +kernel) rfl) pa_nil))))) (pw_or1 (pt_cmpR op_eq (pe_callB call_len_seq (by rfl) B.m_len PySem.boot_len (pa_cons (pv 0) pa_nil)) pe_int (nomark _))))) (pss_one (ps_ret pe_bl)) pss_nil)
 (pss_cons (ps_if (PW.pt (pw_or (pt_not (pt_val (pe_callB call_isi (by rfl) B.m_isinstance (by decide +kernel) (pa_cons (pe_ix ix_tup (pv 0) pe_int (fun _ _ => rfl)) (pa_cons (pe_bltn (v := .ty "str") (by rfl) B.m_str (by decide +kernel) rfl) pa_nil))))) (pw_or1 (pt_cmpR (op_notIn_kd FM.k) (pe_ix ix_tup (pv 0) pe_int (fun _ _ => rfl)) (pe_glob (v := .ref DF) rfl FM.g rfl) (by rfl))))) (pss_one (ps_ret pe_bl)) pss_nil)
 (pss_cons (ps_set (i := 1) sc_has_form.nd rfl (by first | exact Or.inl rfl | exact Or.inr rfl) (pe_ix ix_kdict (pe_glob (v := .ref DF) rfl FM.g rfl) (pe_ix ix_tup (pv 0) pe_int (fun _ _ => rfl)) (fun _ _ => rfl)))
 (pss_cons (ps_if (pt_cmpR op_ne (pe_callB call_len_seq (by rfl) B.m_len PySem.boot_len (pa_cons (pv 0) pa_nil)) (pe_op op_add (pe_callB call_len_seq (by rfl) B.m_len PySem.boot_len (pa_cons (pv 1) pa_nil)) pe_int) (nomark _)) (pss_one (ps_ret pe_bl)) pss_nil)
 (pss_one (ps_ret (pe_callB (cr_all rfl) (by rfl) B.m_all (by decide +kernel) (pa_cons (pe_lc (own := [("part", 2), ("role", 3)])  rfl sc_has_form.nd (RZ.pi_zipA (by rfl) B.m_zip (pa_cons (pe_slice sl_tup (pv 0) (po_some pe_int) po_none) (pa_cons (pv 1) pa_nil))) (blkOk_by (own := [("part", 2), ("role", 3)]) (N := N_has_form) (sc := defScope S_has_form) (by decide +kernel)) (fun _ _ _ _ _ => (pg_tupK (K := K) (n := 2) rfl rfl (pgs_cons (pg_name (i := 2) sc_has_form.nd rfl (by first | exact Or.inl rfl | exact Or.inr rfl)) (pgs_cons (pg_name (i := 3) sc_has_form.nd rfl (by first | exact Or.inl rfl | exact Or.inr rfl)) pgs_nil)))) (fun _ _ _ _ _ => pts_one (pt_cmpR op_eq (pv 3) pe_str (nomark _))) (fun _ _ _ _ _ => (pe_callB (call_isiK (K := K) rfl) (by rfl) B.m_isinstance (by decide +kernel) (pa_cons (pv 2) (pa_cons (pe_bltn (v := .ty "list") (by rfl) B.m_list (by decide +kernel) rfl) pa_nil))))) pa_nil)))))))), ?_⟩
    refine ⟨_, rfl, _, _, _, _, _, rfl, .ty "tuple", .base (.tup hrt), kit7_tuple (by decide), _, rfl, ?_⟩
    refine iteF ?_
    refine ⟨_, rfl, r, _, rfl, .inr (SqT.of hrt), rfl, _, rfl, ite_dec (fun hb => absurd (V.int.inj (of_decide_eq_true hb)) (by rw [List.length_cons]; omega)) (fun _ => ?_)⟩
    refine ⟨_, rfl, r, _, 0, .str k, rfl, rfl, SqT.of hrt, atI_of (j := 0) rfl rfl, _, _, _, _, _, rfl, .ty "str", .base (.str k), kit7_str (by decide), _, rfl, ?_⟩
    refine iteF ?_
    refine ⟨_, rfl, r, _, 0, .str k, rfl, rfl, SqT.of hrt, atI_of (j := 0) rfl rfl, k, _, rfl, rfl, hT, _, rfl, iteF ?_⟩
    refine ⟨_, rfl, r, _, 0, .str k, rfl, rfl, SqT.of hrt, atI_of (j := 0) rfl rfl, DF, k, .ref T, rfl, rfl, FM.dct hT, ?_⟩
    refine ⟨_, rfl, r, _, rfl, .inr (SqT.of hrt), _, rfl, T, _, rfl, .inr (hST _), _, _, rfl, rfl, rfl, _, rfl, ite_dec (fun hb => ?_) (fun _ => ?_)⟩
    · have : ((V.str k :: us).length : Int) = ((rs.map V.str).length : Int) + 1 := by
        rw [List.length_cons, List.length_map, un]
        rfl
      rw [this] at hb
      simp at hb
    refine ⟨_, rfl, _, rfl, r, _, rfl, SqT.of hrt, ?_, fun p1 hp1 => ?_⟩
    · rw [sIx_one (by rw [List.length_cons]; omega)]
      exact fun z => absurd z.1 (by decide)
    rw [cutV_one]
    have s1 := same_new (o := .tup us) hp1
    refine ⟨_, rfl, p1, T, us, rs.map V.str, rfl, .inr ⟨SqT.of upd_same, hST _, fun D hD => ?_⟩⟩
    refine lc_zipT (xs := us) (ys := rs.map V.str) (by rw [List.length_map]; exact un) (fun i G' => Same (upd H p1 (.tup us)) G' ∧ ∃ j, j ≤ i ∧ G' D = some (.lst (List.replicate j (.bl true)))) ⟨same_new hD, 0, Nat.le_refl _, upd_same⟩ ?_ ?_ ?_
    · rintro i G' ⟨sG, _⟩
      exact ⟨SqT.of (sG _ _ upd_same), hST G'⟩
    · rintro i x y T2 G' hx hy ⟨sG, j, hj, hGD⟩ hT2
      obtain ⟨role, hrole, rfl⟩ := get_str hy
      have s2 := same_new (o := .tup [x, .str role]) hT2
      have iu : i < us.length := (List.getElem?_eq_some_iff.mp hx).1
      obtain ⟨d1, M1, hp, hq⟩ := G.rP.at G.rQ hx hrole
      refine ⟨T2, _, rfl, SqT.of upd_same, rfl, _, _, rfl, _, _, rfl, rfl, rfl, ?_⟩
      have s12 := (s1.trans sG).trans s2
      refine ⟨_, rfl, rfl, _, rfl, ite_dec (fun hb => ?_) (fun hb => ⟨sG.trans s2, j, Nat.le_succ_of_le hj, s2 _ _ hGD⟩)⟩
      have hz : role = "rows" := V.str.inj (of_decide_eq_true hb)
      obtain ⟨pa, ys, rfl, hpa⟩ : ∃ pa ys, x = .ref pa ∧ H pa = some (.lst ys) := by
        cases hp with
        | var h => exact absurd hz (by decide +kernel)
        | field h => exact absurd hz (by decide +kernel)
        | kind h => exact absurd hz (by decide +kernel)
        | depth _ _ => exact absurd hz (by decide +kernel)
        | reader h => exact absurd hz (by decide +kernel)
        | rows =>
          cases hq with
          | lst e _ => exact ⟨_, _, rfl, e⟩
      refine ⟨_, rfl, _, _, _, _, _, rfl, .ty "list", .base (.lst (s12 _ _ hpa)), kit7_list (by decide), List.replicate j (.bl true), s2 _ _ hGD, by rw [List.length_replicate]; exact small1000 (by omega), fun b o e => (upd_ne (ne_of_none e hD)).trans (s2 _ _ (sG _ _ e)), j + 1, Nat.succ_le_succ hj, ?_⟩
      rw [upd_same, List.replicate_succ']
      rfl
    · rintro G' ⟨sG, j, hj, hGD⟩
      refine ⟨D, List.replicate j true, rfl, SqL.of (by rw [hGD, List.map_replicate]), ?_⟩
      have e : (List.replicate j true).all id = true := by rw [List.all_eq_true]; exact fun b hb => List.eq_of_mem_replicate hb
      rw [e]
      exact kk G' (s1.trans sG)
end
end TW
set_option Elab.async false
set_option linter.all false
set_option maxRecDepth 100000
namespace L2
open PySem PySem.Spec PyProof.Rows
section
variable {X : Cx}
/-- xs.count(x), flat items -/
def rCountL (K : PySem.W.Frag) : V → List V → Hp → VK → Prop := fun x xs H Q => ∃ (a : Addr) (ys : List V) (y : V), x = V.ref a ∧ xs = [y] ∧ SqL K H a ys ∧ flatV y = true ∧ ys.all flatV = true ∧ Q (.int ((ys.countP fun z => eqV z y : Nat) : Int)) H
theorem countU {y : V} {uy : Value} (ry : RelV y uy) : ∀ {ys : List V} {its : List Value}, Vals ys its → ys.all flatV = true → its.countP (eqU y) = ys.countP fun z => eqV z y
  | _, _, .nil, _ => rfl
  | z :: ys, u :: its, .cons r t, f => by
    rw [List.all_cons, Bool.and_eq_true] at f
    rw [List.countP_cons, List.countP_cons, countU ry t f.2, eqU_of r f.1]
theorem mt_countL : MtR X "list.count" (rCountL X.K) := by
  intro pins s σ H x xs v us Q I rx rxs h
  obtain ⟨a, ys, y, rfl, rfl, hs, fy, fys, q⟩ := h
  cases rx
  cases rxs with
  | cons ry rt =>
    rename_i uy ut
    cases rt
    obtain ⟨its, rv, ⟨⟨cls, dd, data, sl⟩, n, ho, hc, hdn, hd⟩, hlen⟩ := I.list hs
    simp only at hc hd
    subst hc hd
    refine call_meets PySem.F.slot_list_count ⟨_, ho, rfl⟩ PySem.F.entry_list_count (PySem.F.args_list_count_2 _ _)
      (SeqAt.list_countAt a its.toArray n dd sl uy (eqU y)) ⟨ho, fun u' hu' => mem_eqAt ry fy rv fys u' (by simpa using hu'), ?_⟩
    refine ⟨.int ((its.toArray.toList.countP (eqU y) : Nat) : Int), H, I.tok _, ⟨_, rfl⟩, ?_⟩
    rw [show its.toArray.toList = its from rfl, countU ry rv fys]
    exact q
end
end L2
namespace TW
open PySem PySem.Spec PyProof.Rows L2 TL
theorem op_catAK {X : Cx} {K : PySem.W.Frag} (h : X.K = K) : OpR X (binaryOp .Add) (rCatA K) := h ▸ op_catA
/-- a loop over enumerate(list) -/
theorem for_enumL {K : PySem.W.Frag} {a : Addr} {xs : List V} {g : TG} {tb : TS} {D : Ends} {σ : L2.St} {H : Hp} (Pv : Nat → L2.St → Hp → Prop) (h0 : Pv 0 σ H) (hq : ∀ i σ H, Pv i σ H → SqL K H a xs)
    (hs : ∀ (i : Nat) (x : V) (T : Addr) (σ : L2.St) (H : Hp), xs[i]? = some x → Pv i σ H → H T = none → g (.ref T) σ (upd H T (.tup [.int (i : Nat), x])) fun σ2 H2 => tb { D with nx := Pv (i + 1), ct := Pv (i + 1), bk := D.nx } σ2 H2) (hd : ∀ σ H, Pv xs.length σ H → D.nx σ H) :
    ∃ W : Nat → Nat → L2.St → Hp → Prop, (∃ m, W 0 m σ H) ∧ ∀ i m σ H, W i m σ H →
      ((Ite K a).stop i H ∧ D.nx σ H) ∨ ((Ite K a).go i H ∧ ∃ N : L2.St → Hp → Prop, (∀ σ' H', N σ' H' → ∃ m', m' < m ∧ W (i + 1) m' σ' H') ∧ ∀ v H', (Ite K a).yld i H v H' → g v σ H' fun σ2 H2 => tb { D with nx := N, ct := N, bk := D.nx } σ2 H2) := by
  refine ⟨fun i m σ H => m = xs.length - i ∧ i ≤ xs.length ∧ Pv i σ H, ⟨xs.length, rfl, Nat.zero_le _, h0⟩, ?_⟩
  rintro i m σ H ⟨rfl, hi, p⟩
  have qx := hq i σ H p
  by_cases hlt : i < xs.length
  · have hx : xs[i]? = some xs[i] := List.getElem?_eq_getElem hlt
    refine .inr ⟨⟨xs, _, qx, hx⟩, Pv (i + 1), fun σ' H' p' => ⟨xs.length - (i + 1), by omega, rfl, hlt, p'⟩, fun v H' hv => ?_⟩
    obtain ⟨T, x, rfl, hT, rfl, h1⟩ := hv
    exact hs i x T σ H (h1 _ qx) p hT
  · have e : i = xs.length := by omega
    subst e
    exact .inl ⟨⟨xs, qx, Nat.le_refl _⟩, hd σ H p⟩
/-- a comprehension over enumerate(list) -/
theorem lc_enumL {K : PySem.W.Frag} {a : Addr} {xs : List V} {g : TG} {tt : TT} {te : TE} {vs : List Nat} {σ : L2.St} {H1 : Hp} {D : Addr} {Qd : Hp → Prop} (Pv : Nat → Hp → Prop) (h0 : Pv 0 (upd H1 D (.lst []))) (hq : ∀ i H, Pv i H → SqL K H a xs)
    (hs : ∀ (i : Nat) (x : V) (T : Addr) (H : Hp), xs[i]? = some x → Pv i H → H T = none → g (.ref T) (wipe σ vs) (upd H T (.tup [.int (i : Nat), x])) fun σ2 H2 => wipe σ2 vs = wipe σ vs ∧ tt σ2 H2 fun b H3 =>
      if b = true then te σ2 H3 fun y H4 => ∃ acc, H4 D = some (.lst acc) ∧ acc.length < sizeLine ∧ Pv (i + 1) (upd H4 D (.lst (acc ++ [y]))) else Pv (i + 1) H3) (hd : ∀ H, Pv xs.length H → Qd H) :
    ∃ W : Nat → Nat → Hp → Prop, (∃ m, W 0 m (upd H1 D (.lst []))) ∧ ∀ i m H, W i m H →
      ((Ite K a).stop i H ∧ Qd H) ∨ ((Ite K a).go i H ∧ ∃ Nx : Hp → Prop, (∀ H', Nx H' → ∃ m', m' < m ∧ W (i + 1) m' H') ∧ ∀ y H', (Ite K a).yld i H y H' → g y (wipe σ vs) H' fun σ2 H2 => wipe σ2 vs = wipe σ vs ∧ tt σ2 H2 fun b H3 =>
        if b = true then te σ2 H3 fun y H4 => ∃ acc, H4 D = some (.lst acc) ∧ acc.length < sizeLine ∧ Nx (upd H4 D (.lst (acc ++ [y]))) else Nx H3) := by
  refine ⟨fun i m H => m = xs.length - i ∧ i ≤ xs.length ∧ Pv i H, ⟨xs.length, by simp, Nat.zero_le _, h0⟩, ?_⟩
  rintro i m H ⟨rfl, hi, p⟩
  have qa := hq i H p
  by_cases hlt : i < xs.length
  · have hx : xs[i]? = some xs[i] := List.getElem?_eq_getElem hlt
    refine .inr ⟨⟨xs, _, qa, hx⟩, Pv (i + 1), fun H' p' => ⟨xs.length - (i + 1), by omega, rfl, hlt, p'⟩, fun v H' hv => ?_⟩
    obtain ⟨T, x, rfl, hT, rfl, h1⟩ := hv
    exact hs i x T H (h1 _ qa) p hT
  · have e : i = xs.length := by omega
    subst e
    exact .inl ⟨⟨xs, qa, Nat.le_refl _⟩, hd H p⟩
end TW
set_option Elab.async false
set_option linter.all false
set_option maxRecDepth 100000
namespace TW
open PySem PySem.Spec PyProof.Rows L2 TL
/-- rows with their places, on one level -/
def placed (bs : List Int) (ds : List PyData) : List (List Int × PyData) := ds.zipIdx.map fun p => (bs ++ [(p.2 : Int)], p.1)
def innerP (bs : List Int) (d : PyData) : List (List Int × PyData) := placed (bs ++ [0]) (inner d).1 ++ placed (bs ++ [1]) (inner d).2
theorem placed_take {bs : List Int} {ds : List PyData} {i : Nat} {d : PyData} (h : ds[i]? = some d) : placed bs (ds.take (i + 1)) = placed bs (ds.take i) ++ [(bs ++ [(i : Int)], d)] := by
  have hi : i < ds.length := (List.getElem?_eq_some_iff.mp h).1
  have e : (ds.take i).length = i := by rw [List.length_take]; omega
  unfold placed
  rw [take_next h, List.zipIdx_append, List.map_append]
  simp [e]
theorem placed_len {bs : List Int} {ds : List PyData} : (placed bs ds).length = ds.length := by
  unfold placed
  rw [List.length_map, List.length_zipIdx]
def spPlaced (K : PySem.W.Frag) : Sp := fun vs H Q _ => ∃ (a q : Addr) (ds : List PyData) (L : List Addr) (bs : List Int), vs = [.ref a, .ref q] ∧ Dq H (.ref a) (.list ds) L ∧ SqT K H q (bs.map V.int) ∧ ds.length ≤ 100 ∧ bs.length ≤ 90 ∧
  ∀ (b : Addr) (ys : List V) (M : List Addr) (H' : Hp), Same H H' → H b = none → H' b = some (.lst ys) → DqAll H' ys ((placed bs ds).map pd) M → (∀ x ∈ M, x ∈ L) → Q (.ref b) H'
abbrev S_placed_rows : Stmt := topS 46
abbrev N_placed_rows : List Str := ["rows", "place", "index", "row"]
abbrev P_placed_rows : List Str := ["rows", "place"]
theorem sc_placed_rows : FnScope N_placed_rows P_placed_rows (defScope S_placed_rows) := ⟨rfl, rfl, rfl, by decide +kernel, rfl, by decide +kernel, by decide +kernel⟩
section
variable {P : Program} {w : World} {K : PySem.W.Frag} {mg : Str → Option Value} {base : Heap}
set_option maxHeartbeats 4000000 in
theorem ok_placed_rows {f : Addr} {fd : FuncData} (F : Fun K "placed_rows" "placed_rows" S_placed_rows f fd) (B : Bl mg) : FnOk P w K mg base CX0 1 f fd P_placed_rows (spPlaced K) := by
  refine F.ok sc_placed_rows (fun vs H Q E h => ?_) (fun cdv A outer s H vs Q E hr h => ?_)
  · obtain ⟨a, q, ds, L, bs, rfl, _⟩ := h
    rfl
  · obtain ⟨a, q, ds, L, bs, rfl, hd, hq, l100, b90, kk⟩ := h
    have hthere := hd.there
    cases hd with
    | @lst _ xs _ L0 ha da =>
    refine ⟨_, (pss_one (ps_ret (pe_lc (own := [("index", 2), ("row", 3)]) (tt := tYes) rfl sc_placed_rows.nd (pi_enum (by rfl) B.m_enumerate (pa_cons (pv 0) pa_nil)) (blkOk_by (own := [("index", 2), ("row", 3)]) (N := N_placed_rows) (sc := defScope S_placed_rows) (by decide +kernel)) (fun _ _ _ _ _ => (pg_tupK (K := K) (n := 2) rfl rfl (pgs_cons (pg_name (i := 2) sc_placed_rows.nd rfl (by first | exact Or.inl rfl | exact Or.inr rfl)) (pgs_cons (pg_name (i := 3) sc_placed_rows.nd rfl (by first | exact Or.inl rfl | exact Or.inr rfl)) pgs_nil)))) (fun _ _ _ _ _ => pts_nil) (fun _ _ _ _ _ => (pe_tup (pa_cons (pe_op (op_catAK (K := K) rfl) (pv 1) (pe_tup (pa_cons (pv 2) pa_nil))) (pa_cons (pv 3) pa_nil))))))), ?_⟩
    refine ⟨_, rfl, a, xs, rfl, SqL.of ha, fun D hD => ?_⟩
    refine lc_enumL (xs := xs) (fun i G => ∃ (acc : List V) (M : List Addr), Same H G ∧ G D = some (.lst acc) ∧ DqAll G acc ((placed bs (ds.take i)).map pd) M ∧ (∀ x ∈ M, x ∈ L0)) ⟨[], [], same_new hD, upd_same, .nil, fun x m => nomatch m⟩ ?_ ?_ ?_
    · rintro i G ⟨acc, M, sG, _⟩
      exact SqL.of (sG _ _ ha)
    · rintro i x T G hx ⟨acc, M, sG, hGD, dac, sub⟩ hT
      have s1 := same_new (o := .tup [.int (i : Nat), x]) hT
      obtain ⟨d, N, hd, hqx, sN⟩ := da.get hx
      refine ⟨T, _, rfl, SqT.of upd_same, rfl, _, _, rfl, _, _, rfl, rfl, rfl, yes_of ?_⟩
      refine ⟨_, rfl, _, rfl, (by show 1 ≤ sizeLine; decide), fun t1 ht1 => ?_⟩
      have s2 := s1.trans (same_new (o := .tup [.int (i : Nat)]) ht1)
      have al : acc.length ≤ 100 := by
        have h1 := dac.len
        rw [List.length_map, placed_len, List.length_take] at h1
        omega
      have fin : ∀ {G2 : Hp} {pl : Addr}, Same G G2 → G2 pl = some (.tup ((bs ++ [(i : Int)]).map V.int)) → ∀ t3, G2 t3 = none → ∃ acc', (upd G2 t3 (.tup [.ref pl, x])) D = some (.lst acc') ∧ acc'.length < sizeLine ∧ ∃ (acc2 : List V) (M2 : List Addr), Same H (upd (upd G2 t3 (.tup [.ref pl, x])) D (.lst (acc' ++ [.ref t3]))) ∧
          (upd (upd G2 t3 (.tup [.ref pl, x])) D (.lst (acc' ++ [.ref t3]))) D = some (.lst acc2) ∧ DqAll (upd (upd G2 t3 (.tup [.ref pl, x])) D (.lst (acc' ++ [.ref t3]))) acc2 ((placed bs (ds.take (i + 1))).map pd) M2 ∧ (∀ x ∈ M2, x ∈ L0) := by
        intro G2 pl sG2 hpl t3 ht3
        have s3 := sG2.trans (same_new (o := .tup [.ref pl, x]) ht3)
        have hD3 := s3 _ _ hGD
        refine ⟨acc, hD3, small1000 (by omega), acc ++ [.ref t3], M ++ (N ++ []), fun b o e => (upd_ne (ne_of_none e hD)).trans (s3 _ _ (sG _ _ e)), upd_same, ?_, fun x m => ?_⟩
        · have kp : ∀ {X : List Addr}, (∀ x ∈ X, x ∈ L0) → KeepL X (upd G2 t3 (.tup [.ref pl, x])) (upd (upd G2 t3 (.tup [.ref pl, x])) D (.lst (acc ++ [.ref t3]))) := fun h => by
            refine ⟨fun b m => upd_ne fun z => ?_, fun b us e => (upd_ne (fun z : b = D => by rw [z, hD3] at e; cases e)).trans e⟩
            obtain ⟨us, e⟩ := hthere b (List.mem_cons_of_mem _ (h b m))
            rw [z, hD] at e
            cases e
          rw [placed_take hd, List.map_append]
          have k0 := kp (X := []) (fun x m => nomatch m)
          refine ((dac.same s3).keep (kp sub)).snoc (.tup (k0.t _ _ upd_same) (.cons (L := []) (.tup (k0.t _ _ ((upd_ne (ne_of_none hpl ht3)).trans hpl)) (dq_ints _)) (.cons ((hqx.same (sG.trans s3)).keep (kp sN)) .nil)))
        · rcases List.mem_append.mp m with m | m
          · exact sub x m
          · rw [List.append_nil] at m
            exact sN x m
      refine ⟨q, t1, bs.map V.int, [.int (i : Int)], rfl, rfl, sqt_same (sG.trans s2) hq, SqT.of upd_same, ?_, fun e => ?_, fun _ e => (nomatch e), fun _ _ p2 hp2 => ?_⟩
      · rw [List.length_map]
        exact Nat.le_of_lt (small1000 (by show bs.length + 1 ≤ 1000; omega))
      · refine ⟨_, rfl, (by show 2 ≤ sizeLine; decide), fun t3 ht3 => fin s2 ?_ t3 ht3⟩
        rw [upd_same, List.map_append, e]
        rfl
      · refine ⟨_, rfl, (by show 2 ≤ sizeLine; decide), fun t3 ht3 => fin (s2.trans (same_new hp2)) ?_ t3 ht3⟩
        rw [upd_same, List.map_append]
        rfl
    · rintro G ⟨acc, M, sG, hGD, dac, sub⟩
      rw [da.len, List.take_length] at dac
      exact kk D acc M G sG hD hGD dac fun x m => List.mem_cons_of_mem _ (sub x m)
end
def spInnerR (K : PySem.W.Frag) (ws fs : List Str) : Sp := fun vs H Q _ => ∃ (n : Nat) (v : V) (q : Addr) (d : PyData) (L : List Addr) (bs : List Int), vs = [v, .ref q] ∧ OkR ws fs d ∧ RowD n d ∧ Dq H v d L ∧ SqT K H q (bs.map V.int) ∧ bs.length ≤ 80 ∧
  ∀ (b : Addr) (ys : List V) (M : List Addr) (H' : Hp), Same H H' → H b = none → H' b = some (.lst ys) → DqAll H' ys ((innerP bs d).map pd) M → (∀ x ∈ M, x ∈ L) → Q (.ref b) H'
abbrev S_inner_rows : Stmt := topS 48
abbrev N_inner_rows : List Str := ["row", "place", "found", "branch", "rows"]
abbrev P_inner_rows : List Str := ["row", "place"]
theorem sc_inner_rows : FnScope N_inner_rows P_inner_rows (defScope S_inner_rows) := ⟨rfl, rfl, rfl, by decide +kernel, rfl, by decide +kernel, by decide +kernel⟩
section
variable {P : Program} {w : World} {K : PySem.W.Frag} {mg : Str → Option Value} {base : Heap}
set_option maxHeartbeats 4000000 in
theorem ok_inner_rows {f fB fP : Addr} {fd fdB fdP : FuncData} {ws fs : List Str} (F : Fun K "inner_rows" "inner_rows" S_inner_rows f fd) (B : Bl mg) (d_branches : Df K mg "branches" S_branches fB fdB P_branches) (G_branches : FnOk P w K mg base CX0 1 fB fdB P_branches (spPartsOf "rows"))
    (d_placed_rows : Df K mg "placed_rows" S_placed_rows fP fdP P_placed_rows) (G_placed_rows : FnOk P w K mg base CX0 1 fP fdP P_placed_rows (spPlaced K)) : FnOk P w K mg base CX0 2 f fd P_inner_rows (spInnerR K ws fs) := by
  refine F.ok sc_inner_rows (fun vs H Q E h => ?_) (fun cdv A outer s H vs Q E hr h => ?_)
  · obtain ⟨n, v, q, d, L, bs, rfl, _⟩ := h
    rfl
  · obtain ⟨n, v, q, d, L, bs, rfl, ok, rd, hq, hbs, b80, kk⟩ := h
    have hr_branches : Room 1 _ := hr.mono (by decide)
    have hr_placed_rows : Room 1 _ := hr.mono (by decide)
    have hthere := hq.there
    obtain ⟨r, k, us, rs, ps, rfl, G, alt⟩ := row_view ok rd hq
    -- the lists inside
    obtain ⟨lds, L', hl, sub0, each, ein⟩ : ∃ (lds : List PyData) (L' : List Addr), DqAll H (pick "rows" us rs) lds L' ∧ (∀ x ∈ L', x ∈ L) ∧ (∀ ld ∈ lds, ∃ cs : List PyData, ld = .list cs ∧ cs.length ≤ 100) ∧
        ((lds = [] ∧ inner d = ([], [])) ∨ ∃ as bs, lds = [.list as, .list bs] ∧ inner d = (as, bs)) := by
      rcases alt with ⟨e1, e2, e3, n1, n2⟩ | ⟨m, u1, pa, pb, as, bs, La, Lb, rfl, rfl, e1, B2, e2, e3, ps0, rfl, d0⟩
      · exact ⟨[], [], by rw [e1]; exact .nil, fun _ m => (nomatch m), fun _ m => (nomatch m), .inl ⟨rfl, e3⟩⟩
      · refine ⟨[.list as, .list bs], _, by rw [e1]; exact .cons B2.a (.cons B2.b .nil), fun x m => by rw [e2]; rwa [List.append_nil] at m, fun ld h => ?_, .inr ⟨as, bs, rfl, e3⟩⟩
        rcases List.mem_cons.mp h with rfl | h
        · exact ⟨as, rfl, B2.la⟩
        · rw [List.mem_singleton.mp h]
          exact ⟨bs, rfl, B2.lb⟩
    obtain ⟨pf, hpf⟩ : ∃ pf : List PyData → List (List Int × PyData), pf = fun l => (l.zipIdx.flatMap fun p => match p.1 with | .list cs => placed (bs ++ [(p.2 : Int)]) cs | _ => []) := ⟨_, rfl⟩
    have pf_take : ∀ {i : Nat} {cs : List PyData}, lds[i]? = some (.list cs) → pf (lds.take (i + 1)) = pf (lds.take i) ++ placed (bs ++ [(i : Int)]) cs := by
      intro i cs h
      have hi : i < lds.length := (List.getElem?_eq_some_iff.mp h).1
      have e : (lds.take i).length = i := by rw [List.length_take]; omega
      rw [hpf]
      show ((lds.take (i + 1)).zipIdx.flatMap _) = (lds.take i).zipIdx.flatMap _ ++ _
      rw [take_next h, List.zipIdx_append, List.flatMap_append]
      simp [e]
    have pf_all : pf lds = innerP bs d := by
      rcases ein with ⟨e1, e2⟩ | ⟨as, bs', e1, e2⟩
      · rw [e1, hpf]
        unfold innerP
        rw [e2]
        rfl
      · rw [e1, hpf]
        unfold innerP
        rw [e2]
        simp
    have l2 : lds.length ≤ 2 := by
      rcases ein with ⟨e1, _⟩ | ⟨as, bs', e1, _⟩ <;> rw [e1] <;> simp
    have pf_len : ∀ i, (pf (lds.take i)).length ≤ 200 := by
      intro i
      have hle : ∀ l : List PyData, (∀ ld ∈ l, ∃ cs : List PyData, ld = .list cs ∧ cs.length ≤ 100) → ∀ k, ((l.zipIdx k).flatMap fun p => match p.1 with | .list cs => placed (bs ++ [(p.2 : Int)]) cs | _ => []).length ≤ 100 * l.length := by
        intro l
        induction l with
        | nil => intro _ k; exact Nat.le_refl _
        | cons x l ih =>
          intro h k
          obtain ⟨cs, rfl, c100⟩ := h x (List.mem_cons_self ..)
          have := ih (fun ld m => h ld (List.mem_cons_of_mem _ m)) (k + 1)
          rw [List.zipIdx_cons, List.flatMap_cons, List.length_append, List.length_cons]
          show (placed _ cs).length + _ ≤ _
          rw [placed_len]
          omega
      have h1 := hle (lds.take i) (fun ld m => each ld (List.mem_of_mem_take m)) 0
      rw [hpf]
      have h2 : (lds.take i).length ≤ 2 := Nat.le_trans (by rw [List.length_take]; exact Nat.min_le_right _ _) l2
      exact Nat.le_trans h1 (by omega)
    refine ⟨_, (pss_cons (ps_set (i := 2) sc_inner_rows.nd rfl (by first | exact Or.inl rfl | exact Or.inr rfl) (pe_lst pa_nil))
 (pss_cons (ps_for PassesOwn.never rfl (pi_enum (by rfl) B.m_enumerate (pa_cons (pe_call G_branches hr_branches rfl d_branches.g d_branches.F.kp d_branches.b .nil pass0 (pa_cons (pv 0) pa_nil)) pa_nil)) (pg_tup rfl (pgs_cons (pg_name (i := 3) sc_inner_rows.nd rfl (by first | exact Or.inl rfl | exact Or.inr rfl)) (pgs_cons (pg_name (i := 4) sc_inner_rows.nd rfl (by first | exact Or.inl rfl | exact Or.inr rfl)) pgs_nil))) (pss_one (ps_expr (pe_bm PySem.F.plainAttrs_list PySem.F.slot_list_extend PySem.F.type_list_extend mt_extend (pv 2) (pa_cons (pe_call G_placed_rows hr_placed_rows rfl d_placed_rows.g d_placed_rows.F.kp d_placed_rows.b .nil pass0 (pa_cons (pv 4) (pa_cons (pe_op op_catA (pv 1) (pe_tup (pa_cons (pv 3) pa_nil))) pa_nil))) pa_nil)))))
 (pss_one (ps_ret (pv 2))))), ?_⟩
    refine ⟨Nat.zero_le _, fun R hR => ?_⟩
    have s0 := same_new (o := .lst []) hR
    refine ⟨_, rfl, r, k, us, rs, rfl, G.rV.same s0, fun b H1 s1 hb h1 => ⟨b, _, rfl, SqL.of h1, ?_⟩⟩
    have s01 := s0.trans s1
    refine for_enumL (xs := pick "rows" us rs) (fun i σ G2 => ∃ (z3 z4 : Option V) (ys : List V) (M : List Addr), σ = [some (.ref r), some (.ref q), some (.ref R), z3, z4] ∧ Same H G2 ∧ G2 b = some (.lst (pick "rows" us rs)) ∧ G2 R = some (.lst ys) ∧ DqAll G2 ys ((pf (lds.take i)).map pd) M ∧ (∀ x ∈ M, x ∈ L)) ⟨_, _, [], [], rfl, s01, h1, s1 _ _ upd_same, ?_, fun x m => nomatch m⟩ ?_ ?_ ?_
    · rw [hpf]
      exact .nil
    · rintro i σ G2 ⟨z3, z4, ys, M, rfl, s2, h2, hy, dy, sub⟩
      exact SqL.of h2
    · rintro i x T σ G2 hx ⟨z3, z4, ys, M, rfl, s2, h2, hy, dy, sub⟩ hT
      have s3 := same_new (o := .tup [.int (i : Nat), x]) hT
      obtain ⟨ld, N, hld, hqx, sN⟩ := hl.get hx
      obtain ⟨cs, rfl, c100⟩ := each ld (List.mem_of_getElem? hld)
      obtain ⟨pa, rfl⟩ : ∃ pa, x = .ref pa := by cases hqx; exact ⟨_, rfl⟩
      have bR : b ≠ R := fun z => by rw [z, upd_same] at hb; cases hb
      refine ⟨T, _, rfl, SqT.of upd_same, rfl, _, _, rfl, _, _, rfl, rfl, ?_⟩
      refine ⟨_, rfl, .inl ⟨rfl, _, SqL.of (s3 _ _ hy)⟩, _, rfl, _, rfl, _, rfl, (by show 1 ≤ sizeLine; decide), fun t1 ht1 => ?_⟩
      have s4 := s3.trans (same_new (o := .tup [.int (i : Nat)]) ht1)
      have done : ∀ {G4 G5 : Hp} {b5 : Addr} {ys5 : List V} {M5 : List Addr}, Same G2 G4 → Same G4 G5 → G4 b5 = none → G5 b5 = some (.lst ys5) → DqAll G5 ys5 ((placed (bs ++ [(i : Int)]) cs).map pd) M5 → (∀ x ∈ M5, x ∈ L) →
          ys.length + ys5.length ≤ sizeLine ∧ ∃ (z3 z4 : Option V) (ys' : List V) (M' : List Addr), [some (.ref r), some (.ref q), some (.ref R), some (.int (i : Nat)), some (.ref pa)] = [some (.ref r), some (.ref q), some (.ref R), z3, z4] ∧ Same H (upd G5 R (.lst (ys ++ ys5))) ∧ (upd G5 R (.lst (ys ++ ys5))) b = some (.lst (pick "rows" us rs)) ∧ (upd G5 R (.lst (ys ++ ys5))) R = some (.lst ys') ∧ DqAll (upd G5 R (.lst (ys ++ ys5))) ys' ((pf (lds.take (i + 1))).map pd) M' ∧ (∀ x ∈ M', x ∈ L) := by
        intro G4 G5 b5 ys5 M5 sa sb hb5 h5 d5 sub5
        have sab := sa.trans sb
        have hR5 := sab _ _ hy
        refine ⟨?_, _, _, ys ++ ys5, M ++ M5, rfl, fun x o e => (upd_ne (ne_of_none e hR)).trans (sab _ _ (s2 _ _ e)), (upd_ne bR).trans (sab _ _ h2), upd_same, ?_, fun x m => (List.mem_append.mp m).elim (sub x) (sub5 x)⟩
        · have h1 := dy.len
          have h2 := d5.len
          rw [List.length_map] at h1 h2
          rw [placed_len] at h2
          have := pf_len i
          exact Nat.le_of_lt (small1000 (by omega))
        · have kp : ∀ {X : List Addr}, (∀ x ∈ X, x ∈ L) → KeepL X G5 (upd G5 R (.lst (ys ++ ys5))) := fun h => by
            refine ⟨fun b m => upd_ne fun z => ?_, fun b us e => (upd_ne (fun z : b = R => by rw [z, hR5] at e; cases e)).trans e⟩
            obtain ⟨us, e⟩ := hthere b (h b m)
            rw [z, hR] at e
            cases e
          rw [pf_take hld, List.map_append]
          exact ((dy.same sab).keep (kp sub)).append (d5.keep (kp sub5))
      refine ⟨q, t1, bs.map V.int, [.int (i : Int)], rfl, rfl, sqt_same (s2.trans s4) hbs, SqT.of upd_same, ?_, fun e => ?_, fun _ e => (nomatch e), fun _ _ p2 hp2 => ?_⟩
      · rw [List.length_map]
        exact Nat.le_of_lt (small1000 (by show bs.length + 1 ≤ 1000; omega))
      · refine ⟨pa, t1, cs, N, bs ++ [(i : Int)], rfl, hqx.same (s2.trans s4), SqT.of (by rw [upd_same, List.map_append, e]; rfl), c100, by rw [List.length_append]; show bs.length + 1 ≤ 90; omega, fun b5 ys5 M5 G5 s5 hb5 h5 d5 sub5 => ?_⟩
        obtain ⟨z1, z2⟩ := done s4 s5 hb5 h5 d5 fun x m => sub0 x (sN x (sub5 x m))
        exact ⟨R, b5, ys, ys5, rfl, rfl, (s4.trans s5) _ _ hy, h5, z1, z2⟩
      · have s6 := s4.trans (same_new (o := .tup (bs.map V.int ++ [V.int (i : Int)])) hp2)
        refine ⟨pa, p2, cs, N, bs ++ [(i : Int)], rfl, hqx.same (s2.trans s6), SqT.of (by rw [upd_same, List.map_append]; rfl), c100, by rw [List.length_append]; show bs.length + 1 ≤ 90; omega, fun b5 ys5 M5 G5 s5 hb5 h5 d5 sub5 => ?_⟩
        obtain ⟨z1, z2⟩ := done s6 s5 hb5 h5 d5 fun x m => sub0 x (sN x (sub5 x m))
        exact ⟨R, b5, ys, ys5, rfl, rfl, (s6.trans s5) _ _ hy, h5, z1, z2⟩
    · rintro σ G2 ⟨z3, z4, ys, M, rfl, s2, h2, hy, dy, sub⟩
      rw [hl.len, List.take_length, pf_all] at dy
      exact ⟨_, rfl, kk R ys M G2 s2 hR hy dy sub⟩
end
end TW
set_option Elab.async false
set_option linter.all false
set_option maxRecDepth 100000
namespace TW
open PySem PySem.Spec PyProof.Rows L2 TL
def spCheck (K : PySem.W.Frag) (ws fs : List Str) : Sp := fun vs H Q _ => ∃ (n : Nat) (v : V) (q a rd : Addr) (d : PyData) (L : List Addr) (bs : List Int) (rs : List Str), vs = [v, .ref q, .ref a, .ref rd] ∧ OkR ws fs d ∧ RowD n d ∧ Dq H v d L ∧ SqT K H q (bs.map V.int) ∧ bs.length ≤ 7 ∧
  (SqL K H a (fs.map V.str) ∨ SqT K H a (fs.map V.str)) ∧ (∀ x ∈ ws, IsW x) ∧ (∀ x ∈ fs, IsW x) ∧ H rd = some (.lst (rs.map V.str)) ∧ (∀ x ∈ readersOf d, x ∉ rs) ∧ ∀ H', Same H H' → Q .non H'
abbrev S_check_row : Stmt := topS 64
abbrev N_check_row : List Str := ["row", "place", "fields", "readers"]
abbrev P_check_row : List Str := ["row", "place", "fields", "readers"]
theorem sc_check_row : FnScope N_check_row P_check_row (defScope S_check_row) := ⟨rfl, rfl, rfl, by decide +kernel, rfl, by decide +kernel, by decide +kernel⟩
theorem part_reader {ws fs : List Str} {H : Hp} {r : Str} {d : PyData} {v : V} {L : List Addr} (h : PartOk ws fs r d) (q : Dq H v d L) (e : r = "reader") : v = .str (strD d) ∧ IsW (strD d) := by
  cases h with
  | reader h => cases q; exact ⟨rfl, h⟩
  | var h => exact absurd e (by decide +kernel)
  | kind h => exact absurd e (by decide +kernel)
  | depth _ _ => exact absurd e (by decide +kernel)
  | field h => exact absurd e (by decide +kernel)
  | rows => exact absurd e (by decide +kernel)
theorem readers_v {H : Hp} {k : Str} {us : List V} {ps : List PyData} {L : List Addr} {ws fs : List Str} {rs : List Str} (hl : formsT.lookup k = some rs) (hp : PartsOk ws fs rs ps) (q : DqAll H us ps L) (hk : k = "watch") : ∃ z, us[0]? = some (.str z) ∧ readersOf (.tuple (.str k :: ps)) = [z] := by
  subst hk
  rcases forms_cases hl with ⟨e, _⟩ | ⟨e, _⟩ | ⟨e, _⟩ | ⟨e, _⟩ | ⟨e, _⟩ | ⟨e, _⟩ | ⟨e, rfl⟩ | ⟨e, _⟩ | ⟨e, _⟩
  all_goals first | (exact absurd e (by decide +kernel)) | skip
  obtain _ | ⟨p1, hp⟩ := hp
  obtain _ | ⟨q1, q⟩ := q
  have e1 := (part_reader p1 q1 rfl).1
  exact ⟨_, by rw [e1]; rfl, if_pos rfl⟩
theorem readers_none {k : Str} {ps : List PyData} (hk : ¬ k = "watch") : readersOf (.tuple (.str k :: ps)) = [] := if_neg hk
section
variable {P : Program} {w : World} {K : PySem.W.Frag} {mg : Str → Option Value} {base : Heap}
set_option maxHeartbeats 4000000 in
theorem ok_check_row {f fF fN : Addr} {fd fdF fdN : FuncData} {t : Tok} {ws fs : List Str} (F : Fun K "check_row" "check_row" S_check_row f fd) (B : Bl mg) (m_LONGEST_PLACE : mg "LONGEST_PLACE" = some (.int 7 t))
    (d_has_form : Df K mg "has_form" S_has_form fF fdF P_has_form) (G_has_form : FnOk P w K mg base CX0 1 fF fdF P_has_form (spForm ws fs)) (d_has_names : Df K mg "has_names" S_has_names fN fdN P_has_names) (G_has_names : FnOk P w K mg base CX0 5 fN fdN P_has_names (spNamesR K ws fs)) :
    FnOk P w K mg base CX0 6 f fd P_check_row (spCheck K ws fs) := by
  refine F.ok sc_check_row (fun vs H Q E h => ?_) (fun cdv A outer s H vs Q E hr h => ?_)
  · obtain ⟨n, v, q, a, rd, d, L, bs, rs, rfl, _⟩ := h
    rfl
  · obtain ⟨n, v, q, a, rd, d, L, bs, rs, rfl, ok, rD, hq, hbs, b7, hS, hw, hf, hrd, nr, kk⟩ := h
    have hr_has_form : Room 1 _ := hr.mono (by decide)
    have hr_has_names : Room 5 _ := hr.mono (by decide)
    obtain ⟨r, k, us, rs', ps, rfl, G, alt⟩ := row_view ok rD hq
    refine ⟨_, (pss_cons (ps_if (pt_cmpR op_gt (pe_callB call_len_seq (by rfl) B.m_len PySem.boot_len (pa_cons (pv 1) pa_nil)) (pe_glob (v := .int _) rfl m_LONGEST_PLACE ⟨_, rfl⟩) (nomark _)) (pss_one ps_never) pss_nil)
 (pss_cons (ps_if (pt_not (pt_val (pe_call G_has_form hr_has_form rfl d_has_form.g d_has_form.F.kp d_has_form.b .nil pass0 (pa_cons (pv 0) pa_nil)))) (pss_one ps_never) pss_nil)
 (pss_cons (ps_if (pt_not (pt_val (pe_call G_has_names hr_has_names rfl d_has_names.g d_has_names.F.kp d_has_names.b .nil pass0 (pa_cons (pv 0) (pa_cons (pv 2) pa_nil))))) (pss_one ps_never) pss_nil)
 (pss_one (ps_if (PW.pt (pw_and (pt_cmpR op_eq (pe_ix ix_tup (pv 0) pe_int (fun _ _ => rfl)) pe_str (nomark _)) (pw_and1 (pt_cmpR op_in_seq (pe_ix ix_tup (pv 0) pe_int (fun _ _ => rfl)) (pv 3) (by rfl))))) (pss_one ps_never) pss_nil))))), ?_⟩
    refine ⟨_, rfl, q, _, rfl, .inr hbs, _, _, rfl, rfl, _, rfl, ite_dec (fun hb => ?_) (fun _ => ?_)⟩
    · have := of_decide_eq_true hb
      rw [List.length_map] at this
      omega
    have G0 : ∀ {H' : Hp}, Same H H' → RowG ws fs H' r d k us rs' ps L := fun s' => ⟨G.rV.same s', G.rD, G.rP, G.rQ.same s', G.rX⟩
    refine ⟨_, rfl, r, d, k, us, rs', ps, L, rfl, G, fun H1 s1 => ⟨_, rfl, iteF ?_⟩⟩
    refine ⟨_, rfl, _, rfl, r, a, d, k, us, rs', ps, L, rfl, G0 s1, seq_same s1 hS, hw, hf, fun H2 s2 => ⟨_, rfl, iteF ?_⟩⟩
    have s12 := s1.trans s2
    refine ⟨_, rfl, r, _, 0, .str k, rfl, rfl, SqT.of (s12 _ _ G.rV.t), atI_of (j := 0) rfl rfl, rfl, _, rfl, ite_dec (fun hb => ?_) (fun hb => iteF (kk _ s12))⟩
    have hk : k = "watch" := V.str.inj (of_decide_eq_true hb)
    obtain ⟨z, hz, ez⟩ := readers_v G.rV.l G.rP G.rQ hk
    refine ⟨_, rfl, r, _, 1, .str z, rfl, rfl, SqT.of (s12 _ _ G.rV.t), atI_of (j := 1) rfl (by rw [List.getElem?_cons_succ]; exact hz), _, rfl, rd, _, rfl, .inl (SqL.of (s12 _ _ hrd)), rfl, flat_strs _, _, rfl, ite_dec (fun hb2 => ?_) (fun hb2 => kk _ s12)⟩
    have hin : z ∈ rs := by
      have e : inV (.str z) (rs.map V.str) = true := hb2
      rw [inV_strs] at e
      exact of_decide_eq_true e
    exact absurd hin (nr z (by rw [G.rD, ez]; exact List.mem_cons_self ..))
end
end TW
set_option Elab.async false
set_option linter.all false
set_option maxRecDepth 100000
namespace TW
open PySem PySem.Spec PyProof.Rows L2 TL
/-! the rest of a walk from one row -/
def wf (n : Nat) (p : List Int × PyData) : List (List Int × PyData) := p :: (Wn n (p.1 ++ [0]) (inner p.2).1 ++ Wn n (p.1 ++ [1]) (inner p.2).2)
theorem walk_placed (n : Nat) (bs : List Int) (ds : List PyData) : walkD n bs ds = (placed bs ds).flatMap (wf n) := by
  rw [walkD_plvl]
  unfold plvl placed
  rw [List.flatMap_map]
  rfl
theorem RowD.up {n : Nat} {d : PyData} (h : RowD n d) : RowD (n + 1) d := by
  induction n generalizing d with
  | zero =>
    cases h with
    | plain n1 n2 fl l5 => exact .plain n1 n2 fl l5
  | succ n ih =>
    cases h with
    | plain n1 n2 fl l5 => exact .plain n1 n2 fl l5
    | br hw fl l2 ra rb la lb => exact .br hw fl l2 (fun d m => ih (ra d m)) (fun d m => ih (rb d m)) la lb
theorem RowD.le {n m : Nat} (h : n ≤ m) {d : PyData} (r : RowD n d) : RowD m d := by
  induction h with
  | refl => exact r
  | step _ ih => exact ih.up
theorem row_inner {n : Nat} {d : PyData} (h : RowD n d) : inner d = ([], []) ∨ ∃ m as bs, n = m + 1 ∧ inner d = (as, bs) ∧ (∀ d ∈ as, RowD m d) ∧ (∀ d ∈ bs, RowD m d) ∧ as.length ≤ 100 ∧ bs.length ≤ 100 := by
  cases h with
  | plain n1 n2 fl l5 => exact .inl (inner_plain fl)
  | br hw fl l2 ra rb la lb => exact .inr ⟨_, _, _, rfl, inner_br, ra, rb, la, lb⟩
/-- more fuel than levels changes nothing -/
theorem walk_up : ∀ {n : Nat} {bs : List Int} {ds : List PyData}, (∀ d ∈ ds, RowD n d) → walkD (n + 1) bs ds = walkD n bs ds
  | n, bs, ds, h => by
    rw [walk_placed, walk_placed]
    have mem : ∀ p ∈ placed bs ds, RowD n p.2 := fun p m => by
      unfold placed at m
      obtain ⟨q, hq, rfl⟩ := List.mem_map.mp m
      exact h _ (List.fst_mem_of_mem_zipIdx hq)
    have each : ∀ p ∈ placed bs ds, wf (n + 1) p = wf n p := fun p m => by
      unfold wf
      rcases row_inner (mem p m) with e | ⟨k, as, bs', rfl, e, ra, rb, _, _⟩
      · rw [e]
        show p :: (Wn (n + 1) _ [] ++ Wn (n + 1) _ []) = p :: (Wn n _ [] ++ Wn n _ [])
        rw [Wn_nil, Wn_nil, Wn_nil, Wn_nil]
      · rw [e]
        show p :: (walkD (k + 1) _ as ++ walkD (k + 1) _ bs') = p :: (walkD k _ as ++ walkD k _ bs')
        rw [walk_up ra, walk_up rb]
    clear h mem
    generalize placed bs ds = l at each
    induction l with
    | nil => rfl
    | cons p l ih =>
      rw [List.flatMap_cons, List.flatMap_cons, each p (List.mem_cons_self ..), ih fun q m => each q (List.mem_cons_of_mem _ m)]
theorem walk_le {n m : Nat} (h : n ≤ m) {bs : List Int} {ds : List PyData} (r : ∀ d ∈ ds, RowD n d) : walkD m bs ds = walkD n bs ds := by
  induction h with
  | refl => rfl
  | @step m h ih => rw [walk_up (fun d hd => (r d hd).le h), ih]
theorem inner_wf {n lev : Nat} {pl : List Int} {d : PyData} (hr : RowD lev d) (hl : lev ≤ n) : (innerP pl d).flatMap (wf n) = Wn n (pl ++ [0]) (inner d).1 ++ Wn n (pl ++ [1]) (inner d).2 := by
  unfold innerP
  rw [List.flatMap_append, ← walk_placed, ← walk_placed]
  rcases row_inner hr with e | ⟨k, as, bs', rfl, e, ra, rb, _, _⟩
  · rw [e]
    show walkD n _ [] ++ walkD n _ [] = Wn n _ [] ++ Wn n _ []
    rw [walkD_nil, walkD_nil, Wn_nil, Wn_nil]
  · rw [e]
    obtain ⟨m, rfl⟩ : ∃ m, n = m + 1 := ⟨n - 1, by omega⟩
    show walkD (m + 1) _ as ++ walkD (m + 1) _ bs' = walkD m _ as ++ walkD m _ bs'
    rw [walk_le (show k ≤ m + 1 by omega) ra, walk_le (show k ≤ m + 1 by omega) rb, walk_le (show k ≤ m by omega) ra, walk_le (show k ≤ m by omega) rb]
/-- a row still to be gone through -/
def Todo (ws fs : List Str) (n : Nat) (p : List Int × PyData) : Prop := ∃ lev, lev ≤ n ∧ RowD lev p.2 ∧ p.1.length + 2 * lev ≤ 7 ∧ ∀ e ∈ wf n p, OkR ws fs e.2
theorem placed_mem {bs : List Int} {ds : List PyData} {p : List Int × PyData} (h : p ∈ placed bs ds) : p.2 ∈ ds ∧ p.1.length = bs.length + 1 := by
  unfold placed at h
  obtain ⟨q, hq, rfl⟩ := List.mem_map.mp h
  exact ⟨List.fst_mem_of_mem_zipIdx hq, List.length_append ..⟩
theorem todo_inner {ws fs : List Str} {n : Nat} {p q : List Int × PyData} (h : Todo ws fs n p) (m : q ∈ innerP p.1 p.2) : Todo ws fs n q := by
  obtain ⟨lev, hl, hr, hp, ok⟩ := h
  have okq : ∀ e ∈ wf n q, OkR ws fs e.2 := fun e he => ok e (by
    unfold wf
    rw [← inner_wf hr hl]
    exact List.mem_cons_of_mem _ (List.mem_flatMap.mpr ⟨q, m, he⟩))
  rcases row_inner hr with e | ⟨k, as, bs', rfl, e, ra, rb, _, _⟩
  · unfold innerP at m
    rw [e] at m
    cases m
  · unfold innerP at m
    rw [e] at m
    rcases List.mem_append.mp m with m | m
    · obtain ⟨h1, h2⟩ := placed_mem m
      rw [List.length_append] at h2
      exact ⟨k, by omega, ra _ h1, by show q.1.length + 2 * k ≤ 7; simp only [List.length_singleton] at h2; omega, okq⟩
    · obtain ⟨h1, h2⟩ := placed_mem m
      rw [List.length_append] at h2
      exact ⟨k, by omega, rb _ h1, by show q.1.length + 2 * k ≤ 7; simp only [List.length_singleton] at h2; omega, okq⟩
theorem inner_le {n : Nat} {p : List Int × PyData} (h : RowD n p.2) : (innerP p.1 p.2).length ≤ 200 := by
  unfold innerP
  rw [List.length_append, placed_len, placed_len]
  rcases row_inner h with e | ⟨k, as, bs', rfl, e, ra, rb, la, lb⟩
  · rw [e]
    exact Nat.zero_le _
  · rw [e]
    show as.length + bs'.length ≤ 200
    omega
def spChecked (K : PySem.W.Frag) (ws fs : List Str) : Sp := fun vs H Q _ => ∃ (n : Nat) (a f : Addr) (ds : List PyData) (L : List Addr), vs = [.ref a, .ref f] ∧ n ≤ 3 ∧ Dq H (.ref a) (.list ds) L ∧ (∀ d ∈ ds, RowD n d) ∧ ds.length ≤ 100 ∧ (∀ d ∈ rowsD n ds, OkR ws fs d) ∧ (rowsD n ds).length ≤ 100 ∧ (rds n ds).Nodup ∧
  (SqL K H f (fs.map V.str) ∨ SqT K H f (fs.map V.str)) ∧ (∀ x ∈ ws, IsW x) ∧ (∀ x ∈ fs, IsW x) ∧ ∀ (b : Addr) (ys : List V) (M : List Addr) (H' : Hp), Same H H' → H b = none → H' b = some (.lst ys) → DqAll H' ys ((walkD n [] ds).map pd) M → (∀ x ∈ M, x ∈ L) → Q (.ref b) H'
/-- rows found, and rows still to be gone through -/
structure CInv (ws fs : List Str) (n : Nat) (ds : List PyData) (L : List Addr) (H : Hp) (F R A : Addr) (fd td : List (List Int × PyData)) (ys zs : List V) (G : Hp) : Prop where
  cS : Same H G
  cF : G F = some (.lst ys)
  cR : G R = some (.lst ((fd.flatMap fun p => readersOf p.2).map V.str))
  cA : G A = some (.lst zs.reverse)
  cY : ∃ M, DqAll G ys (fd.map pd) M ∧ ∀ x ∈ M, x ∈ L
  cZ : ∃ M, DqAll G zs (td.map pd) M ∧ ∀ x ∈ M, x ∈ L
  cT : ∀ p ∈ td, Todo ws fs n p
  cW : fd ++ td.flatMap (wf n) = walkD n [] ds
theorem keepN {H G : Hp} {F : Addr} {zs : List V} {o : HO} {M L : List Addr} (h0 : H F = none) (hL : ∀ x ∈ L, ∃ xs, H x = some (.lst xs)) (hM : ∀ x ∈ M, x ∈ L) (hF : G F = some (.lst zs)) : KeepL M G (upd G F o) := by
  refine ⟨fun b m => upd_ne fun z => ?_, fun b us e => (upd_ne (fun z : b = F => by rw [z, hF] at e; cases e)).trans e⟩
  obtain ⟨us, e⟩ := hL b (hM b m)
  rw [z, h0] at e
  cases e
theorem dq_ints_inv {H : Hp} : ∀ {is : List Int} {vs : List V} {L : List Addr}, DqAll H vs (is.map PyData.int) L → vs = is.map V.int ∧ L = []
  | [], _, _, .nil => ⟨rfl, rfl⟩
  | i :: is, _, _, .cons q a => by
    obtain ⟨e1, e2⟩ := dq_ints_inv a
    cases q
    rw [e1, e2]
    exact ⟨rfl, rfl⟩
/-- a pair (place, row) -/
theorem pd_inv {H : Hp} {z : V} {p : List Int × PyData} {N : List Addr} (h : Dq H z (pd p) N) : ∃ (t pl : Addr) (v : V), z = .ref t ∧ H t = some (.tup [.ref pl, v]) ∧ H pl = some (.tup (p.1.map V.int)) ∧ Dq H v p.2 N := by
  cases h with
  | @tup t xs _ _ ht da =>
  cases da with
  | @cons v1 _ _ _ L1 M1 q1 d2 =>
  cases d2 with
  | @cons v2 _ _ _ L2 M2 q2 d3 =>
  cases d3
  cases q1 with
  | @tup pl ys _ _ hpl di =>
  obtain ⟨e1, e2⟩ := dq_ints_inv di
  subst e1 e2
  exact ⟨t, pl, v2, rfl, ht, hpl, by simpa using q2⟩
theorem rds_walk {n : Nat} {ds : List PyData} : (walkD n [] ds).flatMap (fun p => readersOf p.2) = rds n ds := by
  unfold rds
  rw [← walkD_rows n [] ds, List.flatMap_map]
abbrev S_checked_rows : Stmt := topS 63
abbrev N_checked_rows : List Str := ["rows", "fields", "found", "readers", "ahead", "place", "row"]
abbrev P_checked_rows : List Str := ["rows", "fields"]
theorem sc_checked_rows : FnScope N_checked_rows P_checked_rows (defScope S_checked_rows) := ⟨rfl, rfl, rfl, by decide +kernel, rfl, by decide +kernel, by decide +kernel⟩
section
variable {P : Program} {w : World} {K : PySem.W.Frag} {mg : Str → Option Value} {base : Heap}
set_option maxHeartbeats 4000000 in
theorem ok_checked_rows {f0 fC fP fI : Addr} {fd0 fdC fdP fdI : FuncData} {ws fs : List Str} (F0 : Fun K "checked_rows" "checked_rows" S_checked_rows f0 fd0) (B : Bl mg) (d_check_row : Df K mg "check_row" S_check_row fC fdC P_check_row) (G_check_row : FnOk P w K mg base CX0 6 fC fdC P_check_row (spCheck K ws fs))
    (d_placed_rows : Df K mg "placed_rows" S_placed_rows fP fdP P_placed_rows) (G_placed_rows : FnOk P w K mg base CX0 1 fP fdP P_placed_rows (spPlaced K)) (d_inner_rows : Df K mg "inner_rows" S_inner_rows fI fdI P_inner_rows) (G_inner_rows : FnOk P w K mg base CX0 2 fI fdI P_inner_rows (spInnerR K ws fs)) :
    FnOk P w K mg base CX0 7 f0 fd0 P_checked_rows (spChecked K ws fs) := by
  refine F0.ok sc_checked_rows (fun vs H Q E h => ?_) (fun cdv Ar outer s H vs Q E hr h => ?_)
  · obtain ⟨n, a, f, ds, L, rfl, _⟩ := h
    rfl
  · obtain ⟨n, a, f, ds, L, rfl, n3, hd, rows, l100, ok, r100, nd, hS, hw, hf, kk⟩ := h
    have hr_check_row : Room 6 _ := hr.mono (by decide)
    have hr_placed_rows : Room 1 _ := hr.mono (by decide)
    have hr_inner_rows : Room 2 _ := hr.mono (by decide)
    have hL := hd.there
    refine ⟨_, (pss_cons (ps_set (i := 2) sc_checked_rows.nd rfl (by first | exact Or.inl rfl | exact Or.inr rfl) (pe_lst pa_nil))
 (pss_cons (ps_set (i := 3) sc_checked_rows.nd rfl (by first | exact Or.inl rfl | exact Or.inr rfl) (pe_lst pa_nil))
 (pss_cons (ps_set (i := 4) sc_checked_rows.nd rfl (by first | exact Or.inl rfl | exact Or.inr rfl) (pe_callTy call_list_of (by rfl) B.m_list (by decide +kernel) (pa_cons (pe_revL (pe_call G_placed_rows hr_placed_rows rfl d_placed_rows.g d_placed_rows.F.kp d_placed_rows.b .nil pass0 (pa_cons (pv 0) (pa_cons (pe_tup pa_nil) pa_nil)))) pa_nil)))
 (pss_cons (ps_while PassesOwn.never (pt_truth (pv 4) (by intro _; rfl)) (pss_cons (ps_asg (pe_bm0 PySem.F.plainAttrs_list PySem.F.slot_list_pop PySem.F.type_list_pop mt_pop (pv 4)) (pg_tup rfl (pgs_cons (pg_name (i := 5) sc_checked_rows.nd rfl (by first | exact Or.inl rfl | exact Or.inr rfl)) (pgs_cons (pg_name (i := 6) sc_checked_rows.nd rfl (by first | exact Or.inl rfl | exact Or.inr rfl)) pgs_nil))))
 (pss_cons (ps_expr (pe_call G_check_row hr_check_row rfl d_check_row.g d_check_row.F.kp d_check_row.b .nil pass0 (pa_cons (pv 6) (pa_cons (pv 5) (pa_cons (pv 1) (pa_cons (pv 3) pa_nil))))))
 (pss_cons (ps_cut (ps_if (pt_cmpR op_eq (pe_ix ix_tup (pv 6) pe_int (fun _ _ => rfl)) pe_str (nomark _)) (pss_one (ps_expr (pe_bm PySem.F.plainAttrs_list PySem.F.slot_list_append PySem.F.type_list_append mt_append (pv 3) (pa_cons (pe_ix ix_tup (pv 6) pe_int (fun _ _ => rfl)) pa_nil)))) pss_nil))
 (pss_cons (ps_expr (pe_bm PySem.F.plainAttrs_list PySem.F.slot_list_append PySem.F.type_list_append mt_append (pv 2) (pa_cons (pe_tup (pa_cons (pv 5) (pa_cons (pv 6) pa_nil))) pa_nil)))
 (pss_one (ps_expr (pe_bm PySem.F.plainAttrs_list PySem.F.slot_list_extend PySem.F.type_list_extend mt_extend (pv 4) (pa_cons (pe_revL (pe_call G_inner_rows hr_inner_rows rfl d_inner_rows.g d_inner_rows.F.kp d_inner_rows.b .nil pass0 (pa_cons (pv 6) (pa_cons (pv 5) pa_nil)))) pa_nil)))))))))
 (pss_one (ps_ret (pv 2))))))), ?_⟩
    refine ⟨Nat.zero_le _, fun F hF => ?_⟩
    have s0 := same_new (o := .lst []) hF
    refine ⟨Nat.zero_le _, fun R hR => ?_⟩
    have FR : F ≠ R := ne_of_none upd_same hR
    have s1 := s0.trans (same_new (o := .lst []) hR)
    refine ⟨_, rfl, Nat.zero_le _, fun t ht => ?_⟩
    have s2 := s1.trans (same_new (o := .tup []) ht)
    refine ⟨a, t, ds, L, [], rfl, hd.same s2, SqT.of upd_same, l100, by show 0 ≤ 90; omega, fun b ys M H3 s3 hb h3 d3 sub3 => ⟨b, ys, rfl, SqL.of h3, fun p1 hp1 => ⟨p1, _, rfl, .inl (SqL.of upd_same), fun A hA => ?_⟩⟩⟩
    have s4 := s2.trans (s3.trans ((same_new (o := .lst ys.reverse) hp1).trans (same_new (o := .lst ys.reverse) hA)))
    have s34 := s3.trans ((same_new (o := .lst ys.reverse) hp1).trans (same_new (o := .lst ys.reverse) hA))
    have hF1 := s34 _ _ ((upd_ne (ne_of_none ((upd_ne FR).trans upd_same) ht)).trans ((upd_ne FR).trans (upd_same (H := H) (a := F) (o := .lst []))))
    have hR1 := s34 _ _ ((upd_ne (ne_of_none upd_same ht)).trans (upd_same (H := upd H F (.lst [])) (a := R) (o := .lst [])))
    have FA : F ≠ A := fun z => by
      have := (s3.trans (same_new (o := .lst ys.reverse) hp1)) _ _ ((upd_ne (ne_of_none ((upd_ne FR).trans upd_same) ht)).trans ((upd_ne FR).trans (upd_same (H := H) (a := F) (o := .lst []))))
      rw [z, hA] at this
      cases this
    have RA : R ≠ A := fun z => by
      have := (s3.trans (same_new (o := .lst ys.reverse) hp1)) _ _ ((upd_ne (ne_of_none upd_same ht)).trans (upd_same (H := upd H F (.lst [])) (a := R) (o := .lst [])))
      rw [z, hA] at this
      cases this
    have hA0 : H A = none := (s2.trans (s3.trans (same_new (o := .lst ys.reverse) hp1))).free hA
    have hR0 : H R = none := s0.free hR
    refine ⟨fun m σ G => ∃ (z5 z6 : Option V) (fd td : List (List Int × PyData)) (ys zs : List V), σ = [some (.ref a), some (.ref f), some (.ref F), some (.ref R), some (.ref A), z5, z6] ∧ CInv ws fs n ds L H F R A fd td ys zs G ∧ m = (td.flatMap (wf n)).length, ⟨_, _, _, [], placed [] ds, [], ys, rfl, ⟨s4, hF1, hR1, upd_same, ⟨[], .nil, fun x m => nomatch m⟩, ⟨M, d3.same ((same_new (o := .lst ys.reverse) hp1).trans (same_new (o := .lst ys.reverse) hA)), sub3⟩, fun p hp => ?_, (walk_placed n [] ds).symm⟩, rfl⟩, ?_⟩
    · obtain ⟨h1, h2⟩ := placed_mem hp
      refine ⟨n, Nat.le_refl _, rows _ h1, by rw [h2]; show 0 + 1 + 2 * n ≤ 7; omega, fun e he => ok _ ?_⟩
      rw [← walkD_rows n [] ds, walk_placed]
      exact List.mem_map.mpr ⟨e, List.mem_flatMap.mpr ⟨p, hp, he⟩, rfl⟩
    rintro m σ G ⟨z5, z6, fd, td, ys, zs, rfl, I, rfl⟩
    obtain ⟨MY, dY, subY⟩ := I.cY
    obtain ⟨MZ, dZ, subZ⟩ := I.cZ
    refine ⟨_, rfl, !zs.reverse.isEmpty, .inl ⟨_, SqL.of I.cA, rfl⟩, ?_⟩
    cases td with
    | nil =>
      have ez : zs = [] := by cases dZ; rfl
      subst ez
      refine iteF ?_
      have eW := I.cW
      rw [List.flatMap_nil, List.append_nil] at eW
      rw [eW] at dY
      exact ⟨_, rfl, kk F ys MY G I.cS hF I.cF dY subY⟩
    | cons p td =>
      obtain ⟨z, zs', rfl⟩ : ∃ z zs', zs = z :: zs' := by cases dZ; exact ⟨_, _, rfl⟩
      cases dZ with
      | @cons _ _ _ _ N1 N2 qz dZ' =>
      have hb : (!(z :: zs').reverse.isEmpty) = true := by simp
      rw [hb]
      refine iteT ?_
      obtain ⟨t1, pl, v, rfl, ht1, hpl, hv⟩ := pd_inv qz
      obtain ⟨lev, hlev, hrow, h7, hok⟩ := I.cT p (List.mem_cons_self ..)
      have okp : OkR ws fs p.2 := hok p (List.mem_cons_self ..)
      have subN1 : ∀ x ∈ N1, x ∈ L := fun x m => subZ x (List.mem_append_left _ m)
      have subN2 : ∀ x ∈ N2, x ∈ L := fun x m => subZ x (List.mem_append_right _ m)
      refine ⟨fun σ' G' => ∃ (z5 z6 : Option V) (fd' td' : List (List Int × PyData)) (ys' zs2 : List V), σ' = [some (.ref a), some (.ref f), some (.ref F), some (.ref R), some (.ref A), z5, z6] ∧ CInv ws fs n ds L H F R A fd' td' ys' zs2 G' ∧ (td'.flatMap (wf n)).length < ((p :: td).flatMap (wf n)).length, fun σ' G' ⟨y5, y6, fd', td', ys', zs2, e1, I', l'⟩ => ⟨_, l', y5, y6, fd', td', ys', zs2, e1, I', rfl⟩, ?_⟩
      have erev : (V.ref t1 :: zs').reverse = zs'.reverse ++ [V.ref t1] := List.reverse_cons
      refine ⟨_, rfl, .inl ⟨rfl, _, SqL.of I.cA⟩, A, _, .ref t1, rfl, rfl, I.cA, ?_, ?_⟩
      · rw [erev, List.length_append, List.getElem?_append_right (by simp)]
        simp
      have edl : (V.ref t1 :: zs').reverse.dropLast = zs'.reverse := by rw [erev, List.dropLast_concat]
      rw [edl]
      obtain ⟨G1, e1⟩ : ∃ G1 : Hp, G1 = upd G A (.lst zs'.reverse) := ⟨_, rfl⟩
      have k1 : ∀ {M : List Addr}, (∀ x ∈ M, x ∈ L) → KeepL M G G1 := fun h => by rw [e1]; exact keepN hA0 hL h I.cA
      have k0 : KeepL [] G G1 := k1 fun x m => nomatch m
      have c1 : G1 A = some (.lst zs'.reverse) := by rw [e1]; exact upd_same
      have f1 : G1 F = some (.lst ys) := by rw [e1]; exact (upd_ne FA).trans I.cF
      have r1 : G1 R = some (.lst ((fd.flatMap fun q => readersOf q.2).map V.str)) := by rw [e1]; exact (upd_ne RA).trans I.cR
      have sG1 : Same H G1 := fun b o e => by rw [e1]; exact (upd_ne (ne_of_none e hA0)).trans (I.cS _ _ e)
      rw [← e1]
      refine ⟨t1, _, rfl, SqT.of (k0.t _ _ ht1), rfl, _, _, rfl, _, _, rfl, rfl, ?_⟩
      have hv1 := hv.keep (k1 subN1)
      have hpl1 := k0.t _ _ hpl
      have eW := I.cW
      have enod : ∀ x ∈ readersOf p.2, x ∉ fd.flatMap fun q => readersOf q.2 := by
        have nd2 := nd
        rw [← rds_walk, ← eW, List.flatMap_append, List.flatMap_cons] at nd2
        intro x hx hx2
        refine (List.nodup_append.mp nd2).2.2 x hx2 x ?_ rfl
        unfold wf
        rw [List.cons_append, List.flatMap_cons]
        exact List.mem_append_left _ hx
      refine ⟨_, rfl, _, rfl, _, rfl, _, rfl, lev, v, pl, f, R, p.2, N1, p.1, _, rfl, okp, hrow, hv1, SqT.of hpl1, by omega, seq_same sG1 hS, hw, hf, r1, enod, fun G2 s5 => ?_⟩
      obtain ⟨r, k, us, rs, ps, rfl, RG, alt⟩ := row_view okp hrow (hv1.same s5)
      have bound : fd.length + (td.flatMap (wf n)).length + 1 ≤ 100 := by
        have e1 := congrArg List.length eW
        rw [List.length_append, List.flatMap_cons, List.length_append, walkD_len] at e1
        have e2 : 1 ≤ (wf n p).length := by
          unfold wf
          simp
        omega
      have tdl : td.length ≤ (td.flatMap (wf n)).length := by
        clear eW bound enod I dZ' subZ
        induction td with
        | nil => exact Nat.le_refl _
        | cons q td ih =>
          rw [List.flatMap_cons, List.length_append, List.length_cons]
          have : 1 ≤ (wf n q).length := by
            unfold wf
            simp
          omega
      have rdl : ((fd.flatMap fun q => readersOf q.2)).length ≤ 100 := by
        have h1 : ∀ l : List (List Int × PyData), (l.flatMap fun q => readersOf q.2).length ≤ l.length := by
          intro l
          induction l with
          | nil => exact Nat.le_refl _
          | cons q l ih =>
            rw [List.flatMap_cons, List.length_append, List.length_cons]
            have : (readersOf q.2).length ≤ 1 := by
              unfold readersOf
              split <;> simp
            omega
        have := h1 fd
        omega
      have lF : ∀ {M : List Addr} {o : HO} {T T' : Hp}, True := fun {_ _ _ _} => trivial
      refine ⟨fun σ' G' => σ' = [some (.ref a), some (.ref f), some (.ref F), some (.ref R), some (.ref A), some (.ref pl), some (.ref r)] ∧ G' F = some (.lst ys) ∧ G' A = some (.lst zs'.reverse) ∧ G' R = some (.lst (((fd ++ [p]).flatMap fun q => readersOf q.2).map V.str)) ∧ Same H G' ∧ (∀ M : List Addr, (∀ x ∈ M, x ∈ L) → KeepL M G2 G'), ?_, ?_⟩
      · refine ⟨_, rfl, r, _, 0, .str k, rfl, rfl, SqT.of RG.rV.t, atI_of (j := 0) rfl rfl, rfl, _, rfl, ite_dec (fun hb => ?_) (fun hb => ?_)⟩
        · have hk : k = "watch" := V.str.inj (of_decide_eq_true hb)
          obtain ⟨z, hz, ez⟩ := readers_v RG.rV.l RG.rP RG.rQ hk
          refine ⟨_, rfl, .inl ⟨rfl, _, SqL.of (s5 _ _ r1)⟩, _, rfl, r, _, 1, .str z, rfl, rfl, SqT.of RG.rV.t, atI_of (j := 1) rfl (by rw [List.getElem?_cons_succ]; exact hz), R, _, _, rfl, rfl, s5 _ _ r1, by rw [List.length_map]; exact small1000 (by omega), rfl, ?_⟩
          refine ⟨(upd_ne FR).trans (s5 _ _ f1), (upd_ne RA.symm).trans (s5 _ _ c1), ?_, fun b o e => (upd_ne (ne_of_none e hR0)).trans (s5 _ _ (sG1 _ _ e)), fun M h => keepN hR0 hL h (s5 _ _ r1)⟩
          rw [upd_same, List.flatMap_append, List.map_append, List.flatMap_cons, List.flatMap_nil, List.append_nil, RG.rD, ez]
          rfl
        · have hk : ¬ k = "watch" := fun e => of_decide_eq_false hb (by rw [e])
          refine ⟨rfl, s5 _ _ f1, s5 _ _ c1, ?_, sG1.trans s5, fun M h => ⟨fun b m => rfl, fun b xs e => e⟩⟩
          rw [List.flatMap_append, List.flatMap_cons, List.flatMap_nil, List.append_nil, RG.rD, readers_none hk, List.append_nil]
          exact s5 _ _ r1
      rintro σ' G3 ⟨rfl, f3, c3, r3, sG3, k3⟩
      have ylen : ys.length ≤ 100 := by
        have := dY.len
        rw [List.length_map] at this
        omega
      refine ⟨_, rfl, .inl ⟨rfl, _, SqL.of f3⟩, _, rfl, _, rfl, (by show 2 ≤ sizeLine; decide), fun t2 ht2 => ⟨F, ys, _, rfl, rfl, (upd_ne (ne_of_none f3 ht2)).trans f3, small1000 (by omega), ?_⟩⟩
      have s6 := same_new (o := .tup [V.ref pl, V.ref r]) ht2
      obtain ⟨G4, e4⟩ : ∃ G4 : Hp, G4 = upd (upd G3 t2 (.tup [V.ref pl, V.ref r])) F (.lst (ys ++ [V.ref t2])) := ⟨_, rfl⟩
      have k4 : ∀ M : List Addr, (∀ x ∈ M, x ∈ L) → KeepL M (upd G3 t2 (.tup [V.ref pl, V.ref r])) G4 := fun M h => by rw [e4]; exact keepN hF hL h (s6 _ _ f3)
      have f4 : G4 F = some (.lst (ys ++ [V.ref t2])) := by rw [e4]; exact upd_same
      have c4 : G4 A = some (.lst zs'.reverse) := by rw [e4]; exact (upd_ne FA.symm).trans (s6 _ _ c3)
      have r4 : G4 R = some (.lst (((fd ++ [p]).flatMap fun q => readersOf q.2).map V.str)) := by rw [e4]; exact (upd_ne FR.symm).trans (s6 _ _ r3)
      have sG4 : Same H G4 := fun b o e => by rw [e4]; exact (upd_ne (ne_of_none e hF)).trans (s6 _ _ (sG3 _ _ e))
      have kAll : ∀ {M : List Addr} {vs : List V} {es : List PyData}, (∀ x ∈ M, x ∈ L) → DqAll G vs es M → DqAll G4 vs es M := fun {M vs es} h d => ((((d.keep (k1 h)).same s5).keep (k3 _ h)).same s6).keep (k4 _ h)
      have kOne : ∀ {M : List Addr} {u : V} {e : PyData}, (∀ x ∈ M, x ∈ L) → Dq G u e M → Dq G4 u e M := fun {M u e} h d => ((((d.keep (k1 h)).same s5).keep (k3 _ h)).same s6).keep (k4 _ h)
      have k04 := k4 [] fun x m => nomatch m
      have hpl4 : G4 pl = some (.tup (p.1.map V.int)) := k04.t _ _ (s6 _ _ ((k3 [] fun x m => nomatch m).t _ _ (s5 _ _ hpl1)))
      rw [← e4]
      refine ⟨_, rfl, .inl ⟨rfl, _, SqL.of c4⟩, _, rfl, _, rfl, lev, .ref r, pl, p.2, N1, p.1, rfl, okp, hrow, kOne subN1 hv, SqT.of hpl4, by omega, fun b ysI MI G5 s7 hb5 h5 d5 sub5 => ⟨b, ysI, rfl, SqL.of h5, fun q7 hq7 => ?_⟩⟩
      have s8 := s7.trans (same_new (o := .lst ysI.reverse) hq7)
      have c5 := s8 _ _ c4
      have zlen : zs'.length ≤ 100 := by
        have := dZ'.len
        rw [List.length_map] at this
        omega
      have ilen : ysI.length ≤ 200 := by
        have := d5.len
        rw [List.length_map] at this
        have := inner_le hrow
        omega
      refine ⟨A, q7, _, _, rfl, rfl, c5, upd_same, ?_, ?_⟩
      · rw [List.length_reverse, List.length_reverse]
        exact Nat.le_of_lt (small1000 (by omega))
      have k8 : ∀ {M : List Addr}, (∀ x ∈ M, x ∈ L) → KeepL M (upd G5 q7 (.lst ysI.reverse)) (upd (upd G5 q7 (.lst ysI.reverse)) A (.lst (zs'.reverse ++ ysI.reverse))) := fun h => keepN hA0 hL h c5
      have subI : ∀ x ∈ MI, x ∈ L := fun x m => subN1 x (sub5 x m)
      have eT : ((innerP p.1 p.2 ++ td).flatMap (wf n)).length < ((p :: td).flatMap (wf n)).length := by
        rw [List.flatMap_append, inner_wf hrow hlev, List.flatMap_cons, List.length_append, List.length_append, List.length_append]
        have : (wf n p).length = (Wn n (p.1 ++ [0]) (inner p.2).1).length + (Wn n (p.1 ++ [1]) (inner p.2).2).length + 1 := by
          unfold wf
          rw [List.length_cons, List.length_append]
        omega
      refine ⟨_, _, fd ++ [p], innerP p.1 p.2 ++ td, ys ++ [V.ref t2], ysI ++ zs', rfl, ⟨?_, ?_, ?_, ?_, ⟨MY ++ (N1 ++ []), ?_, ?_⟩, ⟨MI ++ N2, ?_, ?_⟩, ?_, ?_⟩, eT⟩
      · exact fun b o e => (upd_ne (ne_of_none e hA0)).trans (s8 _ _ (sG4 _ _ e))
      · exact (upd_ne FA).trans (s8 _ _ f4)
      · exact (upd_ne RA).trans (s8 _ _ r4)
      · rw [upd_same, List.reverse_append]
      · rw [List.map_append]
        refine (((kAll subY dY).same s8).keep (k8 subY)).snoc (.tup ((k8 (M := []) fun x m => nomatch m).t _ _ (s8 _ _ (k04.t _ _ upd_same))) (.cons (L := []) (.tup ((k8 (M := []) fun x m => nomatch m).t _ _ (s8 _ _ hpl4)) (dq_ints _)) (.cons (((kOne subN1 hv).same s8).keep (k8 subN1)) .nil)))
      · intro x m
        rw [List.append_nil] at m
        exact (List.mem_append.mp m).elim (subY x) (subN1 x)
      · rw [List.map_append]
        exact ((d5.same (same_new hq7)).keep (k8 subI)).append (((kAll subN2 dZ').same s8).keep (k8 subN2))
      · exact fun x m => (List.mem_append.mp m).elim (subI x) (subN2 x)
      · intro q hq
        rcases List.mem_append.mp hq with hq | hq
        · exact todo_inner ⟨lev, hlev, hrow, h7, hok⟩ hq
        · exact I.cT q (List.mem_cons_of_mem _ hq)
      · rw [← eW, List.flatMap_append, inner_wf hrow hlev, List.flatMap_cons]
        unfold wf
        simp
end
end TW
set_option Elab.async false
set_option linter.all false
set_option maxRecDepth 100000
set_option maxHeartbeats 1000000
namespace L2
open PySem PySem.Spec PyProof.Rows
/-- list.extend of a tuple -/
theorem extend_tuple (l b : Addr) (xs ys : Array Value) (n n2 : Nat) (dd : Option Addr) (sl : Array (Option Value)) (short : ¬ (!xs.isEmpty && Builtin.List.listTooLong (xs.size + ys.size)) = true) (h1 : xs.size ≤ sizeLine) (h2 : xs.size + ys.size ≤ sizeLine + 1) :
    Meets (Builtin.«list.extend» ⟨[.ref l, .ref b], []⟩) (fun _ R s => s.heap.get? l = some { cls := .type "list", dict := none, data := .seq xs n, slots := #[] } ∧ s.heap.get? b = some { cls := .type "tuple", dict := dd, data := .seq ys n2, slots := sl } ∧
      R (.ok (.ret Value.none)) { s with heap := s.heap.update l (Obj.mapSeq fun x => x ++ ys), toks := s.toks }) := by
  refine .of_wp fun prog w A R s h => ?_
  obtain ⟨heap, gens, drawn, toks, os⟩ := s
  obtain ⟨el, eb, fin⟩ := h
  have a1 := AutoSeq1.idx_int
  have a2 := AutoSeq1.sub_tuple_tuple
  have a3 := AutoSeq1.sub_list_list
  have a4 := AutoSeq1.sub_tuple_list
  have a5 := AutoSeq1.sub_list_tuple
  have big : (xs ++ ys).size ≤ sizeLine + 1 := by
    rw [Array.size_append]
    exact h2
  wp_walk using (wpAny_updateSeq el rfl (hz := h1) (_hz' := big)), AutoSeq1.wpAny_loadPart' el, AutoSeq1.wpAny_loadPart' eb
  exact ⟨_, rfl, fin⟩
section
variable {X : Cx}
/-- l.extend(a list or a tuple) -/
def rExtendA (K : PySem.W.Frag) : V → List V → Hp → VK → Prop := fun x vs H Q => ∃ l b xs zs, x = .ref l ∧ vs = [.ref b] ∧ H l = some (.lst xs) ∧ (H b = some (.lst zs) ∨ SqT K H b zs) ∧ xs.length + zs.length ≤ sizeLine ∧ Q .non (upd H l (.lst (xs ++ zs)))
theorem mt_extendA : MtM X "list.extend" (rExtendA X.K) := by
  intro pins s σ H x vs v us Q I rx rv h
  obtain ⟨l, b, xs, zs, rfl, rfl, eL, eB | eB, small, q⟩ := h
  · exact mt_extend pins s σ H _ _ v us Q I rx rv ⟨l, b, xs, zs, rfl, rfl, eL, eB, small, q⟩
  cases rx
  obtain ⟨u, rfl, ru⟩ := rv.one
  cases ru
  obtain ⟨_, its, n, r, hl, e⟩ := I.lstM eL
  obtain ⟨its2, r2, ⟨⟨cls, dd, data, sl⟩, ho, hc, n2, hd⟩, _⟩ := I.tuple eB
  simp only at hc hd
  subst hc hd
  have total : its.toArray.size + its2.toArray.size ≤ sizeLine := by
    rw [List.size_toArray, List.size_toArray, ← r.length, ← r2.length]
    exact small
  have short : ¬ (!its.toArray.isEmpty && Builtin.List.listTooLong (its.toArray.size + its2.toArray.size)) = true := by
    rw [notLongL total, Bool.and_false]
    exact Bool.false_ne_true
  refine call_meets PySem.F.slot_list_extend ⟨_, e, rfl⟩ PySem.F.entry_list_extend (PySem.F.args_list_extend_2 _ _) (extend_tuple l b its.toArray its2.toArray n n2 dd sl short (by omega) (by omega)) ⟨e, ho, ?_⟩
  refine ⟨.non, _, I.lset (its' := its ++ its2) eL e (by simp) (r.append r2) ?_, rfl, q⟩
  rw [List.length_append]
  exact small
end
end L2
set_option Elab.async false
set_option linter.all false
set_option maxRecDepth 100000
namespace TW
open PySem PySem.Spec PyProof.Rows L2 TL
/-- a dict comprehension without a test, over a list -/
theorem dc_listN {K : PySem.W.Frag} {a : Addr} {xs : List V} {g : TG} {tk tv : TE} {vs : List Nat} {σ : St'} {H1 : Hp} {D : Addr} {Qd : Hp → Prop} (Pv : Nat → Hp → Prop) (h0 : Pv 0 (upd H1 D (.dK []))) (hl : ∀ i H, Pv i H → SqL K H a xs)
    (hs : ∀ i x H, xs[i]? = some x → Pv i H → g x (wipe σ vs) H fun σ2 H2 => wipe σ2 vs = wipe σ vs ∧ tk σ2 H2 fun y H4 => tv σ2 H4 fun z H5 => ∃ kvs k, y = kV k ∧ H5 D = some (.dK kvs) ∧ kvs.length < sizeLine ∧ Pv (i + 1) (upd H5 D (.dK (putK kvs k z)))) (hd : ∀ H, Pv xs.length H → Qd H)
    (mono : ∀ x σ1 H Q Q', (∀ σ2 H2, Q σ2 H2 → Q' σ2 H2) → g x σ1 H Q → g x σ1 H Q') :
    ∃ W : Nat → Nat → Hp → Prop, (∃ m, W 0 m (upd H1 D (.dK []))) ∧ ∀ i m H, W i m H →
      ((Itl K a).stop i H ∧ Qd H) ∨ ((Itl K a).go i H ∧ ∃ Nx : Hp → Prop, (∀ H', Nx H' → ∃ m', m' < m ∧ W (i + 1) m' H') ∧ ∀ x H', (Itl K a).yld i H x H' → g x (wipe σ vs) H' fun σ2 H2 => wipe σ2 vs = wipe σ vs ∧ tYes σ2 H2 fun b H3 =>
        if b = true then tk σ2 H3 fun y H4 => tv σ2 H4 fun z H5 => ∃ kvs k, y = kV k ∧ H5 D = some (.dK kvs) ∧ kvs.length < sizeLine ∧ Nx (upd H5 D (.dK (putK kvs k z))) else Nx H3) := by
  refine ⟨fun i m H => m = xs.length - i ∧ i ≤ xs.length ∧ Pv i H, ⟨xs.length, by simp, Nat.zero_le _, h0⟩, ?_⟩
  rintro i m H ⟨rfl, hi, p⟩
  have q := hl i H p
  by_cases lt : i < xs.length
  · have hx : xs[i]? = some xs[i] := List.getElem?_eq_getElem lt
    refine .inr ⟨⟨xs, _, q, hx⟩, Pv (i + 1), fun H' p' => ⟨xs.length - (i + 1), by omega, rfl, lt, p'⟩, fun x H' y => ?_⟩
    obtain ⟨e, y⟩ := y
    subst e
    exact mono _ _ _ _ _ (fun σ2 H2 h => ⟨h.1, yes_of h.2⟩) (hs i x _ (y xs q) p)
  · have e : i = xs.length := by omega
    subst e
    exact .inl ⟨⟨xs, q, Nat.le_refl _⟩, hd H p⟩
/-- a dict of words, each with True -/
def tkv (l : List Str) : List (Key × V) := l.map fun x => ((Sum.inr x : Key), V.bl true)
theorem tkv_val (x : Str) : ∀ l : List Str, (valV (tkv l) (Sum.inr x : Key)).isSome = decide (x ∈ l)
  | [] => rfl
  | y :: l => by
    show (valV (((Sum.inr y : Key), V.bl true) :: tkv l) _).isSome = _
    by_cases h : y = x
    · subst h
      rw [valV_pos rfl]
      exact (decide_eq_true (List.mem_cons_self ..)).symm
    · rw [valV_neg (fun e => h (Sum.inr.inj e)), tkv_val x l]
      exact decide_eq_decide.mpr ⟨fun m => List.mem_cons_of_mem _ m, fun m => (List.mem_cons.mp m).elim (fun e => absurd e.symm h) id⟩
theorem tkv_put_new {l : List Str} {x : Str} (h : x ∉ l) : putK (tkv l) (Sum.inr x : Key) (.bl true) = tkv (l ++ [x]) := by
  have e : valV (tkv l) (Sum.inr x : Key) = none := by
    have := tkv_val x l
    rw [decide_eq_false h] at this
    cases e : valV (tkv l) (Sum.inr x : Key) with
    | none => rfl
    | some v => rw [e] at this; cases this
  rw [putK_new _ e]
  unfold tkv
  rw [List.map_append]
  rfl
theorem tkv_put_old {l : List Str} {x : Str} (h : x ∈ l) : putK (tkv l) (Sum.inr x : Key) (.bl true) = tkv l := by
  unfold putK
  rw [if_pos]
  · unfold tkv
    rw [List.map_map]
    refine List.map_congr_left fun y _ => ?_
    show (if (Sum.inr y : Key) = Sum.inr x then ((Sum.inr y : Key), V.bl true) else ((Sum.inr y : Key), V.bl true)) = _
    split <;> rfl
  · rw [valV_any, tkv_val, decide_eq_true h]
theorem dedupN_mem {l : List Str} {x : Str} : ∀ {i : Nat}, i ≤ l.length → (x ∈ dedupN l i ↔ x ∈ l.take i)
  | 0, _ => by simp [dedupN]
  | i + 1, h => by
    have hi : i < l.length := h
    have e : l[i]? = some l[i] := List.getElem?_eq_getElem hi
    have ih := dedupN_mem (x := x) (i := i) (Nat.le_of_lt hi)
    by_cases m : l[i] ∈ l.take i
    · rw [dedupN_in e m, take_next e, List.mem_append, ih]
      constructor
      · exact .inl
      · rintro (h | h)
        · exact h
        · rw [List.mem_singleton.mp h]
          exact m
    · rw [dedupN_out e m, take_next e, List.mem_append, List.mem_append, ih]
def spAllV (K : PySem.W.Frag) (ws fs : List Str) : Sp := fun vs H Q _ => ∃ (i p o : Addr) (is os : List Str) (ys : List V) (l : List (List Int × PyData)) (M : List Addr), vs = [.ref i, .ref p, .ref o] ∧ (SqL K H i (is.map V.str) ∨ SqT K H i (is.map V.str)) ∧ H p = some (.lst ys) ∧ DqAll H ys (l.map pd) M ∧
  (∀ e ∈ l, OkR ws fs e.2 ∧ ∃ n, RowD n e.2) ∧ l.length ≤ 100 ∧ (H o = some (.lst (os.map V.str)) ∨ SqT K H o (os.map V.str)) ∧ is.length ≤ 100 ∧ os.length ≤ 100 ∧
  ∀ b H', Same H H' → H b = none → H' b = some (.lst ((dedupF (is ++ (l.flatMap fun e => varsOf e.2) ++ os)).map V.str)) → Q (.ref b) H'
abbrev S_all_variables : Stmt := topS 65
abbrev N_all_variables : List Str := ["inputs", "pairs", "outputs", "told", "_", "row", "name"]
abbrev P_all_variables : List Str := ["inputs", "pairs", "outputs"]
theorem sc_all_variables : FnScope N_all_variables P_all_variables (defScope S_all_variables) := ⟨rfl, rfl, rfl, by decide +kernel, rfl, by decide +kernel, by decide +kernel⟩
section
variable {P : Program} {w : World} {K : PySem.W.Frag} {mg : Str → Option Value} {base : Heap}
set_option maxHeartbeats 4000000 in
theorem ok_all_variables {f fR : Addr} {fd fdR : FuncData} {ws fs : List Str} (F : Fun K "all_variables" "all_variables" S_all_variables f fd) (B : Bl mg) (d_row_variables : Df K mg "row_variables" S_row_variables fR fdR P_row_variables) (G_row_variables : FnOk P w K mg base CX0 1 fR fdR P_row_variables (spPartsOf "variable")) :
    FnOk P w K mg base CX0 2 f fd P_all_variables (spAllV K ws fs) := by
  refine F.ok sc_all_variables (fun vs H Q E h => ?_) (fun cdv A outer s H vs Q E hr h => ?_)
  · obtain ⟨i, p, o, is, os, ys, l, M, rfl, _⟩ := h
    rfl
  · obtain ⟨i, p, o, is, os, ys, l, M, rfl, hI, hP, dP, okl, l100, hO, i100, o100, kk⟩ := h
    have hr_row_variables : Room 1 _ := hr.mono (Nat.le_refl _)
    have vlen : ∀ j, ((l.take j).flatMap fun e => varsOf e.2).length ≤ 200 := by
      intro j
      have h1 := vars_all_le (ws := ws) (fs := fs) (l := (l.take j).map (·.2)) fun d m => by
        obtain ⟨e, me, rfl⟩ := List.mem_map.mp m
        exact (okl e (List.mem_of_mem_take me)).1
      rw [List.flatMap_map, List.length_map] at h1
      have h2 : (l.take j).length ≤ 100 := Nat.le_trans (by rw [List.length_take]; exact Nat.min_le_right _ _) l100
      exact Nat.le_trans h1 (by omega)
    refine ⟨_, (pss_cons (ps_set (i := 3) sc_all_variables.nd rfl (by first | exact Or.inl rfl | exact Or.inr rfl) (pe_callTy call_list_of (by rfl) B.m_list (by decide +kernel) (pa_cons (pv 0) pa_nil)))
 (pss_cons (ps_for PassesOwn.never rfl (pi_list (pv 1)) (pg_tup rfl (pgs_cons (pg_name (i := 4) sc_all_variables.nd rfl (by first | exact Or.inl rfl | exact Or.inr rfl)) (pgs_cons (pg_name (i := 5) sc_all_variables.nd rfl (by first | exact Or.inl rfl | exact Or.inr rfl)) pgs_nil))) (pss_one (ps_expr (pe_bm PySem.F.plainAttrs_list PySem.F.slot_list_extend PySem.F.type_list_extend mt_extendA (pv 3) (pa_cons (pe_call G_row_variables hr_row_variables rfl d_row_variables.g d_row_variables.F.kp d_row_variables.b .nil pass0 (pa_cons (pv 5) pa_nil)) pa_nil)))))
 (pss_cons (ps_expr (pe_bm PySem.F.plainAttrs_list PySem.F.slot_list_extend PySem.F.type_list_extend mt_extendA (pv 3) (pa_cons (pv 2) pa_nil)))
 (pss_one (ps_ret (pe_callTy (call_list_dK rfl) (by rfl) B.m_list (by decide +kernel) (pa_cons (pe_dc (own := [("name", 6)]) (g := gName 6) (tt := tYes) rfl sc_all_variables.nd (pi_list (pv 3)) (blkOk_by (own := [("name", 6)]) (N := N_all_variables) (sc := defScope S_all_variables) (by decide +kernel)) (fun _ _ _ _ _ => pg_name (i := 6) sc_all_variables.nd rfl (by first | exact Or.inl rfl | exact Or.inr rfl)) (fun _ _ _ _ _ => pts_nil) (fun _ _ _ _ _ => (pv 6)) (fun _ _ _ _ _ => pe_bl)) pa_nil))))))), ?_⟩
    refine ⟨_, rfl, i, _, rfl, hI, fun F0 hF0 => ?_⟩
    have s0 := same_new (o := .lst (is.map V.str)) hF0
    refine ⟨_, rfl, p, rfl, ⟨_, SqL.of (s0 _ _ hP)⟩, for_list (xs := ys) (fun j σ G => ∃ (z4 z5 z6 : Option V), σ = [some (.ref i), some (.ref p), some (.ref o), some (.ref F0), z4, z5, z6] ∧ Same H G ∧ G F0 = some (.lst ((is ++ (l.take j).flatMap fun e => varsOf e.2).map V.str))) ⟨_, _, _, rfl, s0, by rw [List.take_zero, List.flatMap_nil, List.append_nil]; exact upd_same⟩ ?_ ?_ ?_⟩
    · rintro j σ G hj ⟨z4, z5, z6, rfl, sG, hG⟩
      exact SqL.of (sG _ _ hP)
    · rintro j x σ G hx ⟨z4, z5, z6, rfl, sG, hG⟩
      obtain ⟨dd, N, hdj, hq, _⟩ := dP.get hx
      rw [List.getElem?_map] at hdj
      cases el : l[j]? with
      | none => rw [el] at hdj; cases hdj
      | some e =>
      rw [el] at hdj
      have edd : pd e = dd := Option.some.inj hdj
      rw [← edd] at hq
      obtain ⟨t, pl, v, rfl, ht, hpl, hv⟩ := pd_inv hq
      obtain ⟨oke, nn, hrow⟩ := okl e (List.mem_of_getElem? el)
      obtain ⟨r, k, us, rs, ps, rfl, RG, alt⟩ := row_view oke hrow (hv.same sG)
      refine ⟨t, _, rfl, SqT.of (sG _ _ ht), rfl, _, _, rfl, _, _, rfl, rfl, ?_⟩
      refine ⟨_, rfl, .inl ⟨rfl, _, SqL.of hG⟩, _, rfl, r, k, us, rs, rfl, RG.rV, fun b G2 s2 hb h2 => ?_⟩
      have vl := vlen j
      have v2 := vars_le oke
      refine ⟨F0, b, _, _, rfl, rfl, s2 _ _ hG, .inl h2, ?_, ?_⟩
      · rw [RG.rX, List.length_map, List.length_map, List.length_append]
        exact Nat.le_of_lt (small1000 (by omega))
      refine ⟨_, _, _, rfl, fun b o e => (upd_ne (ne_of_none e hF0)).trans (s2 _ _ (sG _ _ e)), ?_⟩
      rw [upd_same, RG.rX, take_next el, List.flatMap_append, ← List.map_append, List.append_assoc]
      simp
    · rintro σ G ⟨z4, z5, z6, rfl, sG, hG⟩
      have el : ys.length = l.length := by rw [dP.len, List.length_map]
      rw [el, List.take_length] at hG
      have vl := vlen l.length
      rw [List.take_length] at vl
      obtain ⟨tl, etl⟩ : ∃ tl, tl = is ++ (l.flatMap fun e => varsOf e.2) ++ os := ⟨_, rfl⟩
      have tlen : tl.length ≤ 500 := by
        rw [etl, List.length_append, List.length_append]
        omega
      have hO2 : G o = some (.lst (os.map V.str)) ∨ SqT K G o (os.map V.str) := hO.elim (fun h => .inl (sG _ _ h)) fun h => .inr (sqt_same sG h)
      refine ⟨_, rfl, .inl ⟨rfl, _, SqL.of hG⟩, _, rfl, F0, o, _, _, rfl, rfl, hG, hO2, ?_, ?_⟩
      · rw [List.length_map, List.length_map, List.length_append]
        exact Nat.le_of_lt (small1000 (by omega))
      rw [← List.map_append, ← etl]
      obtain ⟨G1, e1⟩ : ∃ G1 : Hp, G1 = upd G F0 (.lst (tl.map V.str)) := ⟨_, rfl⟩
      have h1 : G1 F0 = some (.lst (tl.map V.str)) := by rw [e1]; exact upd_same
      have s1 : Same H G1 := fun b o e => by rw [e1]; exact (upd_ne (ne_of_none e hF0)).trans (sG _ _ e)
      rw [← e1]
      refine ⟨_, rfl, F0, rfl, ⟨_, SqL.of h1⟩, fun D hD => dc_listN (xs := tl.map V.str) (fun j G' => Same G1 G' ∧ G' D = some (.dK (tkv (dedupN tl j)))) ⟨same_new hD, upd_same⟩ (fun j G' h => SqL.of (h.1 _ _ h1)) ?_ ?_ (fun x σ1 H1 Q1 Q2 m h => m _ _ h)⟩
      · rintro j x G' hx ⟨sG', hD'⟩
        obtain ⟨z, hz, rfl⟩ := get_str hx
        have jl : j ≤ tl.length := Nat.le_of_lt (List.getElem?_eq_some_iff.mp hz).1
        refine ⟨rfl, _, rfl, _, Sum.inr z, rfl, hD', ?_, fun b o e => (upd_ne (ne_of_none e hD)).trans (sG' _ _ e), ?_⟩
        · unfold tkv
          rw [List.length_map]
          have := dedupN_le tl j
          exact small1000 (by omega)
        · rw [upd_same]
          by_cases m : z ∈ tl.take j
          · rw [tkv_put_old ((dedupN_mem jl).mpr m), dedupN_in hz m]
          · rw [tkv_put_new (fun h => m ((dedupN_mem jl).mp h)), dedupN_out hz m]
      · rintro G' ⟨sG', hD'⟩
        rw [List.length_map] at hD'
        refine ⟨D, _, rfl, hD', fun q hq => kk q _ ((s1.trans sG').trans (same_new hq)) ((s1.trans sG').free hq) ?_⟩
        rw [upd_same, ← etl]
        unfold tkv
        rw [List.map_map]
        rfl
end
end TW
set_option Elab.async false
set_option linter.all false
set_option maxRecDepth 100000
namespace TW
open PySem PySem.Spec PyProof.Rows L2 TL
theorem cnt_strs {c : Str} : ∀ ks : List Str, (ks.map V.str).countP (fun z => eqV z (.str c)) = ks.countP (fun k => decide (k = c))
  | [] => rfl
  | k :: ks => by
    rw [List.map_cons, List.countP_cons, List.countP_cons, cnt_strs ks]
    have e : eqV (.str k) (.str c) = decide (k = c) := by
      by_cases h : k = c
      · subst h
        simp [eqV]
      · simp [eqV, h]
    rw [e]
theorem cnt_copies : ∀ l : List (List Int × PyData), (l.map fun e => kindOf e.2).countP (fun k => decide (k = ("copy" : Str))) = (l.map fun e => copiesOf e.2).sum
  | [] => rfl
  | e :: l => by
    rw [List.map_cons, List.countP_cons, List.map_cons, List.sum_cons, cnt_copies l]
    unfold copiesOf
    by_cases h : kindOf e.2 = "copy"
    · rw [if_pos h, if_pos (decide_eq_true h)]
      omega
    · rw [if_neg h, if_neg (by rw [decide_eq_false h]; exact Bool.false_ne_true)]
      omega
theorem cnt_readers : ∀ l : List (List Int × PyData), (l.map fun e => kindOf e.2).countP (fun k => decide (k = ("watch" : Str))) = (l.flatMap fun e => readersOf e.2).length
  | [] => rfl
  | e :: l => by
    rw [List.map_cons, List.countP_cons, List.flatMap_cons, List.length_append, cnt_readers l]
    unfold readersOf
    by_cases h : kindOf e.2 = "watch"
    · rw [if_pos h, if_pos (decide_eq_true h)]
      show _ = 1 + _
      omega
    · rw [if_neg h, if_neg (by rw [decide_eq_false h]; exact Bool.false_ne_true)]
      show _ = 0 + _
      omega
def spMany (K : PySem.W.Frag) (ws fs : List Str) : Sp := fun vs H Q _ => ∃ (p v : Addr) (ys us : List V) (l : List (List Int × PyData)) (M : List Addr), vs = [.ref p, .ref v] ∧ H p = some (.lst ys) ∧ DqAll H ys (l.map pd) M ∧ (∀ e ∈ l, OkR ws fs e.2) ∧ l.length ≤ 20 ∧ H v = some (.lst us) ∧ us.length ≤ 6 ∧
  (l.map fun e => copiesOf e.2).sum ≤ 4 ∧ (l.flatMap fun e => readersOf e.2).length ≤ 3 ∧ ∀ H', Same H H' → Q .non H'
abbrev S_check_many : Stmt := topS 66
abbrev N_check_many : List Str := ["pairs", "variables", "words", "_", "row"]
abbrev P_check_many : List Str := ["pairs", "variables"]
theorem sc_check_many : FnScope N_check_many P_check_many (defScope S_check_many) := ⟨rfl, rfl, rfl, by decide +kernel, rfl, by decide +kernel, by decide +kernel⟩
section
variable {P : Program} {w : World} {K : PySem.W.Frag} {mg : Str → Option Value} {base : Heap}
set_option maxHeartbeats 4000000 in
theorem ok_check_many {f : Addr} {fd : FuncData} {t1 t2 t3 t4 : Tok} {ws fs : List Str} (F : Fun K "check_many" "check_many" S_check_many f fd) (B : Bl mg) (m_MOST_ROWS : mg "MOST_ROWS" = some (.int 20 t1)) (m_MOST_VARIABLES : mg "MOST_VARIABLES" = some (.int 6 t2)) (m_MOST_COPIES : mg "MOST_COPIES" = some (.int 4 t3)) (m_MOST_WATCHES : mg "MOST_WATCHES" = some (.int 3 t4)) :
    FnOk P w K mg base CX0 1 f fd P_check_many (spMany K ws fs) := by
  refine F.ok sc_check_many (fun vs H Q E h => ?_) (fun cdv A outer s H vs Q E hr h => ?_)
  · obtain ⟨p, v, ys, us, l, M, rfl, _⟩ := h
    rfl
  · obtain ⟨p, v, ys, us, l, M, rfl, hP, dP, okl, l20, hV, u6, c4, r3, kk⟩ := h
    refine ⟨_, (pss_cons (ps_setLc (i := 2) (own := [("_", 3), ("row", 4)]) (tt := tYes) rfl sc_check_many.nd rfl rfl (sw_true rfl rfl rfl (by decide +kernel)) (pi_list (pv 0)) (blkOk_by (own := [("_", 3), ("row", 4)]) (N := N_check_many) (sc := defScope S_check_many) (by decide +kernel)) (fun _ _ _ _ _ => (pg_tupK (K := K) (n := 2) rfl rfl (pgs_cons (pg_name (i := 3) sc_check_many.nd rfl (by first | exact Or.inl rfl | exact Or.inr rfl)) (pgs_cons (pg_name (i := 4) sc_check_many.nd rfl (by first | exact Or.inl rfl | exact Or.inr rfl)) pgs_nil)))) (fun _ _ _ _ _ => pts_nil) (fun _ _ _ _ _ => (pe_ix (ix_tupK (K := K) rfl) (pv 4) pe_int (fun _ _ => rfl))))
 (pss_cons (ps_if (PW.pt (pw_or (pt_cmpR op_gt (pe_callB call_len_seq (by rfl) B.m_len PySem.boot_len (pa_cons (pv 2) pa_nil)) (pe_glob (v := .int _) rfl m_MOST_ROWS ⟨_, rfl⟩) (nomark _)) (pw_or1 (pt_cmpR op_gt (pe_callB call_len_seq (by rfl) B.m_len PySem.boot_len (pa_cons (pv 1) pa_nil)) (pe_glob (v := .int _) rfl m_MOST_VARIABLES ⟨_, rfl⟩) (nomark _))))) (pss_one ps_never) pss_nil)
 (pss_one (ps_if (PW.pt (pw_or (pt_cmpR op_gt (pe_bm PySem.F.plainAttrs_list PySem.F.slot_list_count PySem.F.type_list_count mt_countL (pv 2) (pa_cons pe_str pa_nil)) (pe_glob (v := .int _) rfl m_MOST_COPIES ⟨_, rfl⟩) (nomark _)) (pw_or1 (pt_cmpR op_gt (pe_bm PySem.F.plainAttrs_list PySem.F.slot_list_count PySem.F.type_list_count mt_countL (pv 2) (pa_cons pe_str pa_nil)) (pe_glob (v := .int _) rfl m_MOST_WATCHES ⟨_, rfl⟩) (nomark _))))) (pss_one ps_never) pss_nil)))), ?_⟩
    refine ⟨_, rfl, p, rfl, ⟨_, SqL.of hP⟩, fun D hD => lc_list (xs := ys) (fun j G => Same H G ∧ G D = some (.lst (((l.take j).map fun e => kindOf e.2).map V.str))) ⟨same_new hD, upd_same⟩ (fun j G _ h => SqL.of (h.1 _ _ hP)) ?_ ?_⟩
    · rintro j x G hx ⟨sG, hG⟩
      obtain ⟨dd, N, hdj, hq, _⟩ := dP.get hx
      rw [List.getElem?_map] at hdj
      cases el : l[j]? with
      | none => rw [el] at hdj; cases hdj
      | some e =>
      rw [el] at hdj
      have edd : pd e = dd := Option.some.inj hdj
      rw [← edd] at hq
      obtain ⟨t, pl, v', rfl, ht, hpl, hv⟩ := pd_inv hq
      obtain ⟨k, ps, rs, ed, hl, hp⟩ := okl e (List.mem_of_getElem? el)
      obtain ⟨r, us', rfl, hr'⟩ : ∃ r us', v' = .ref r ∧ H r = some (.tup (.str k :: us')) := by
        rw [ed] at hv
        cases hv with
        | tup h1 d1 =>
          cases d1 with
          | cons q1 _ =>
            cases q1
            exact ⟨_, _, rfl, h1⟩
      refine ⟨t, _, rfl, SqT.of (sG _ _ ht), rfl, _, _, rfl, _, _, rfl, rfl, rfl, yes_of ?_⟩
      refine ⟨_, rfl, r, _, 0, .str k, rfl, rfl, SqT.of (sG _ _ hr'), atI_of (j := 0) rfl rfl, _, hG, ?_, fun b o e => (upd_ne (ne_of_none e hD)).trans (sG _ _ e), ?_⟩
      · rw [List.length_map, List.length_map, List.length_take]
        exact small1000 (by omega)
      · have ek : kindOf e.2 = k := by
          rw [ed]
          rfl
        rw [upd_same, take_next el, List.map_append, List.map_append]
        show _ = some (HO.lst (_ ++ [V.str (kindOf e.2)]))
        rw [ek]
    · rintro G ⟨sG, hG⟩
      have el : ys.length = l.length := by rw [dP.len, List.length_map]
      rw [el, List.take_length] at hG
      refine ⟨_, rfl, D, _, rfl, .inl (SqL.of hG), _, _, rfl, rfl, _, rfl, ite_dec (fun hb => ?_) (fun _ => ?_)⟩
      · have := of_decide_eq_true hb
        rw [List.length_map, List.length_map] at this
        omega
      refine ⟨_, rfl, v, _, rfl, .inl (SqL.of (sG _ _ hV)), _, _, rfl, rfl, _, rfl, ite_dec (fun hb => ?_) (fun _ => ?_)⟩
      · have := of_decide_eq_true hb
        omega
      refine ⟨_, rfl, .inl ⟨rfl, _, SqL.of hG⟩, D, _, _, rfl, rfl, SqL.of hG, rfl, flat_strs _, _, _, rfl, rfl, _, rfl, ite_dec (fun hb => ?_) (fun _ => ?_)⟩
      · have := of_decide_eq_true hb
        rw [cnt_strs, cnt_copies] at this
        omega
      refine ⟨_, rfl, .inl ⟨rfl, _, SqL.of hG⟩, D, _, _, rfl, rfl, SqL.of hG, rfl, flat_strs _, _, _, rfl, rfl, _, rfl, ite_dec (fun hb => ?_) (fun _ => kk G sG)⟩
      have := of_decide_eq_true hb
      rw [cnt_strs, cnt_readers] at this
      omega
end
end TW
set_option Elab.async false
set_option linter.all false
set_option maxRecDepth 100000
set_option maxHeartbeats 1000000
namespace L2
open PySem PySem.Spec PyProof.Rows
section
variable {X : Cx}
/-- a store into a dict whose keys are tuples, as a comprehension makes it -/
theorem dictSetT {pn : List (Addr × Obj)} {τ : St} {G : Hp} {z : Shared} {E : Value → Shared → Prop} {q b : Addr} {m : List (List Key × V)} {k : List Key} {v : V} {r : Value} {Q : Unit → Shared → Prop} (hu : X.A.units < cLine) (J : Inv X pn τ G z) (hq : G q = some (.dT m)) (hb : G b = some (.tup (k.map kV))) (small : m.length < sizeLine)
    (rv : RelV v r) (fin : ∀ z', Inv X pn τ (upd G q (.dT (putK m k v))) z' → Q () z') : wpAny (model X.prog X.w) X.A (dictSet q (.ref b) r) Q E z := by
  obtain ⟨len, low, xs, rel, dd⟩ := dt_of J.hok hq
  have l1 : xs.length ≤ sizeLine := by
    rw [← Paired.length rel]
    exact len
  have l2 : (putK m k v).length ≤ sizeLine := Nat.le_trans (length_putK m k v) small
  refine wpAny_dictSet_heap (hsz := l1) hu (key_of J.hok hb) dd fun h' dd' same => fin _ ?_
  obtain ⟨o, ents, ep, ho, c1, c2, c3, _, c5⟩ := dd'
  refine d_write J (by rw [hq]; exact True.intro) same ⟨o, ho⟩ ⟨l2, low, _, (rel.put k hb rv).keeps fun c ys ec => ?_, o, ents, ep, ho, c1, c2, c3, c5⟩
  rw [upd_ne (ne_of ec hq fun n => nomatch n)]
  exact ec
/-- {place: v for .. in ..}, the keys tuples, without a test: q the new dict -/
def tDcT (wi : TI) (g : TG) (tk tv : TE) (vs : List Nat) : TE := fun σ H Q => wi σ H fun J H1 => ∀ q, H1 q = none → ∃ Z : Nat → Nat → Hp → Prop, (∃ m, Z 0 m (upd H1 q (.dT []))) ∧ ∀ i m G, Z i m G →
  (J.stop i G ∧ Q (.ref q) G) ∨ (J.go i G ∧ ∃ Y : Hp → Prop, (∀ G', Y G' → ∃ m', m' < m ∧ Z (i + 1) m' G') ∧ ∀ x G', J.yld i G x G' → g x (wipe σ vs) G' fun σ2 G2 => wipe σ2 vs = wipe σ vs ∧
    tk σ2 G2 fun y G3 => tv σ2 G3 fun z G4 => ∃ kvs k b, y = .ref b ∧ G4 b = some (.tup (k.map kV)) ∧ G4 q = some (.dT kvs) ∧ kvs.length < sizeLine ∧ Y (upd G4 q (.dT (putK kvs k z))))
theorem pe_dcT {ke ve tg src : Expr} {sc : Scope} {own : List (Str × Nat)} {pos : Pos} {wi : TI} {g : TG} {tk tv : TE} (hu : X.A.units < cLine) (calm : X.calm = true) (nd : X.N.Nodup) (walked : PI X tg src wi) (bo : BlkOk X.N X.env.scope sc own)
    (pg : ∀ (s : Shared) (H : Hp) (C : Addr) (cl : List (Str × Addr)) (fp : List Addr), PG (X.blk s H sc (compEnvC sc cl C X.env) fp) tg g)
    (pk : ∀ (s : Shared) (H : Hp) (C : Addr) (cl : List (Str × Addr)) (fp : List Addr), PE (X.blk s H sc (compEnvC sc cl C X.env) fp) ke tk)
    (pv : ∀ (s : Shared) (H : Hp) (C : Addr) (cl : List (Str × Addr)) (fp : List Addr), PE (X.blk s H sc (compEnvC sc cl C X.env) fp) ve tv) (plain : ∀ x, foldedSetIterable src X.env x = pure x := by intro _; rfl) :
    PE X (.DictComp ke ve [⟨tg, src, [], 0⟩] sc pos) (tDcT wi g tk tv (own.map (·.2))) := by
  constructor
  intro pn z σ H Q I reads
  rw [arm_eval_DictComp]
  have cells : ∀ y ∈ sc.names, y.2 = .free → ∃ c, X.env.cells.lookup y.1 = some c := fun y m e => I.ok.has y.1 (bo.free y m e)
  refine wpAny_comprehension_free rfl plain (closure_ok cells) bo.kind (fun y m e => by rw [bo.uniq y m, e]) (thn (walked.run pn z σ H _ I reads) fun _ _ q1 => thn q1 fun _ z2 q2 => ?_)
  obtain ⟨it, fp, stand, J, H2, rfl, I2, T, at0, apart, rest⟩ := q2
  refine wpAny_newObj_type (newEnv_comp ?_)
  -- the new dict, and the block's own frame behind it
  obtain ⟨q, eq⟩ : ∃ q, q = z2.heap.objs.size := ⟨_, rfl⟩
  obtain ⟨G0, eG⟩ : ∃ G0 : Hp, G0 = upd H2 q (.dT []) := ⟨_, rfl⟩
  obtain ⟨z3, ez⟩ : ∃ z3 : Shared, z3 = { z2 with heap := z2.heap.push { cls := .type "dict", data := .dict #[] } } := ⟨_, rfl⟩
  have I3 : Inv X pn σ G0 z3 := by
    rw [eG, ez, eq]
    exact I2.laid (t' := z2.toks) (fun _ _ e => Heap.get?_push_of_some _ e) (Nat.le_refl _) (dt_empty z2.heap I2.big)
  have free0 : H2 q = none := I2.hok.fresh (Nat.le_of_eq eq.symm)
  obtain ⟨Z, ⟨m0, start⟩, turn⟩ := rest q free0
  rw [← eG] at start
  have away : ∀ b ∈ fp, b < q := fun b m => by
    obtain ⟨_, e, _⟩ := T.obj _ _ at0 b m
    rw [eq]
    exact Heap.lt_size e
  have grown : z3.heap.objs.size = q + 1 := by rw [ez, eq]; exact Heap.size_push ..
  have off : ∀ b ∈ fp, FpOk X pn G0 b ∧ b < z3.heap.objs.size := fun b m => by
    have lt := away b m
    refine ⟨⟨?_, (apart b m).2⟩, by rw [grown]; exact Nat.lt_succ_of_lt lt⟩
    rw [eG, upd_ne (Nat.ne_of_lt lt)]
    exact (apart b m).1
  have old : ∀ b o, z2.heap.get? b = some o → z3.heap.get? b = some o := fun _ _ e => by rw [ez]; exact Heap.get?_push_of_some _ e
  obtain ⟨z4, ez4⟩ : ∃ z4 : Shared, z4 = { z3 with heap := pushCells (z3.heap.push { cls := .type "dict", data := .dict #[] }) sc.names } := ⟨_, rfl⟩
  obtain ⟨cls, ecl⟩ : ∃ cls : List (Str × Addr), cls = cellsFrom (z3.heap.objs.size + 1) sc.names (cloFrom X.env.cells sc.names []) := ⟨_, rfl⟩
  obtain ⟨env, een⟩ : ∃ env : Env, env = compEnvC sc cls z3.heap.objs.size X.env := ⟨_, rfl⟩
  have eloc : env.locals = z3.heap.objs.size := by rw [een]; rfl
  have I4 : Inv (X.blk z3 G0 sc env fp) [] (wipe σ (own.map (·.2))) G0 z4 := by
    rw [een, ecl, ez4]
    exact block_start I3 bo nd off
  have at4 : stand 0 z4.heap := T.keep _ _ _ at0 fun b _ o e => by rw [ez4]; exact pushCells_keeps _ _ _ _ (Heap.get?_push_of_some _ (old b o e))
  have pg := pg z3 G0 z3.heap.objs.size cls fp
  have pk := pk z3 G0 z3.heap.objs.size cls fp
  have pv := pv z3 G0 z3.heap.objs.size cls fp
  rw [← een] at pg pk pv
  have hold : ∀ {σ' : St} {G : Hp} {s' : Shared}, Inv (X.blk z3 G0 sc env fp) [] σ' G s' → (∀ b ∈ fp, G b = none) → ∀ b ∈ fp, FpOk (X.blk z3 G0 sc env fp) [] G b := fun I' none' b m => by
    obtain ⟨x1, x2⟩ := I'.ok.exf b m
    exact ⟨none' b m, x1, I'.ok.exfs b m, .inl m, fun x c e => x2 x c e, fun p hp => absurd (show p ∈ ([] : List (Addr × Obj)) ++ [] from hp) List.not_mem_nil⟩
  have all : codeAny (model X.prog X.w) X.A (.compLoop (.DictComp ke ve [⟨tg, src, [], 0⟩] sc pos) 0 (.ref it) (.ref q) env) (compPost (model X.prog X.w) X.A X.xe none (EP X pn σ Q) (.ref q) z3.heap.objs.size) z4 := by
    refine compLoop_anyD (fun m s' => ∃ i G, Inv (X.blk z3 G0 sc env fp) [] (wipe σ (own.map (·.2))) G s' ∧ stand i s'.heap ∧ (∀ b ∈ fp, G b = none) ∧ Z i m G) ?_ m0 ⟨0, G0, I4, at4, fun b m => (off b m).1.1, start⟩
    rintro m s5 ⟨i, G, I5, at5, no5, zz⟩
    rcases turn i m G zz with ⟨halt, q5⟩ | ⟨goes, Y, back, each⟩
    · refine thnF (T.done (X.blk z3 G0 sc env fp) rfl rfl rfl calm i [] s5 _ G (fun _ _ => False) I5 (hold I5 no5) at5 halt) fun _ s6 ⟨none6, I6⟩ => ?_
      subst none6
      have I7 : Inv X pn σ G s6 := I3.call' (ch := fp) I6.os I6.base I6.hok I6.bare fun b m => by
        obtain ⟨_, x1, x2, x3, x4, x5⟩ := (off b m).1
        exact ⟨x3, x1, x4, x5⟩
      obtain ⟨names, hn, _⟩ := I6.loc
      have hn : s6.heap.Ns env.locals names := hn
      have nL : G env.locals = none := I6.free
      rw [eloc] at hn nL
      obtain ⟨y0, y1, y2, y3, y4, y5⟩ := I3.fpOk (Nat.le_refl _) nL
      exact ⟨names, hn, fun h'' sb => ⟨.ref q, G, I7.turned (t' := s6.toks) (fun b o ne e => (sb.2 b ne).trans e) y0 y1 y3 y4 y5, rfl, q5⟩⟩
    · refine thnF (T.item (X.blk z3 G0 sc env fp) rfl rfl rfl calm i [] s5 _ G (fun _ _ => False) I5 (hold I5 no5) at5 goes) fun _ s6 ⟨u, some6, more⟩ => ?_
      subst some6
      refine thnF more fun _ s7 ⟨x, G7, I7, rx, yl, at7, no7⟩ => ?_
      have I8 := I7.pinned (hold I7 no7) (T.obj _ _ at7)
      refine thnF (pg.run _ s7 _ G7 x u _ I8 rx (each x G7 yl)) fun _ s9 ⟨σ9, G9, I9, wiped, q9⟩ => ?_
      refine wpAny_tests_nil ?_
      rw [if_pos rfl]
      refine thnF (pk.run _ s9 σ9 G9 _ I9 q9) fun _ s10 ⟨yk, G10, I10, rk, q10⟩ => ?_
      refine thnF (pv.run _ s10 σ9 G10 _ I10 q10) fun _ s11 ⟨yv, G11, I11, rv, kvs, k, b, ek, hb, hq, small, nx⟩ => ?_
      subst ek
      cases rk
      refine dictSetT (X := X.blk z3 G0 sc env fp) hu I11 hq hb small rv fun s12 I12 => ?_
      obtain ⟨m', less, next⟩ := back _ nx
      have kept : ∀ b ∈ fp, ∀ o, s7.heap.get? b = some o → s12.heap.get? b = some o ∧ (upd G11 q (.dT (putK kvs k yv))) b = none := fun b hm o e => by
        obtain ⟨a1, a2, _⟩ := I12.pin (b, o) (List.mem_append_right _ (List.mem_append_right _ (mem_pinsAt hm e)))
        exact ⟨a1, a2⟩
      have same : (wipe σ (own.map (·.2))).length = σ9.length := by rw [← wiped, wipe_length]
      refine ⟨m', less, i + 1, _, (I12.unpinned (pins := [])).weak same (fun j v e => ?_), T.keep _ _ _ at7 fun b hm o e => (kept b hm o e).1, fun b hm => ?_, next⟩
      · rw [← wiped] at e
        exact (wipe_some e).1
      · obtain ⟨o, e, _⟩ := T.obj _ _ at7 b hm
        exact (kept b hm o e).2
  have fin := codeAny_compStart_dict all (T.self X.A 0 _ _ _ at4 all)
  rw [een, ecl, ez4, ez] at fin
  rw [eq] at fin
  exact fin
end
end L2
set_option Elab.async false
set_option linter.all false
set_option maxRecDepth 100000
namespace TW
open PySem PySem.Spec PyProof.Rows L2 TL
/-! words in a tuple, of the heap or of the written part -/
def WT (K : PySem.W.Frag) (G : Hp) (a : Addr) (ws : List Str) : Prop := G a = some (.tup (ws.map V.str)) ∨ ∀ G', SqT K G' a (ws.map V.str)
def WS (K : PySem.W.Frag) (G : Hp) (a : Addr) (ws : List Str) : Prop := G a = some (.lst (ws.map V.str)) ∨ WT K G a ws
section
variable {K : PySem.W.Frag} {G G' : Hp} {a h : Addr} {ws : List Str}
theorem WT.sqt (w : WT K G a ws) : SqT K G a (ws.map V.str) := w.elim SqT.of fun z => z G
theorem WT.same (w : WT K G a ws) (s : Same G G') : WT K G' a ws := w.elim (fun e => .inl (s _ _ e)) .inr
theorem WS.same (w : WS K G a ws) (s : Same G G') : WS K G' a ws := w.elim (fun e => .inl (s _ _ e)) fun z => .inr (z.same s)
theorem WT.keep (w : WT K G a ws) (s : ∀ xs, G a = some (.tup xs) → G' a = some (.tup xs)) : WT K G' a ws := w.elim (fun e => .inl (s _ e)) .inr
theorem WS.seq (w : WS K G a ws) : SqL K G a (ws.map V.str) ∨ SqT K G a (ws.map V.str) := w.elim (fun e => .inl (SqL.of e)) fun z => .inr z.sqt
theorem kd_wt (z : ∀ G', SqT K G' a (ws.map V.str)) : Kd K G (.ref a) "tuple" := by
  refine ⟨by decide, ?_, fun y e => by cases e⟩
  rcases z (fun _ => none) with (e | ⟨o, e⟩) | ⟨o, its, n, e, c, _⟩
  · cases e
  · cases e
  · exact .kTuple e c
theorem WS.kd (w : WS K G a ws) : ∃ T, (T = "list" ∨ T = "tuple") ∧ Kd K G (.ref a) T := by
  rcases w with e | e | z
  · exact ⟨"list", .inl rfl, by decide, .base (.lst e), fun y e => by cases e⟩
  · exact ⟨"tuple", .inr rfl, by decide, .base (.tup e), fun y e => by cases e⟩
  · exact ⟨"tuple", .inr rfl, kd_wt z⟩
theorem WS.seqK (w : WS K G a ws) (hw : ∀ x ∈ ws, IsW x) (l : ws.length ≤ 1000) : SeqK K G a (ws.map V.str) := ⟨w.seq, by rw [List.length_map]; omega, fun y hy => by
  obtain ⟨z, hz, rfl⟩ := List.mem_map.mp hy
  exact ⟨_, kdW (by have := (hw z hz).2.1; omega)⟩⟩
theorem ne_tup {C dx : Addr} {fl : List (Str × V)} {xs : List V} (e : G h = some (.ins C dx fl)) (z : G a = some (.tup xs)) : a ≠ h := fun n => by
  rw [n, e] at z
  cases z
theorem ne_lst {C dx : Addr} {fl : List (Str × V)} {xs : List V} (e : G h = some (.ins C dx fl)) (z : G a = some (.lst xs)) : a ≠ h := fun n => by
  rw [n, e] at z
  cases z
end
theorem pn1 : ¬ (("inputs" : Str) = "fields") := by decide +kernel
theorem pn2 : ¬ (("inputs" : Str) = "outputs") := by decide +kernel
theorem pn3 : ¬ (("inputs" : Str) = "_rows") := by decide +kernel
theorem pn4 : ¬ (("inputs" : Str) = "_table") := by decide +kernel
theorem pn5 : ¬ (("inputs" : Str) = "_variables") := by decide +kernel
theorem pn6 : ¬ (("fields" : Str) = "outputs") := by decide +kernel
theorem pn7 : ¬ (("fields" : Str) = "_rows") := by decide +kernel
theorem pn8 : ¬ (("fields" : Str) = "_table") := by decide +kernel
theorem pn9 : ¬ (("fields" : Str) = "_variables") := by decide +kernel
theorem pn10 : ¬ (("outputs" : Str) = "_rows") := by decide +kernel
theorem pn11 : ¬ (("outputs" : Str) = "_table") := by decide +kernel
theorem pn12 : ¬ (("outputs" : Str) = "_variables") := by decide +kernel
theorem pn13 : ¬ (("_rows" : Str) = "_table") := by decide +kernel
theorem pn14 : ¬ (("_rows" : Str) = "_variables") := by decide +kernel
theorem pn15 : ¬ (("_table" : Str) = "_variables") := by decide +kernel
/-- where the parts of a Program stand -/
structure PP where
  dx : Addr
  tI : Addr
  tF : Addr
  tO : Addr
  qR : Addr
  qT : Addr
  qV : Addr
  LR : List Addr
  us : List V
  LT : List Addr
def pfl (p : PP) : List (Str × V) := putF "_variables" (.ref p.qV) (putF "_table" (.ref p.qT) (putF "_rows" (.ref p.qR) (putF "outputs" (.ref p.tO) (putF "fields" (.ref p.tF) (putF "inputs" (.ref p.tI) [])))))
theorem pfl_inputs (p : PP) : (pfl p).lookup ("inputs" : Str) = some (.ref p.tI) := by
  unfold pfl
  rw [lookup_putF, if_neg pn5, lookup_putF, if_neg pn4, lookup_putF, if_neg pn3, lookup_putF, if_neg pn2, lookup_putF, if_neg pn1, lookup_putF, if_pos rfl]
theorem pfl_fields (p : PP) : (pfl p).lookup ("fields" : Str) = some (.ref p.tF) := by
  unfold pfl
  rw [lookup_putF, if_neg pn9, lookup_putF, if_neg pn8, lookup_putF, if_neg pn7, lookup_putF, if_neg pn6, lookup_putF, if_pos rfl]
theorem pfl_outputs (p : PP) : (pfl p).lookup ("outputs" : Str) = some (.ref p.tO) := by
  unfold pfl
  rw [lookup_putF, if_neg pn12, lookup_putF, if_neg pn11, lookup_putF, if_neg pn10, lookup_putF, if_pos rfl]
theorem pfl_rows (p : PP) : (pfl p).lookup ("_rows" : Str) = some (.ref p.qR) := by
  unfold pfl
  rw [lookup_putF, if_neg pn14, lookup_putF, if_neg pn13, lookup_putF, if_pos rfl]
theorem pfl_table (p : PP) : (pfl p).lookup ("_table" : Str) = some (.ref p.qT) := by
  unfold pfl
  rw [lookup_putF, if_neg pn15, lookup_putF, if_pos rfl]
theorem pfl_variables (p : PP) : (pfl p).lookup ("_variables" : Str) = some (.ref p.qV) := by
  unfold pfl
  rw [lookup_putF, if_pos rfl]
/-- what a program is made of -/
structure GoodP (is fs os : List Str) (n : Nat) (ds : List PyData) (ws : List Str) : Prop where
  iw : ∀ x ∈ is, IsW x
  iN : is.Nodup
  i1 : 1 ≤ is.length
  i3 : is.length ≤ 3
  fw : ∀ x ∈ fs, IsW x
  fN : fs.Nodup
  f1 : 1 ≤ fs.length
  f2 : fs.length ≤ 2
  ow : ∀ x ∈ os, IsW x
  oN : os.Nodup
  o3 : os.length ≤ 3
  ww : ∀ x ∈ ws, IsW x
  n3 : n ≤ 3
  rd : ∀ d ∈ ds, RowD n d
  ok : ∀ d ∈ rowsD n ds, OkR ws fs d
  r20 : (rowsD n ds).length ≤ 20
  c4 : cps n ds ≤ 4
  w3 : (rds n ds).length ≤ 3
  wN : (rds n ds).Nodup
  v6 : (dedupF (is ++ (rowsD n ds).flatMap varsOf ++ os)).length ≤ 6
def vars (is os : List Str) (n : Nat) (ds : List PyData) : List Str := dedupF (is ++ (rowsD n ds).flatMap varsOf ++ os)
def keyI (pl : List Int) : List Key := pl.map Sum.inl
/-- a Program at h -/
structure ProgAt (K : PySem.W.Frag) (C : Addr) (H : Hp) (h : Addr) (is fs os : List Str) (n : Nat) (ds : List PyData) (ws : List Str) (p : PP) : Prop where
  ob : H h = some (.ins C p.dx (pfl p))
  i : WT K H p.tI is
  f : WT K H p.tF fs
  o : WT K H p.tO os
  r : Dq H (.ref p.qR) (.list ds) p.LR
  t : H p.qT = some (.dT (((walkD n [] ds).map fun e => keyI e.1).zip p.us))
  u : DqAll H p.us (rowsD n ds) p.LT
  v : H p.qV = some (.lst ((vars is os n ds).map V.str))
  g : GoodP is fs os n ds ws
/-- what may not be written to -/
def PP.own (p : PP) : List Addr := p.qV :: (p.LR ++ p.LT)
theorem ProgAt.same {K : PySem.W.Frag} {C h : Addr} {H H' : Hp} {is fs os ws : List Str} {n : Nat} {ds : List PyData} {p : PP} (A : ProgAt K C H h is fs os n ds ws p) (s : Same H H') : ProgAt K C H' h is fs os n ds ws p :=
  ⟨s _ _ A.ob, A.i.same s, A.f.same s, A.o.same s, A.r.same s, s _ _ A.t, A.u.same s, s _ _ A.v, A.g⟩
/-- lists that are none of its own may be written to -/
theorem ProgAt.only {K : PySem.W.Frag} {C h : Addr} {H H' : Hp} {is fs os ws : List Str} {n : Nat} {ds : List PyData} {p : PP} {L : List Addr} (A : ProgAt K C H h is fs os n ds ws p) (s : OnlyL L H H') (hL : ∀ x ∈ L, ∃ xs, H x = some (.lst xs)) (off : ∀ x ∈ L, x ∉ p.own) : ProgAt K C H' h is fs os n ds ws p := by
  have no : ∀ {b : Addr} {o : HO}, H b = some o → (∀ xs, o ≠ .lst xs) → H' b = some o := fun {b o} e n => s _ _ e fun m => by
    obtain ⟨xs, z⟩ := hL b m
    rw [e] at z
    exact n xs (Option.some.inj z)
  have kp : ∀ {M : List Addr}, (∀ x ∈ M, x ∈ p.own) → (∀ x ∈ M, ∃ xs, H x = some (.lst xs)) → KeepL M H H' := fun h1 h2 => ⟨fun b m => by
    obtain ⟨xs, e⟩ := h2 b m
    rw [e]
    exact s _ _ e fun z => off b z (h1 b m), fun b xs e => no e fun _ z => nomatch z⟩
  have wt : ∀ {a : Addr} {zs : List Str}, WT K H a zs → WT K H' a zs := fun w => w.keep fun xs e => no e fun _ z => nomatch z
  refine ⟨no A.ob fun _ z => (nomatch z), wt A.i, wt A.f, wt A.o, A.r.keep (kp (fun x m => ?_) A.r.there), no A.t fun _ z => (nomatch z), A.u.keep (kp (fun x m => ?_) A.u.there), s _ _ A.v fun z => off _ z (List.mem_cons_self ..), A.g⟩
  · exact List.mem_cons_of_mem _ (List.mem_append_left _ m)
  · exact List.mem_cons_of_mem _ (List.mem_append_right _ m)
def spProgI (K : PySem.W.Frag) (C : Addr) : Sp := fun vs H Q _ => ∃ (h dx aI aF aR aO : Addr) (is fs os : List Str) (n : Nat) (ds : List PyData) (ws : List Str) (L : List Addr), vs = [.ref h, .ref aI, .ref aF, .ref aR, .ref aO] ∧ H h = some (.ins C dx []) ∧ WS K H aI is ∧ WS K H aF fs ∧ Dq H (.ref aR) (.list ds) L ∧ ds.length ≤ 100 ∧ WS K H aO os ∧ GoodP is fs os n ds ws ∧
  ∀ (p : PP) (H' : Hp), (∀ b o, H b = some o → b ≠ h → H' b = some o) → ProgAt K C H' h is fs os n ds ws p → (∀ x ∈ p.own, H x = none) → Q .non H'
/-- what the walk asks of the class -/
structure HCP (K : PySem.W.Frag) (mg : Str → Option Value) (C : Addr) : Prop where
  cl : Cls K C
  nI : NoAttr K C "inputs"
  nF : NoAttr K C "fields"
  nO : NoAttr K C "outputs"
  nR : NoAttr K C "_rows"
  nT : NoAttr K C "_table"
  nV : NoAttr K C "_variables"
  g : mg "Program" = some (.ref C)
abbrev S_Program___init__ : Stmt := inClass (topS 62) 0
abbrev N_Program___init__ : List Str := ["self", "inputs", "fields", "rows", "outputs", "pairs", "variables", "place", "row"]
abbrev P_Program___init__ : List Str := ["self", "inputs", "fields", "rows", "outputs"]
theorem sc_Program___init__ : FnScope N_Program___init__ P_Program___init__ (defScope S_Program___init__) := ⟨rfl, rfl, rfl, by decide +kernel, rfl, by decide +kernel, by decide +kernel⟩
abbrev S_Program_rows : Stmt := inClass (topS 62) 3
abbrev N_Program_rows : List Str := ["self"]
abbrev P_Program_rows : List Str := ["self"]
theorem sc_Program_rows : FnScope N_Program_rows P_Program_rows (defScope S_Program_rows) := ⟨rfl, rfl, rfl, by decide +kernel, rfl, by decide +kernel, by decide +kernel⟩
abbrev S_Program_variables : Stmt := inClass (topS 62) 9
abbrev N_Program_variables : List Str := ["self"]
abbrev P_Program_variables : List Str := ["self"]
theorem sc_Program_variables : FnScope N_Program_variables P_Program_variables (defScope S_Program_variables) := ⟨rfl, rfl, rfl, by decide +kernel, rfl, by decide +kernel, by decide +kernel⟩
end TW
set_option Elab.async false
set_option linter.all false
set_option maxRecDepth 100000
namespace TW
open PySem PySem.Spec PyProof.Rows L2 TL
/-! places are unlike -/
def Ext (b : List Int) (p : List Int) : Prop := ∃ rest, p = b ++ rest ∧ rest ≠ []
theorem ext_trans {b c p : List Int} (h : Ext (b ++ c) p) : Ext b p := by
  obtain ⟨rest, rfl, h⟩ := h
  exact ⟨c ++ rest, List.append_assoc .., fun e => h (List.append_eq_nil_iff.mp e).2⟩
theorem lvl_unlike {W : List Int → List PyData → List (List Int × PyData)} (hW : ∀ b as, ((W b as).map (·.1)).Nodup) (hE : ∀ b as, ∀ e ∈ W b as, Ext b e.1) (base : List Int) : ∀ (ds : List PyData) (k : Nat),
    (((ds.zipIdx k).flatMap fun p => (base ++ [(p.2 : Int)], p.1) :: (W (base ++ [(p.2 : Int)] ++ [0]) (inner p.1).1 ++ W (base ++ [(p.2 : Int)] ++ [1]) (inner p.1).2)).map (·.1)).Nodup ∧
    ∀ e ∈ ((ds.zipIdx k).flatMap fun p => (base ++ [(p.2 : Int)], p.1) :: (W (base ++ [(p.2 : Int)] ++ [0]) (inner p.1).1 ++ W (base ++ [(p.2 : Int)] ++ [1]) (inner p.1).2)), ∃ (i : Nat) (rest : List Int), k ≤ i ∧ e.1 = base ++ ((i : Int) :: rest)
  | [], k => ⟨List.nodup_nil, fun e m => nomatch m⟩
  | d :: ds, k => by
    obtain ⟨ih1, ih2⟩ := lvl_unlike hW hE base ds (k + 1)
    have blk : ∀ e ∈ ((base ++ [(k : Int)], d) :: (W (base ++ [(k : Int)] ++ [0]) (inner d).1 ++ W (base ++ [(k : Int)] ++ [1]) (inner d).2)), ∃ rest : List Int, e.1 = base ++ ((k : Int) :: rest) := by
      intro e m
      rcases List.mem_cons.mp m with rfl | m
      · exact ⟨[], rfl⟩
      · rcases List.mem_append.mp m with m | m
        · obtain ⟨rest, h, _⟩ := ext_trans (hE _ _ e m)
          exact ⟨rest, by rw [h, List.append_assoc]; rfl⟩
        · obtain ⟨rest, h, _⟩ := ext_trans (hE _ _ e m)
          exact ⟨rest, by rw [h, List.append_assoc]; rfl⟩
    have n0 : (((base ++ [(k : Int)], d) :: (W (base ++ [(k : Int)] ++ [0]) (inner d).1 ++ W (base ++ [(k : Int)] ++ [1]) (inner d).2)).map (·.1)).Nodup := by
      rw [List.map_cons, List.nodup_cons, List.map_append, List.nodup_append]
      refine ⟨fun m => ?_, hW _ _, hW _ _, fun x hx y hy e => ?_⟩
      · have long : ∀ x ∈ ((W (base ++ [(k : Int)] ++ [0]) (inner d).1).map (·.1) ++ (W (base ++ [(k : Int)] ++ [1]) (inner d).2).map (·.1)), (base ++ [(k : Int)]).length < x.length := by
          intro x m
          rcases List.mem_append.mp m with m | m
          · obtain ⟨e, me, rfl⟩ := List.mem_map.mp m
            obtain ⟨rest, h, _⟩ := hE _ _ e me
            rw [h]
            simp only [List.length_append, List.length_cons, List.length_nil]
            omega
          · obtain ⟨e, me, rfl⟩ := List.mem_map.mp m
            obtain ⟨rest, h, _⟩ := hE _ _ e me
            rw [h]
            simp only [List.length_append, List.length_cons, List.length_nil]
            omega
        have := long _ m
        exact absurd this (Nat.lt_irrefl _)
      · obtain ⟨e1, m1, rfl⟩ := List.mem_map.mp hx
        obtain ⟨e2, m2, rfl⟩ := List.mem_map.mp hy
        obtain ⟨r1, h1, _⟩ := hE _ _ e1 m1
        obtain ⟨r2, h2, _⟩ := hE _ _ e2 m2
        rw [h1, h2, List.append_assoc, List.append_assoc (base ++ [(k : Int)])] at e
        have := List.append_cancel_left e
        rw [List.singleton_append, List.singleton_append] at this
        injection this with h _
        omega
    rw [List.zipIdx_cons, List.flatMap_cons]
    refine ⟨?_, fun e m => ?_⟩
    · rw [List.map_append, List.nodup_append]
      refine ⟨n0, ih1, fun x hx y hy e => ?_⟩
      obtain ⟨e1, m1, rfl⟩ := List.mem_map.mp hx
      obtain ⟨e2, m2, rfl⟩ := List.mem_map.mp hy
      obtain ⟨r1, h1⟩ := blk e1 m1
      obtain ⟨i, r2, hi, h2⟩ := ih2 e2 m2
      rw [h1, h2] at e
      have := List.append_cancel_left e
      injection this with h _
      omega
    · rcases List.mem_append.mp m with m | m
      · obtain ⟨rest, h⟩ := blk e m
        exact ⟨k, rest, Nat.le_refl _, h⟩
      · obtain ⟨i, rest, hi, h⟩ := ih2 e m
        exact ⟨i, rest, by omega, h⟩
theorem walk_ext : ∀ (n : Nat) (base : List Int) (ds : List PyData), ((walkD n base ds).map (·.1)).Nodup ∧ ∀ e ∈ walkD n base ds, Ext base e.1
  | 0, base, ds => by
    obtain ⟨h1, h2⟩ := lvl_unlike (W := fun _ _ => []) (fun _ _ => List.nodup_nil) (fun _ _ e m => nomatch m) base ds 0
    exact ⟨h1, fun e m => by
      obtain ⟨i, rest, _, h⟩ := h2 e m
      exact ⟨_, h, by simp⟩⟩
  | n + 1, base, ds => by
    obtain ⟨h1, h2⟩ := lvl_unlike (W := walkD n) (fun b as => (walk_ext n b as).1) (fun b as => (walk_ext n b as).2) base ds 0
    exact ⟨h1, fun e m => by
      obtain ⟨i, rest, _, h⟩ := h2 e m
      exact ⟨_, h, by simp⟩⟩
theorem keyI_inj {p q : List Int} (h : p.map (Sum.inl (β := Str)) = q.map Sum.inl) : p = q := by
  induction p generalizing q with
  | nil => cases q with
    | nil => rfl
    | cons y q => cases h
  | cons x p ih => cases q with
    | nil => cases h
    | cons y q =>
      injection h with h1 h2
      injection h1 with h1
      rw [h1, ih h2]
/-- a table grows by a new key -/
theorem putT_new {ks : List (List Key)} {us : List V} {k : List Key} {v : V} (hl : ks.length = us.length) (h : k ∉ ks) : putK (ks.zip us) k v = (ks ++ [k]).zip (us ++ [v]) := by
  have e : valV (ks.zip us) k = none := by
    clear hl
    induction ks generalizing us with
    | nil => rfl
    | cons k0 ks ih =>
      cases us with
      | nil => rfl
      | cons u us =>
        rw [List.zip_cons_cons, valV_neg (fun z => h (by rw [← z]; exact List.mem_cons_self ..))]
        exact ih fun m => h (List.mem_cons_of_mem _ m)
  rw [putK_new _ e, List.zip_append hl]
  rfl
theorem rowsD_rd : ∀ {n : Nat} {ds : List PyData}, (∀ d ∈ ds, RowD n d) → ∀ d ∈ rowsD n ds, RowD n d
  | n, ds, h, d, m => by
    rw [rowsD_lvl] at m
    unfold lvlR at m
    obtain ⟨e, he, m⟩ := List.mem_flatMap.mp m
    rcases List.mem_cons.mp m with rfl | m
    · exact h _ he
    · rcases row_inner (h e he) with z | ⟨k, as, bs, rfl, z, ra, rb, _, _⟩
      · rw [z] at m
        have : Rn n [] ++ Rn n [] = [] := by rw [Rn_nil]; rfl
        rw [show (([] : List PyData), ([] : List PyData)).1 = [] from rfl, show (([] : List PyData), ([] : List PyData)).2 = [] from rfl, this] at m
        cases m
      · rw [z] at m
        rcases List.mem_append.mp m with m | m
        · exact (rowsD_rd ra d m).up
        · exact (rowsD_rd rb d m).up
theorem rows_up {n : Nat} {ds : List PyData} (h : ∀ d ∈ ds, RowD n d) : rowsD (n + 1) ds = rowsD n ds := by
  rw [← walkD_rows (n + 1) [] ds, ← walkD_rows n [] ds, walk_up h]
theorem rowsD_sub : ∀ {n : Nat} {ds : List PyData}, (∀ d ∈ ds, RowD n d) → ∀ d ∈ rowsD n ds, ∀ e ∈ rowsD n [d], e ∈ rowsD n ds
  | n, ds, h, d, m, e, he => by
    have m0 := m
    rw [rowsD_lvl] at m
    unfold lvlR at m
    obtain ⟨t, ht, m⟩ := List.mem_flatMap.mp m
    rcases List.mem_cons.mp m with rfl | m
    · exact rowsD_mem ht he
    · rcases row_inner (h t ht) with z | ⟨k, as, bs, rfl, z, ra, rb, _, _⟩
      · rw [z] at m
        have : Rn n [] ++ Rn n [] = [] := by rw [Rn_nil]; rfl
        rw [show (([] : List PyData), ([] : List PyData)).1 = [] from rfl, show (([] : List PyData), ([] : List PyData)).2 = [] from rfl, this] at m
        cases m
      · rw [z] at m
        have up : ∀ {l : List PyData}, (∀ d ∈ l, RowD k d) → d ∈ rowsD k l → e ∈ rowsD k l := fun {l} hl md => by
          have rd := rowsD_rd hl d md
          rw [rows_up (n := k) (fun x hx => by rw [List.mem_singleton.mp hx]; exact rd)] at he
          exact rowsD_sub hl d md e he
        refine rowsD_mem ht ?_
        rw [rows_br z]
        rcases List.mem_append.mp m with m | m
        · exact List.mem_cons_of_mem _ (List.mem_append_left _ (up ra m))
        · exact List.mem_cons_of_mem _ (List.mem_append_right _ (up rb m))
/-- a table by a comprehension over a list -/
theorem dcT_list {K : PySem.W.Frag} {a : Addr} {xs : List V} {g : TG} {tk tv : TE} {vs : List Nat} {σ : St'} {H1 : Hp} {D : Addr} {Qd : Hp → Prop} (Pv : Nat → Hp → Prop) (h0 : Pv 0 (upd H1 D (.dT []))) (hl : ∀ i H, Pv i H → SqL K H a xs)
    (hs : ∀ i x G, xs[i]? = some x → Pv i G → g x (wipe σ vs) G fun σ2 G2 => wipe σ2 vs = wipe σ vs ∧ tk σ2 G2 fun y G3 => tv σ2 G3 fun z G4 => ∃ kvs k b, y = .ref b ∧ G4 b = some (.tup (k.map kV)) ∧ G4 D = some (.dT kvs) ∧ kvs.length < sizeLine ∧ Pv (i + 1) (upd G4 D (.dT (putK kvs k z)))) (hd : ∀ G, Pv xs.length G → Qd G) :
    ∃ Z : Nat → Nat → Hp → Prop, (∃ m, Z 0 m (upd H1 D (.dT []))) ∧ ∀ i m G, Z i m G →
      ((Itl K a).stop i G ∧ Qd G) ∨ ((Itl K a).go i G ∧ ∃ Y : Hp → Prop, (∀ G', Y G' → ∃ m', m' < m ∧ Z (i + 1) m' G') ∧ ∀ x G', (Itl K a).yld i G x G' → g x (wipe σ vs) G' fun σ2 G2 => wipe σ2 vs = wipe σ vs ∧
        tk σ2 G2 fun y G3 => tv σ2 G3 fun z G4 => ∃ kvs k b, y = .ref b ∧ G4 b = some (.tup (k.map kV)) ∧ G4 D = some (.dT kvs) ∧ kvs.length < sizeLine ∧ Y (upd G4 D (.dT (putK kvs k z)))) := by
  refine ⟨fun i m G => m = xs.length - i ∧ i ≤ xs.length ∧ Pv i G, ⟨xs.length, by simp, Nat.zero_le _, h0⟩, ?_⟩
  rintro i m G ⟨rfl, hi, p⟩
  have q := hl i G p
  by_cases lt : i < xs.length
  · have hx : xs[i]? = some xs[i] := List.getElem?_eq_getElem lt
    refine .inr ⟨⟨xs, _, q, hx⟩, Pv (i + 1), fun G' p' => ⟨xs.length - (i + 1), by omega, rfl, lt, p'⟩, fun x G' y => ?_⟩
    obtain ⟨e, y⟩ := y
    subst e
    exact hs i x _ (y xs q) p
  · have e : i = xs.length := by omega
    subst e
    exact .inl ⟨⟨xs, q, Nat.le_refl _⟩, hd G p⟩
end TW
set_option Elab.async false
set_option linter.all false
set_option maxRecDepth 100000
namespace TW
open PySem PySem.Spec PyProof.Rows L2 TL
/-- the object under construction -/
structure Mk1 (C h dx : Addr) (H G : Hp) (fl : List (Str × V)) : Prop where
  s : ∀ b o, H b = some o → b ≠ h → G b = some o
  e : G h = some (.ins C dx fl)
section
variable {K : PySem.W.Frag} {C h dx a : Addr} {H G G' : Hp} {fl fl' : List (Str × V)} {ws : List Str}
theorem Mk1.same (m : Mk1 C h dx H G fl) (s : Same G G') : Mk1 C h dx H G' fl := ⟨fun b o e n => s _ _ (m.s b o e n), s _ _ m.e⟩
theorem Mk1.set (m : Mk1 C h dx H G fl) : Mk1 C h dx H (upd G h (.ins C dx fl')) fl' := ⟨fun b o e n => (upd_ne n).trans (m.s b o e n), upd_same⟩
theorem Mk1.wsK (m : Mk1 C h dx H G fl) (e0 : ∃ f0, H h = some (.ins C dx f0)) (w : WS K H a ws) : WS K G a ws := by
  obtain ⟨f0, e0⟩ := e0
  rcases w with e | e | z
  · exact .inl (m.s _ _ e (ne_lst e0 e))
  · exact .inr (.inl (m.s _ _ e (ne_tup e0 e)))
  · exact .inr (.inr z)
theorem Mk1.wtK (m : Mk1 C h dx H G fl) (w : WT K G a ws) : WT K (upd G h (.ins C dx fl')) a ws := w.keep fun xs e => (upd_ne (ne_tup m.e e)).trans e
theorem Mk1.keep (m : Mk1 C h dx H G fl) {M : List Addr} (h2 : ∀ x ∈ M, ∃ xs, G x = some (.lst xs)) : KeepL M G (upd G h (.ins C dx fl')) := ⟨fun b hb => by
  obtain ⟨xs, e⟩ := h2 b hb
  exact upd_ne (ne_lst m.e e), fun b xs e => (upd_ne (ne_tup m.e e)).trans e⟩
theorem Mk1.free (m : Mk1 C h dx H G fl) (hq : G a = none) : H a = none := by
  cases e : H a with
  | none => rfl
  | some o =>
    have n : a ≠ h := fun n => by rw [n, m.e] at hq; cases hq
    rw [m.s _ _ e n] at hq
    cases hq
theorem Mk1.old (m : Mk1 C h dx H G fl) (e0 : ∃ f0, H h = some (.ins C dx f0)) {M : List Addr} (h2 : ∀ x ∈ M, ∃ xs, H x = some (.lst xs)) : KeepL M H G := by
  obtain ⟨f0, e0⟩ := e0
  refine ⟨fun b hb => ?_, fun b xs e => m.s _ _ e (ne_tup e0 e)⟩
  obtain ⟨xs, e⟩ := h2 b hb
  rw [e]
  exact m.s _ _ e (ne_lst e0 e)
end
theorem areW_of {ws : List Str} {lo hi : Int} (h1 : ∀ x ∈ ws, IsW x) (h2 : ws.Nodup) (h3 : lo ≤ (ws.length : Int)) (h4 : (ws.length : Int) ≤ hi) : AreW (ws.map V.str) lo hi := ⟨ws, rfl, h1, h2, h3, h4⟩
section
variable {P : Program} {w : World} {K : PySem.W.Frag} {mg : Str → Option Value} {base : Heap}
set_option maxHeartbeats 8000000 in
theorem ok_progI {f0 C fA fF fK fV fM fC fR : Addr} {fd0 fdA fdF fdK fdV fdM fdC fdR : FuncData} {t1 t2 : Tok} {dvs : List V} {kws : List (Str × V)} (F0 : FunD K "__init__" "Program.__init__" (defArgs S_Program___init__) (defBody S_Program___init__) (defScope S_Program___init__) dvs kws f0 fd0) (B : Bl mg) (T : HCP K mg C)
    (m_MOST_INPUTS : mg "MOST_INPUTS" = some (.int 3 t1)) (m_MOST_OUTPUTS : mg "MOST_OUTPUTS" = some (.int 3 t2))
    (d_are_words : Df K mg "are_words" S_are_words fA fdA P_are_words) (G_are_words : FnOk P w K mg base CX0 2 fA fdA P_are_words (spAreW K))
    (d_are_fields : Df K mg "are_fields" S_are_fields fF fdF P_are_fields) (G_are_fields : FnOk P w K mg base CX0 3 fF fdF P_are_fields (spAreF K))
    (d_checked_rows : Df K mg "checked_rows" S_checked_rows fK fdK P_checked_rows) (G1 : ∀ ws fs : List Str, FnOk P w K mg base CX0 7 fK fdK P_checked_rows (spChecked K ws fs))
    (d_all_variables : Df K mg "all_variables" S_all_variables fV fdV P_all_variables) (G2 : ∀ ws fs : List Str, FnOk P w K mg base CX0 2 fV fdV P_all_variables (spAllV K ws fs))
    (d_check_many : Df K mg "check_many" S_check_many fM fdM P_check_many) (G3 : ∀ ws fs : List Str, FnOk P w K mg base CX0 1 fM fdM P_check_many (spMany K ws fs))
    (d_copied_rows : Df K mg "copied_rows" S_copied_rows fC fdC P_copied_rows) (d_copied_row : Df K mg "copied_row" S_copied_row fR fdR P_copied_row)
    (G4 : ∀ (ws fs : List Str) (n : Nat), FnOk P w K mg base CX0 (2 * n + 2) fR fdR P_copied_row (spCopyR ws fs n) ∧ FnOk P w K mg base CX0 (2 * n + 3) fC fdC P_copied_rows (spCopies ws fs n)) :
    FnOk P w K mg base CX0 10 f0 fd0 P_Program___init__ (spProgI K C) := by
  refine F0.ok sc_Program___init__ (fun vs H Q E h => ?_) (fun cdv A outer s H vs Q E hr h => ?_)
  · obtain ⟨h, dx, aI, aF, aR, aO, is, fs, os, n, ds, ws, L, rfl, _⟩ := h
    rfl
  · obtain ⟨h, dx, aI, aF, aR, aO, is, fs, os, n, ds, ws, L, rfl, hh, hI, hF, hR, d100, hO, g, kk⟩ := h
    have G_checked_rows := G1 ws fs
    have G_all_variables := G2 ws fs
    have G_check_many := G3 ws fs
    have G_copied_rows := (G4 ws fs n).2
    have G_copied_row := (G4 ws fs n).1
    have n3 := g.n3
    have hr_are_words : Room 2 _ := hr.mono (by decide)
    have hr_are_fields : Room 3 _ := hr.mono (by decide)
    have hr_checked_rows : Room 7 _ := hr.mono (by decide)
    have hr_all_variables : Room 2 _ := hr.mono (by decide)
    have hr_check_many : Room 1 _ := hr.mono (by decide)
    have hr_copied_rows : Room (2 * n + 3) _ := hr.mono (by omega)
    have hr_copied_row : Room (2 * n + 2) _ := hr.mono (by omega)
    have hu0 : (A.deeper (envOfC "Program.__init__" (defScope S_Program___init__) s.heap.objs.size f0 cdv)).units < cLine := by have := hr.un; omega
    refine ⟨_, (pss_cons (ps_if (pt_not (pt_val (pe_call G_are_words hr_are_words rfl d_are_words.g d_are_words.F.kp d_are_words.b .nil pass0 (pa_cons (pv 1) (pa_cons pe_int (pa_cons (pe_glob (v := .int _) rfl m_MOST_INPUTS ⟨_, rfl⟩) pa_nil)))))) (pss_one ps_never) pss_nil)
 (pss_cons (ps_if (pt_not (pt_val (pe_call G_are_fields hr_are_fields rfl d_are_fields.g d_are_fields.F.kp d_are_fields.b .nil pass0 (pa_cons (pv 2) pa_nil)))) (pss_one ps_never) pss_nil)
 (pss_cons (ps_if (pt_not (pt_val (pe_call G_are_words hr_are_words rfl d_are_words.g d_are_words.F.kp d_are_words.b .nil pass0 (pa_cons (pv 4) (pa_cons pe_int (pa_cons (pe_glob (v := .int _) rfl m_MOST_OUTPUTS ⟨_, rfl⟩) pa_nil)))))) (pss_one ps_never) pss_nil)
 (pss_cons (ps_if (pt_not (pt_val (pe_callB call_isi (by rfl) B.m_isinstance (by decide +kernel) (pa_cons (pv 3) (pa_cons (pe_bltn (v := .ty "list") (by rfl) B.m_list (by decide +kernel) rfl) pa_nil))))) (pss_one ps_never) pss_nil)
 (pss_cons (ps_set (i := 5) sc_Program___init__.nd rfl (by first | exact Or.inl rfl | exact Or.inr rfl) (pe_call G_checked_rows hr_checked_rows rfl d_checked_rows.g d_checked_rows.F.kp d_checked_rows.b .nil pass0 (pa_cons (pv 3) (pa_cons (pv 2) pa_nil))))
 (pss_cons (ps_set (i := 6) sc_Program___init__.nd rfl (by first | exact Or.inl rfl | exact Or.inr rfl) (pe_call G_all_variables hr_all_variables rfl d_all_variables.g d_all_variables.F.kp d_all_variables.b .nil pass0 (pa_cons (pv 1) (pa_cons (pv 5) (pa_cons (pv 4) pa_nil)))))
 (pss_cons (ps_expr (pe_call G_check_many hr_check_many rfl d_check_many.g d_check_many.F.kp d_check_many.b .nil pass0 (pa_cons (pv 5) (pa_cons (pv 6) pa_nil))))
 (pss_cons (ps_cut (ps_fld (pv 0) (pe_callTy call_tuple_of (by rfl) B.m_tuple (by decide +kernel) (pa_cons (pv 1) pa_nil)) rfl))
 (pss_cons (ps_cut (ps_fld (pv 0) (pe_callTy call_tuple_of (by rfl) B.m_tuple (by decide +kernel) (pa_cons (pv 2) pa_nil)) rfl))
 (pss_cons (ps_cut (ps_fld (pv 0) (pe_callTy call_tuple_of (by rfl) B.m_tuple (by decide +kernel) (pa_cons (pv 4) pa_nil)) rfl))
 (pss_cons (ps_fld (pv 0) (pe_call G_copied_rows hr_copied_rows rfl d_copied_rows.g d_copied_rows.F.kp d_copied_rows.b .nil pass0 (pa_cons (pv 3) pa_nil)) rfl)
 (pss_cons (ps_fld (pv 0) (pe_dcT (own := [("place", 7), ("row", 8)]) hu0 rfl sc_Program___init__.nd (pi_list (pv 5)) (blkOk_by (own := [("place", 7), ("row", 8)]) (N := N_Program___init__) (sc := defScope S_Program___init__) (by decide +kernel)) (fun _ _ _ _ _ => (pg_tupK (K := K) (n := 2) rfl rfl (pgs_cons (pg_name (i := 7) sc_Program___init__.nd rfl (by first | exact Or.inl rfl | exact Or.inr rfl)) (pgs_cons (pg_name (i := 8) sc_Program___init__.nd rfl (by first | exact Or.inl rfl | exact Or.inr rfl)) pgs_nil)))) (fun _ _ _ _ _ => (pv 7)) (fun _ _ _ _ _ => (pe_call G_copied_row hr_copied_row rfl d_copied_row.g d_copied_row.F.kp d_copied_row.b .nil pass0 (pa_cons (pv 8) pa_nil)))) rfl)
 (pss_one (ps_fld (pv 0) (pv 6) rfl)))))))))))))), ?_⟩
    obtain ⟨TI, hTI, kI⟩ := hI.kd
    refine ⟨_, rfl, _, TI, 1, 3, rfl, kI, by decide, .inr ⟨hTI, aI, _, rfl, hI.seqK g.iw (by have := g.i3; omega), fun b H1 s1 hb => ⟨_, rfl, ?_⟩⟩⟩
    have hbt : b = true := hb.mpr (areW_of g.iw g.iN (by have := g.i1; omega) (by have := g.i3; omega))
    subst hbt
    refine iteF ?_
    obtain ⟨TF, hTF, kF⟩ := (hF.same s1).kd
    refine ⟨_, rfl, _, TF, rfl, kF, .inr ⟨hTF, aF, _, rfl, (hF.same s1).seqK g.fw (by have := g.f2; omega), fun b H2 s2 hb => ⟨_, rfl, ?_⟩⟩⟩
    have hbt : b = true := hb.mpr (areW_of g.fw g.fN (by have := g.f1; omega) (by have := g.f2; omega))
    subst hbt
    refine iteF ?_
    have s12 := s1.trans s2
    obtain ⟨TO, hTO, kO⟩ := (hO.same s12).kd
    refine ⟨_, rfl, _, TO, 0, 3, rfl, kO, by decide, .inr ⟨hTO, aO, _, rfl, (hO.same s12).seqK g.ow (by have := g.o3; omega), fun b H3 s3 hb => ⟨_, rfl, ?_⟩⟩⟩
    have hbt : b = true := hb.mpr (areW_of g.ow g.oN (by omega) (by have := g.o3; omega))
    subst hbt
    refine iteF ?_
    have s13 := s12.trans s3
    obtain ⟨xs, hxs⟩ : ∃ xs, H aR = some (.lst xs) := by cases hR; exact ⟨_, by assumption⟩
    refine ⟨_, rfl, _, _, _, _, _, rfl, .ty "list", .base (.lst (s13 _ _ hxs)), kit7_list (by decide), _, rfl, iteF ?_⟩
    refine ⟨_, rfl, _, rfl, n, aR, aF, ds, L, rfl, g.n3, hR.same s13, g.rd, d100, g.ok, Nat.le_trans g.r20 (by decide), g.wN, (hF.same s13).seq, g.ww, g.fw, fun pr ys M H4 s4 hpr h4 dP subP => ?_⟩
    have s14 := s13.trans s4
    have okW : ∀ e ∈ walkD n [] ds, OkR ws fs e.2 := fun e m => g.ok _ (by rw [← walkD_rows n [] ds]; exact List.mem_map_of_mem m)
    have wl : (walkD n [] ds).length = (rowsD n ds).length := walkD_len n [] ds
    have r20 := g.r20
    have hO14 : H4 aO = some (.lst (os.map V.str)) ∨ SqT K H4 aO (os.map V.str) := (hO.same s14).elim .inl fun z => .inr z.sqt
    refine ⟨_, rfl, _, rfl, _, rfl, aI, pr, aO, is, os, ys, walkD n [] ds, M, rfl, (hI.same s14).seq, h4, dP, fun e m => ⟨okW e m, n, rowsD_rd g.rd _ (by rw [← walkD_rows n [] ds]; exact List.mem_map_of_mem m)⟩, by omega, hO14, by have := g.i3; omega, by have := g.o3; omega, fun pv H5 s5 hpv h5 => ?_⟩
    have ev : is ++ (walkD n [] ds).flatMap (fun e => varsOf e.2) ++ os = is ++ (rowsD n ds).flatMap varsOf ++ os := by
      rw [← walkD_rows n [] ds, List.flatMap_map]
    rw [ev] at h5
    have dP5 := dP.same s5
    refine ⟨_, rfl, _, rfl, pr, pv, ys, _, walkD n [] ds, M, rfl, s5 _ _ h4, dP5, okW, by omega, h5, by rw [List.length_map]; exact g.v6, ?_, ?_, fun H6 s6 => ?_⟩
    · have e : ((walkD n [] ds).map fun e => copiesOf e.2).sum = cps n ds := by
        unfold cps
        rw [← walkD_rows n [] ds, List.map_map]
        rfl
      rw [e]
      exact g.c4
    · rw [rds_walk]
      exact g.w3
    have s16 := s14.trans (s5.trans s6)
    have hh6 := s16 _ _ hh
    have e0 : ∃ f0, H6 h = some (.ins C dx f0) := ⟨_, hh6⟩
    have m0 : Mk1 C h dx H6 H6 [] := ⟨fun b o e _ => e, hh6⟩
    have hpr6 := s6 _ _ (s5 _ _ h4)
    have hpv6 := s6 _ _ h5
    have dP6 := dP5.same s6
    have hR6 := hR.same s16
    -- inputs
    refine ⟨fun σ G => ∃ tI, σ = [some (.ref h), some (.ref aI), some (.ref aF), some (.ref aR), some (.ref aO), some (.ref pr), some (.ref pv), none, none] ∧ Mk1 C h dx H6 G (putF "inputs" (.ref tI) []) ∧ WT K G tI is, ?_, ?_⟩
    · rcases hI.same s16 with e | e
      · refine ⟨_, rfl, aI, _, rfl, .inl ⟨SqL.of e, fun tI ht => ?_⟩⟩
        have m1 := m0.same (same_new (o := .tup (is.map V.str)) ht)
        exact ⟨_, rfl, h, C, dx, _, rfl, m1.e, T.cl, T.nI, by decide, tI, rfl, m1.set, m1.wtK (.inl upd_same)⟩
      · exact ⟨_, rfl, aI, _, rfl, .inr ⟨e.sqt, _, rfl, h, C, dx, _, rfl, m0.e, T.cl, T.nI, by decide, aI, rfl, m0.set, m0.wtK e⟩⟩
    rintro σ G1 ⟨tI, rfl, m1, wI⟩
    -- fields
    refine ⟨fun σ G => ∃ tF, σ = [some (.ref h), some (.ref aI), some (.ref aF), some (.ref aR), some (.ref aO), some (.ref pr), some (.ref pv), none, none] ∧ Mk1 C h dx H6 G (putF "fields" (.ref tF) (putF "inputs" (.ref tI) [])) ∧ WT K G tI is ∧ WT K G tF fs, ?_, ?_⟩
    · rcases m1.wsK e0 (hF.same s16) with e | e
      · refine ⟨_, rfl, aF, _, rfl, .inl ⟨SqL.of e, fun tF ht => ?_⟩⟩
        have s' := same_new (o := .tup (fs.map V.str)) ht
        have m2 := m1.same s'
        exact ⟨_, rfl, h, C, dx, _, rfl, m2.e, T.cl, T.nF, by show 1 < 1000; decide, tF, rfl, m2.set, m2.wtK (wI.same s'), m2.wtK (.inl upd_same)⟩
      · exact ⟨_, rfl, aF, _, rfl, .inr ⟨e.sqt, _, rfl, h, C, dx, _, rfl, m1.e, T.cl, T.nF, by show 1 < 1000; decide, aF, rfl, m1.set, m1.wtK wI, m1.wtK e⟩⟩
    rintro σ G2 ⟨tF, rfl, m2, wI2, wF⟩
    -- outputs
    refine ⟨fun σ G => ∃ tO, σ = [some (.ref h), some (.ref aI), some (.ref aF), some (.ref aR), some (.ref aO), some (.ref pr), some (.ref pv), none, none] ∧ Mk1 C h dx H6 G (putF "outputs" (.ref tO) (putF "fields" (.ref tF) (putF "inputs" (.ref tI) []))) ∧ WT K G tI is ∧ WT K G tF fs ∧ WT K G tO os, ?_, ?_⟩
    · rcases m2.wsK e0 (hO.same s16) with e | e
      · refine ⟨_, rfl, aO, _, rfl, .inl ⟨SqL.of e, fun tO ht => ?_⟩⟩
        have s' := same_new (o := .tup (os.map V.str)) ht
        have m3 := m2.same s'
        exact ⟨_, rfl, h, C, dx, _, rfl, m3.e, T.cl, T.nO, by show 2 < 1000; decide, tO, rfl, m3.set, m3.wtK (wI2.same s'), m3.wtK (wF.same s'), m3.wtK (.inl upd_same)⟩
      · exact ⟨_, rfl, aO, _, rfl, .inr ⟨e.sqt, _, rfl, h, C, dx, _, rfl, m2.e, T.cl, T.nO, by show 2 < 1000; decide, aO, rfl, m2.set, m2.wtK wI2, m2.wtK wF, m2.wtK e⟩⟩
    rintro σ G3 ⟨tO, rfl, m3, wI3, wF3, wO⟩
    -- rows
    have hR3 : Dq G3 (.ref aR) (.list ds) L := hR6.keep (m3.old e0 hR6.there)
    refine ⟨_, rfl, aR, ds, L, rfl, hR3, g.rd, g.ok, d100, fun qR LR G4 s7 dR fR => ⟨_, rfl, h, C, dx, _, rfl, s7 _ _ m3.e, T.cl, T.nR, by show 3 < 1000; decide, ?_⟩⟩
    have m4' := m3.same s7
    have dR5 := dR.keep (m4'.keep (fl' := putF "_rows" (.ref qR) (putF "outputs" (.ref tO) (putF "fields" (.ref tF) (putF "inputs" (.ref tI) [])))) dR.there)
    have m5 : Mk1 C h dx H6 (upd G4 h (.ins C dx (putF "_rows" (.ref qR) (putF "outputs" (.ref tO) (putF "fields" (.ref tF) (putF "inputs" (.ref tI) [])))))) _ := m4'.set
    have wI5 := m4'.wtK (fl' := putF "_rows" (.ref qR) (putF "outputs" (.ref tO) (putF "fields" (.ref tF) (putF "inputs" (.ref tI) [])))) (wI3.same s7)
    have wF5 := m4'.wtK (fl' := putF "_rows" (.ref qR) (putF "outputs" (.ref tO) (putF "fields" (.ref tF) (putF "inputs" (.ref tI) [])))) (wF3.same s7)
    have wO5 := m4'.wtK (fl' := putF "_rows" (.ref qR) (putF "outputs" (.ref tO) (putF "fields" (.ref tF) (putF "inputs" (.ref tI) [])))) (wO.same s7)
    obtain ⟨G5, e5⟩ : ∃ G5 : Hp, G5 = upd G4 h (.ins C dx (putF "_rows" (.ref qR) (putF "outputs" (.ref tO) (putF "fields" (.ref tF) (putF "inputs" (.ref tI) []))))) := ⟨_, rfl⟩
    rw [← e5] at m5 dR5 wI5 wF5 wO5 ⊢
    have prh : pr ≠ h := ne_lst hh6 hpr6
    have pvh : pv ≠ h := ne_lst hh6 hpv6
    have hpr5 := m5.s _ _ hpr6 prh
    have dP5' := dP6.keep (m5.old e0 dP6.there)
    -- table
    refine ⟨_, rfl, pr, rfl, ⟨_, SqL.of hpr5⟩, fun D hD => dcT_list (xs := ys) (fun j G => ∃ (us : List V) (LT : List Addr), Same G5 G ∧ us.length = j ∧ G D = some (.dT ((((walkD n [] ds).take j).map fun e => keyI e.1).zip us)) ∧ DqAll G us ((rowsD n ds).take j) LT ∧ ∀ x ∈ LT, G5 x = none) ⟨[], [], same_new hD, rfl, by rw [List.take_zero]; exact upd_same, .nil, fun x m => nomatch m⟩ (fun j G ⟨us, LT, sG, _⟩ => SqL.of (sG _ _ hpr5)) ?_ ?_⟩
    · rintro j x G hx ⟨us, LT, sG, ul, hT, dU, fU⟩
      obtain ⟨dd, N, hdj, hq, _⟩ := dP5'.get hx
      rw [List.getElem?_map] at hdj
      cases el : (walkD n [] ds)[j]? with
      | none => rw [el] at hdj; cases hdj
      | some e =>
      rw [el] at hdj
      have edd : pd e = dd := Option.some.inj hdj
      rw [← edd] at hq
      obtain ⟨t, pl, v, rfl, ht, hpl, hv⟩ := pd_inv hq
      have em : e ∈ walkD n [] ds := List.mem_of_getElem? el
      have erow : (rowsD n ds)[j]? = some e.2 := by
        rw [← walkD_rows n [] ds, List.getElem?_map, el]
        rfl
      have jl : j < (walkD n [] ds).length := (List.getElem?_eq_some_iff.mp el).1
      have rde := rowsD_rd g.rd e.2 (List.mem_of_getElem? erow)
      refine ⟨t, _, rfl, SqT.of (sG _ _ ht), rfl, _, _, rfl, _, _, rfl, rfl, rfl, _, rfl, _, rfl, v, e.2, N, rfl, hv.same sG, rde, ?_, fun u M' G' s8 qu fu => ?_⟩
      · exact fun x hx => g.ok x (rowsD_sub g.rd e.2 (List.mem_of_getElem? erow) x hx)
      have hTD := s8 _ _ hT
      have kp : ∀ {X : List Addr} {o : HO}, (∀ x ∈ X, ∃ xs, G' x = some (.lst xs)) → KeepL X G' (upd G' D o) := fun h => by
        refine ⟨fun b m => upd_ne fun z => ?_, fun b xs e => (upd_ne fun z => ?_).trans e⟩
        · obtain ⟨xs, e⟩ := h b m
          rw [z, hTD] at e
          cases e
        · rw [z, hTD] at e
          cases e
      refine ⟨_, keyI e.1, pl, rfl, by rw [(s8 _ _ (sG _ _ hpl))]; unfold keyI; rw [List.map_map]; rfl, hTD, ?_, us ++ [u], LT ++ M', fun b o e => (upd_ne (ne_of_none e hD)).trans (s8 _ _ (sG _ _ e)), by rw [List.length_append, ul]; rfl, ?_, ?_, fun x m => ?_⟩
      · rw [List.length_zip, ul]
        exact small1000 (Nat.le_trans (Nat.min_le_right _ _) (by omega))
      · have kl : ((((walkD n [] ds).take j).map fun e => keyI e.1)).length = us.length := by
          rw [List.length_map, List.length_take, ul]
          omega
        have kn : keyI e.1 ∉ (((walkD n [] ds).take j).map fun e => keyI e.1) := fun m => by
          obtain ⟨e', me, ee⟩ := List.mem_map.mp m
          have e1 := keyI_inj ee
          obtain ⟨i, hi, ei⟩ := List.mem_take_iff_getElem.mp me
          have nd := (walk_ext n [] ds).1
          have a1 : ((walkD n [] ds).map (·.1))[i]? = some e'.1 := by rw [List.getElem?_map, ← ei, List.getElem?_eq_getElem]; rfl
          have a2 : ((walkD n [] ds).map (·.1))[j]? = some e.1 := by rw [List.getElem?_map, el]; rfl
          have hil : i < ((walkD n [] ds).map (·.1)).length := (List.getElem?_eq_some_iff.mp a1).1
          have := (List.getElem?_inj hil nd).mp (a1.trans (by rw [e1]; exact a2.symm))
          omega
        rw [upd_same, putT_new kl kn, take_next el, List.map_append]
        rfl
      · rw [take_next erow]
        have d1 := dU.same s8
        exact (d1.keep (kp d1.there)).snoc (qu.keep (kp qu.there))
      · exact (List.mem_append.mp m).elim (fU x) fun m => sG.free (fu x m)
    · rintro G ⟨us, LT, sG, ul, hT, dU, fU⟩
      have yl : ys.length = (walkD n [] ds).length := by rw [dP.len, List.length_map]
      rw [yl] at ul hT dU
      rw [List.take_length] at hT
      rw [wl, List.take_length] at dU
      refine ⟨_, rfl, h, C, dx, _, rfl, sG _ _ m5.e, T.cl, T.nT, by show 4 < 1000; decide, ?_⟩
      obtain ⟨fl5, efl5⟩ : ∃ fl5, fl5 = putF "_table" (.ref D) (putF "_rows" (.ref qR) (putF "outputs" (.ref tO) (putF "fields" (.ref tF) (putF "inputs" (.ref tI) [])))) := ⟨_, rfl⟩
      have m6' := m5.same sG
      have m6 : Mk1 C h dx H6 (upd G h (.ins C dx fl5)) fl5 := m6'.set
      obtain ⟨p, ep⟩ : ∃ p : PP, p = ⟨dx, tI, tF, tO, qR, D, pv, LR, us, LT⟩ := ⟨_, rfl⟩
      rw [← efl5]
      refine ⟨_, rfl, _, rfl, h, C, dx, _, rfl, m6.e, T.cl, T.nV, by rw [efl5]; show 5 < 1000; decide, ?_⟩
      have efl : putF "_variables" (.ref pv) fl5 = pfl p := by rw [ep, efl5]; rfl
      rw [efl]
      have m7 : Mk1 C h dx H6 (upd (upd G h (.ins C dx fl5)) h (.ins C dx (pfl p))) (pfl p) := m6.set
      have nh : ∀ {b : Addr} {o : HO}, G b = some o → (∀ fl, o ≠ .ins C dx fl) → (upd (upd G h (.ins C dx fl5)) h (.ins C dx (pfl p))) b = some o := fun {b o} e n => by
        have z : b ≠ h := fun z => by rw [z, m6'.e] at e; exact n _ (Option.some.inj e).symm
        exact (upd_ne z).trans ((upd_ne z).trans e)
      have kd : ∀ {v : V} {d : PyData} {M : List Addr}, Dq G v d M → Dq (upd (upd G h (.ins C dx fl5)) h (.ins C dx (pfl p))) v d M := fun {v d M} q => q.keep ⟨fun b m => by
        obtain ⟨xs, e⟩ := q.there b m
        rw [e]
        exact nh e fun _ z => (nomatch z), fun b xs e => nh e fun _ z => (nomatch z)⟩
      have kdA : ∀ {vs : List V} {es : List PyData} {M : List Addr}, DqAll G vs es M → DqAll (upd (upd G h (.ins C dx fl5)) h (.ins C dx (pfl p))) vs es M := fun {vs es M} q => q.keep ⟨fun b m => by
        obtain ⟨xs, e⟩ := q.there b m
        rw [e]
        exact nh e fun _ z => (nomatch z), fun b xs e => nh e fun _ z => (nomatch z)⟩
      have kw : ∀ {a : Addr} {zs : List Str}, WT K G a zs → WT K (upd (upd G h (.ins C dx fl5)) h (.ins C dx (pfl p))) a zs := fun w => w.keep fun xs e => nh e fun _ z => (nomatch z)
      have back : ∀ {b : Addr}, G5 b = none → H b = none := fun {b} e => s16.free (m5.free e)
      have hLR : ∀ x ∈ LR, H x = none := fun x m => s16.free (m3.free (fR x m))
      refine kk p _ (fun b o e n => m7.s _ _ (s16 _ _ e) n) ?_ ?_
      · have a1 : p.dx = dx := by rw [ep]
        have a2 : p.tI = tI := by rw [ep]
        have a3 : p.tF = tF := by rw [ep]
        have a4 : p.tO = tO := by rw [ep]
        have a5 : p.qR = qR := by rw [ep]
        have a6 : p.qT = D := by rw [ep]
        have a7 : p.qV = pv := by rw [ep]
        have a8 : p.LR = LR := by rw [ep]
        have a9 : p.us = us := by rw [ep]
        have a10 : p.LT = LT := by rw [ep]
        refine ⟨?_, ?_, ?_, ?_, ?_, ?_, ?_, ?_, g⟩
        · rw [a1]
          exact upd_same
        · rw [a2]
          exact kw (wI5.same sG)
        · rw [a3]
          exact kw (wF5.same sG)
        · rw [a4]
          exact kw (wO5.same sG)
        · rw [a5, a8]
          exact kd (dR5.same sG)
        · rw [a6, a9]
          exact nh hT fun _ z => (nomatch z)
        · rw [a9, a10]
          exact kdA dU
        · rw [a7]
          exact m7.s _ _ hpv6 pvh
      · intro x m
        rw [ep] at m
        rcases List.mem_cons.mp m with rfl | m
        · exact s14.free hpv
        · exact (List.mem_append.mp m).elim (hLR x) fun m => back (fU x m)
end
end TW
set_option Elab.async false
set_option linter.all false
set_option maxRecDepth 100000
namespace TW
open PySem PySem.Spec PyProof.Rows L2 TL
/-- what repr asks of data: its depth and its weight -/
structure Shw (d : PyData) (D W : Nat) : Prop where
  sS : d.showable = true
  sH : d.hasDict = false
  sD : d.depth ≤ D
  sL : d.leavesShort 8 = true
  sW : d.weight ≤ W
  sC : d.canLay0 = true
structure ShwA (ds : List PyData) (D W : Nat) : Prop where
  sS : PyData.showableAll ds = true
  sH : PyData.hasDictAll ds = false
  sD : PyData.depthAll ds ≤ D
  sL : PyData.leavesShortAll 8 ds = true
  sW : PyData.weightAll ds ≤ W
  sC : PyData.canLayAll0 ds = true
theorem Shw.up {d : PyData} {D D' W W' : Nat} (x : Shw d D W) (h1 : D ≤ D') (h2 : W ≤ W') : Shw d D' W' := ⟨x.sS, x.sH, Nat.le_trans x.sD h1, x.sL, Nat.le_trans x.sW h2, x.sC⟩
theorem ShwA.up {d : List PyData} {D D' W W' : Nat} (x : ShwA d D W) (h1 : D ≤ D') (h2 : W ≤ W') : ShwA d D' W' := ⟨x.sS, x.sH, Nat.le_trans x.sD h1, x.sL, Nat.le_trans x.sW h2, x.sC⟩
theorem ShwA.nil : ShwA [] 0 0 := ⟨rfl, rfl, Nat.le_refl _, rfl, Nat.le_refl _, rfl⟩
theorem ShwA.cons {d : PyData} {ds : List PyData} {D V W : Nat} (x : Shw d D V) (y : ShwA ds D W) : ShwA (d :: ds) D (V + 1 + W) := by
  refine ⟨?_, ?_, ?_, ?_, ?_, by simp only [PyData.canLayAll0, x.sC, y.sC, Bool.and_self]⟩
  · simp only [PyData.showableAll, x.sS, y.sS, Bool.and_self]
  · simp only [PyData.hasDictAll, x.sH, y.sH, Bool.or_self]
  · have a := x.sD
    have b := y.sD
    simp only [PyData.depthAll]
    omega
  · simp only [PyData.leavesShortAll, x.sL, y.sL, Bool.and_self]
  · have a := x.sW
    have b := y.sW
    simp only [PyData.weightAll]
    omega
theorem ShwA.append {ds es : List PyData} {D V W : Nat} (x : ShwA ds D V) (y : ShwA es D W) : ShwA (ds ++ es) D (V + W) := by
  induction ds generalizing V with
  | nil => exact y.up (Nat.le_refl _) (Nat.le_add_left _ _)
  | cons d ds ih =>
    obtain ⟨s, h, dd, l, w, c⟩ := x
    simp only [PyData.showableAll, Bool.and_eq_true] at s
    simp only [PyData.hasDictAll, Bool.or_eq_false_iff] at h
    simp only [PyData.depthAll] at dd
    simp only [PyData.leavesShortAll, Bool.and_eq_true] at l
    simp only [PyData.weightAll] at w
    simp only [PyData.canLayAll0, Bool.and_eq_true] at c
    have a : Shw d D d.weight := ⟨s.1, h.1, by omega, l.1, Nat.le_refl _, c.1⟩
    have b : ShwA ds D (V - (d.weight + 1)) := ⟨s.2, h.2, by omega, l.2, by omega, c.2⟩
    exact (ShwA.cons a (ih b)).up (Nat.le_refl _) (by omega)
theorem Shw.tup {ds : List PyData} {D W : Nat} (x : ShwA ds D W) : Shw (.tuple ds) (D + 1) W := ⟨by simp only [PyData.showable, x.sS], by simp only [PyData.hasDict, x.sH], by have := x.sD; simp only [PyData.depth]; omega, by simp only [PyData.leavesShort, x.sL], by simp only [PyData.weight]; exact x.sW, by simp only [PyData.canLay0, x.sC]⟩
theorem Shw.lst {ds : List PyData} {D W : Nat} (x : ShwA ds D W) : Shw (.list ds) (D + 1) W := ⟨by simp only [PyData.showable, x.sS], by simp only [PyData.hasDict, x.sH], by have := x.sD; simp only [PyData.depth]; omega, by simp only [PyData.leavesShort, x.sL], by simp only [PyData.weight]; exact x.sW, by simp only [PyData.canLay0, x.sC]⟩
theorem Shw.str {z : Str} (h : z.length ≤ 100) (hc : ∀ c ∈ z.cps.toList, c < 1000) : Shw (.str z) 0 100 := by
  refine ⟨by simp only [PyData.showable], by simp only [PyData.hasDict], by simp only [PyData.depth]; exact Nat.le_refl _, ?_, by simp only [PyData.weight]; exact h, ?_⟩
  · have e : (1000 : Nat) ≤ 16 ^ 8 := by decide
    simp only [PyData.leavesShort, List.all_eq_true, decide_eq_true_eq]
    exact fun c m => Nat.lt_of_lt_of_le (hc c m) e
  · simp only [PyData.canLay0]
    unfold PyData.strOk
    rw [Array.all_eq_true']
    exact fun c m => decide_eq_true (Nat.lt_of_lt_of_le (hc c (by simpa using m)) (by decide))
theorem Shw.word {z : Str} (h : IsW z) : Shw (.str z) 0 100 := .str (by have := h.2.1; omega) fun c m => by
  have := h.2.2 c m
  omega
theorem Shw.int {i : Int} (h0 : 0 ≤ i) (h4 : i ≤ 4) : Shw (.int i) 0 100 := by
  have h : i = 0 ∨ i = 1 ∨ i = 2 ∨ i = 3 ∨ i = 4 := by omega
  rcases h with rfl | rfl | rfl | rfl | rfl <;> exact ⟨by decide, rfl, by decide, by decide +kernel, by decide, rfl⟩
theorem Shw.words {ws : List Str} (h : ∀ x ∈ ws, IsW x) : ShwA (ws.map .str) 0 (101 * ws.length) := by
  induction ws with
  | nil => exact .nil
  | cons x ws ih => exact (ShwA.cons (.word (h x (List.mem_cons_self ..))) (ih fun y m => h y (List.mem_cons_of_mem _ m))).up (Nat.le_refl _) (by rw [List.length_cons]; omega)
theorem Shw.fits {d : PyData} {D W : Nat} (x : Shw d D W) (hW : W ≤ 2 ^ 20) : d.shown.length ≤ sizeLine := PyData.shown_fits (B := 8) (Nat.le_refl _) (by decide) x.sL (Nat.le_trans x.sW hW)
theorem part_shw {ws fs : List Str} {r : Str} {d : PyData} (hw : ∀ x ∈ ws, IsW x) (hf : ∀ x ∈ fs, IsW x) (h : PartOk ws fs r d) (n : ¬ r = "rows") : Shw d 0 100 := by
  cases h with
  | @var x h => exact .word (hw _ h)
  | @field x h => exact .word (hf _ h)
  | @kind x h => rcases h with rfl | rfl <;> exact .word (by decide +kernel)
  | depth h0 h1 => exact .int h0 h1
  | reader h => exact .word h
  | rows => exact absurd rfl n
theorem parts_shw {ws fs : List Str} (hw : ∀ x ∈ ws, IsW x) (hf : ∀ x ∈ fs, IsW x) : ∀ {rs : List Str} {ds : List PyData}, PartsOk ws fs rs ds → ("rows" : Str) ∉ rs → ShwA ds 0 (101 * rs.length)
  | _, _, .nil, _ => .nil
  | _, _, .cons h a, n => ((part_shw hw hf h fun z => n (by rw [z]; exact List.mem_cons_self ..)).up (Nat.le_refl _) (Nat.le_refl _) |> fun x => ShwA.cons x (parts_shw hw hf a fun z => n (List.mem_cons_of_mem _ z))).up (Nat.le_refl _) (by rw [List.length_cons]; omega)
theorem kind_shw {k : Str} {rs : List Str} (h : formsT.lookup k = some rs) : Shw (.str k) 0 100 := by
  rcases forms_cases h with ⟨rfl, _⟩ | ⟨rfl, _⟩ | ⟨rfl, _⟩ | ⟨rfl, _⟩ | ⟨rfl, _⟩ | ⟨rfl, _⟩ | ⟨rfl, _⟩ | ⟨rfl, _⟩ | ⟨rfl, _⟩ <;> exact .word (by decide +kernel)
theorem PartsOk.left {ws fs : List Str} : ∀ {rs us : List Str} {ds es : List PyData}, rs.length = ds.length → PartsOk ws fs (rs ++ us) (ds ++ es) → PartsOk ws fs rs ds
  | [], _, [], _, _, _ => .nil
  | [], _, _ :: _, _, h, _ => by simp at h
  | _ :: _, _, [], _, h, _ => by simp at h
  | _ :: _, _, _ :: _, _, h, .cons a b => .cons a (PartsOk.left (by simpa using h) b)
theorem row_shw {ws fs : List Str} (hw : ∀ x ∈ ws, IsW x) (hf : ∀ x ∈ fs, IsW x) (n : Nat) (below : ∀ m, n = m + 1 → ∀ ds : List PyData, (∀ d ∈ ds, RowD m d) → (∀ d ∈ rowsD m ds, OkR ws fs d) → ShwA ds (2 * m + 1) (900 * (rowsD m ds).length)) {d : PyData} (rd : RowD n d) (ok : ∀ e ∈ rowsD n [d], OkR ws fs e) :
    Shw d (2 * n + 1) (900 * (rowsD n [d]).length - 1) ∧ 1 ≤ (rowsD n [d]).length := by
  obtain ⟨k, ps, rs, ed, hl, hp⟩ := ok d (by rw [rowsD_one]; exact List.mem_cons_self ..)
  have l4 := (forms_len hl).2
  cases rd with
  | @plain _ x ps0 n1 n2 fl l5 =>
    cases ed
    have z : inner (.tuple (.str k :: ps)) = ([], []) := inner_plain fl
    have x := Shw.tup (ShwA.cons (kind_shw hl) (parts_shw hw hf hp (forms_plain hl n1 n2)))
    rw [(pl_nums z).1]
    exact ⟨x.up (by omega) (by show _ ≤ 900 * 1 - 1; omega), Nat.le_refl _⟩
  | @br m x ps0 as bs hk fl l2 ra rb la lb =>
    cases ed
    have z : inner (.tuple (.str k :: (ps0 ++ [.list as, .list bs]))) = (as, bs) := inner_br
    rw [rows_br z] at ok ⊢
    have A := below m rfl as ra fun x hx => ok x (List.mem_cons_of_mem _ (List.mem_append_left _ hx))
    have B := below m rfl bs rb fun x hx => ok x (List.mem_cons_of_mem _ (List.mem_append_right _ hx))
    obtain ⟨qs, rfl, hn⟩ := forms_br hl hk
    have hlen := hp.len
    rw [List.length_append, List.length_append] at hlen
    have hq : qs.length = ps0.length := by simpa using hlen
    have p0 := parts_shw hw hf (PartsOk.left hq hp) hn
    have x := Shw.tup (ShwA.cons ((kind_shw hl).up (Nat.zero_le _) (Nat.le_refl _)) (ShwA.append (p0.up (Nat.zero_le _) (Nat.le_refl _)) (ShwA.cons (Shw.lst A) (ShwA.cons (Shw.lst B) (ShwA.nil.up (Nat.zero_le _) (Nat.le_refl _))))))
    rw [List.length_cons, List.length_append]
    exact ⟨x.up (by omega) (by omega), by omega⟩
theorem rows_shw_all {ws fs : List Str} (hw : ∀ x ∈ ws, IsW x) (hf : ∀ x ∈ fs, IsW x) (n : Nat) (below : ∀ m, n = m + 1 → ∀ ds : List PyData, (∀ d ∈ ds, RowD m d) → (∀ d ∈ rowsD m ds, OkR ws fs d) → ShwA ds (2 * m + 1) (900 * (rowsD m ds).length)) (ds : List PyData) :
    (∀ d ∈ ds, RowD n d) → (∀ d ∈ rowsD n ds, OkR ws fs d) → ShwA ds (2 * n + 1) (900 * (rowsD n ds).length) := by
  induction ds with
  | nil => exact fun _ _ => ShwA.nil.up (Nat.zero_le _) (Nat.zero_le _)
  | cons d ds ih =>
    intro hr ok
    have e : rowsD n (d :: ds) = rowsD n [d] ++ rowsD n ds := rowsD_append n [d] ds
    have rest := ih (fun x m => hr x (List.mem_cons_of_mem _ m)) fun x m => ok x (by rw [e]; exact List.mem_append_right _ m)
    obtain ⟨one, pos⟩ := row_shw hw hf n below (hr d (List.mem_cons_self ..)) fun x m => ok x (by rw [e]; exact List.mem_append_left _ m)
    rw [e, List.length_append]
    exact (ShwA.cons one rest).up (Nat.le_refl _) (by omega)
/-- rows: as deep as their levels, as heavy as they are many -/
theorem rows_shw {ws fs : List Str} (hw : ∀ x ∈ ws, IsW x) (hf : ∀ x ∈ fs, IsW x) (n : Nat) : ∀ (ds : List PyData), (∀ d ∈ ds, RowD n d) → (∀ d ∈ rowsD n ds, OkR ws fs d) → ShwA ds (2 * n + 1) (900 * (rowsD n ds).length) := by
  induction n with
  | zero => exact rows_shw_all hw hf 0 fun m h => nomatch h
  | succ n ih => exact rows_shw_all hw hf (n + 1) (fun m h => by obtain rfl := Nat.succ.inj h; exact ih)
end TW
set_option Elab.async false
set_option linter.all false
set_option maxRecDepth 100000
namespace TW
open PySem PySem.Spec PyProof.Rows L2 TL
/-- two lists or tuples of the same content have the same repr -/
def spExact (K : PySem.W.Frag) : Sp := fun vs H Q _ => ∃ (a b : Addr) (d : PyData), vs = [.ref a, .ref b] ∧ Dp K H (.ref a) d ∧ Dp K H (.ref b) d ∧ d.showable = true ∧ d.hasDict = false ∧ d.depth ≤ 60 ∧ d.shown.length ≤ sizeLine ∧ Q (.bl true) H
abbrev S_law_exact : Stmt := topS 75
abbrev N_law_exact : List Str := ["_law_actual", "_law_due"]
abbrev P_law_exact : List Str := ["_law_actual", "_law_due"]
theorem sc_law_exact : FnScope N_law_exact P_law_exact (defScope S_law_exact) := ⟨rfl, rfl, rfl, by decide +kernel, rfl, by decide +kernel, by decide +kernel⟩
section
variable {P : Program} {w : World} {K : PySem.W.Frag} {mg : Str → Option Value} {base : Heap}
set_option maxHeartbeats 4000000 in
theorem ok_exact {f : Addr} {fd : FuncData} (F : Fun K "_law_exact" "_law_exact" S_law_exact f fd) (B : Bl mg) : FnG P w K mg base CX0 1 f fd P_law_exact (spExact K) := by
  refine F.still sc_law_exact (fun vs H Q E h => ?_) (fun cdv A outer s H vs Q E hg hr h => ?_)
  · obtain ⟨a, b, d, rfl, _⟩ := h
    rfl
  · obtain ⟨a, b, d, rfl, d1, d2, sh, nd, dp, sz, k⟩ := h
    have hu64 : (A.deeper (envOfC "_law_exact" (defScope S_law_exact) s.heap.objs.size f cdv)).units + 64 < cLine := by have := hr.un; omega
    refine ⟨_, (pss_one (ps_ret (pe_cmpR op_eq (pe_callB (call_reprD hg hu64) (by rfl) B.m_repr (by decide +kernel) (pa_cons (pv 0) pa_nil)) (pe_callB (call_reprD hg hu64) (by rfl) B.m_repr (by decide +kernel) (pa_cons (pv 1) pa_nil)) (nomark _)))), ?_⟩
    refine ⟨_, rfl, a, d, rfl, d1, sh, nd, dp, sz, _, rfl, b, d, rfl, d2, sh, nd, dp, sz, rfl, ?_⟩
    rw [decide_eq_true rfl]
    exact k
end
end TW
set_option Elab.async false
set_option linter.all false
set_option maxRecDepth 100000
namespace TW
open PySem PySem.Spec PyProof.Rows L2 TL
def spPRows (K : PySem.W.Frag) (C : Addr) : Sp := fun vs H Q _ => ∃ (h : Addr) (is fs os : List Str) (n : Nat) (ds : List PyData) (ws : List Str) (p : PP), vs = [.ref h] ∧ ProgAt K C H h is fs os n ds ws p ∧ ds.length ≤ 100 ∧
  ∀ (b : Addr) (M : List Addr) (H' : Hp), Same H H' → Dq H' (.ref b) (.list ds) M → (∀ x ∈ M, H x = none) → Q (.ref b) H'
def spPVars (K : PySem.W.Frag) (C : Addr) : Sp := fun vs H Q _ => ∃ (h : Addr) (is fs os : List Str) (n : Nat) (ds : List PyData) (ws : List Str) (p : PP), vs = [.ref h] ∧ ProgAt K C H h is fs os n ds ws p ∧
  ∀ q, H q = none → Q (.ref q) (upd H q (.lst ((vars is os n ds).map V.str)))
section
variable {P : Program} {w : World} {K : PySem.W.Frag} {mg : Str → Option Value} {base : Heap}
set_option maxHeartbeats 4000000 in
theorem ok_prows {f C fC : Addr} {fd fdC : FuncData} (F : Fun K "rows" "Program.rows" S_Program_rows f fd) (T : HCP K mg C) (d_copied_rows : Df K mg "copied_rows" S_copied_rows fC fdC P_copied_rows)
    (G4 : ∀ (ws fs : List Str) (n : Nat), FnOk P w K mg base CX0 (2 * n + 3) fC fdC P_copied_rows (spCopies ws fs n)) : FnOk P w K mg base CX0 10 f fd P_Program_rows (spPRows K C) := by
  refine F.ok sc_Program_rows (fun vs H Q E h => ?_) (fun cdv A outer s H vs Q E hr h => ?_)
  · obtain ⟨h, is, fs, os, n, ds, ws, p, rfl, _⟩ := h
    rfl
  · obtain ⟨h, is, fs, os, n, ds, ws, p, rfl, A0, l100, kk⟩ := h
    have n3 := A0.g.n3
    have G_copied_rows := G4 ws fs n
    have hr_copied_rows : Room (2 * n + 3) _ := hr.mono (by omega)
    refine ⟨_, (pss_one (ps_ret (pe_call G_copied_rows hr_copied_rows rfl d_copied_rows.g d_copied_rows.F.kp d_copied_rows.b .nil pass0 (pa_cons (pe_fld (pv 0) rfl) pa_nil)))), ?_⟩
    exact ⟨_, rfl, h, C, _, _, _, rfl, A0.ob, T.cl, T.nR, pfl_rows p, p.qR, ds, p.LR, rfl, A0.r, A0.g.rd, A0.g.ok, l100, fun b M H' s' q f => kk b M H' s' q f⟩
set_option maxHeartbeats 4000000 in
theorem ok_pvars {f C : Addr} {fd : FuncData} (F : Fun K "variables" "Program.variables" S_Program_variables f fd) (B : Bl mg) (T : HCP K mg C) : FnOk P w K mg base CX0 1 f fd P_Program_variables (spPVars K C) := by
  refine F.ok sc_Program_variables (fun vs H Q E h => ?_) (fun cdv A outer s H vs Q E hr h => ?_)
  · obtain ⟨h, is, fs, os, n, ds, ws, p, rfl, _⟩ := h
    rfl
  · obtain ⟨h, is, fs, os, n, ds, ws, p, rfl, A0, kk⟩ := h
    refine ⟨_, (pss_one (ps_ret (pe_callTy call_list_of (by rfl) B.m_list (by decide +kernel) (pa_cons (pe_fld (pv 0) rfl) pa_nil)))), ?_⟩
    exact ⟨_, rfl, h, C, _, _, _, rfl, A0.ob, T.cl, T.nV, pfl_variables p, p.qV, _, rfl, .inl (SqL.of A0.v), fun q hq => kk q hq⟩
end
theorem dp_strs {K : PySem.W.Frag} {H : Hp} : ∀ ws : List Str, DpAll K H (ws.map V.str) (ws.map .str)
  | [] => .nil
  | x :: ws => .cons (.str x) (dp_strs ws)
theorem dp_wt {K : PySem.W.Frag} {H : Hp} {a : Addr} {ws : List Str} (w : WT K H a ws) : Dp K H (.ref a) (.tuple (ws.map .str)) := .tup w.sqt (dp_strs ws)
theorem pfl_none (p : PP) {m : Str} (h1 : ¬ m = "inputs") (h2 : ¬ m = "fields") (h3 : ¬ m = "outputs") (h4 : ¬ m = "_rows") (h5 : ¬ m = "_table") (h6 : ¬ m = "_variables") : (pfl p).lookup m = none := by
  unfold pfl
  rw [lookup_putF, if_neg h6, lookup_putF, if_neg h5, lookup_putF, if_neg h4, lookup_putF, if_neg h3, lookup_putF, if_neg h2, lookup_putF, if_neg h1]
  rfl
/-- what a program gives back is what it was made of -/
def spGives (K : PySem.W.Frag) (C : Addr) : Sp := fun vs H Q _ => ∃ (h i f o a : Addr) (is fs os : List Str) (n : Nat) (ds : List PyData) (ws : List Str) (p : PP) (L : List Addr), vs = [.ref h, .ref i, .ref f, .ref o, .ref a] ∧ ProgAt K C H h is fs os n ds ws p ∧ ds.length ≤ 100 ∧ H i = some (.lst (is.map V.str)) ∧ H f = some (.lst (fs.map V.str)) ∧ H o = some (.lst (os.map V.str)) ∧
  Dq H (.ref a) (.list ds) L ∧ ∀ H', Same H H' → Q (.bl true) H'
theorem dedupF_sub {l : List Str} {x : Str} (h : x ∈ dedupF l) : x ∈ l := by
  have e : dedupF l = dedupN l l.length := rfl
  rw [e] at h
  have := (dedupN_mem (x := x) (Nat.le_refl l.length)).mp h
  exact List.mem_of_mem_take this
section
variable {P : Program} {w : World} {K : PySem.W.Frag} {mg : Str → Option Value} {base : Heap}
end
end TW
set_option Elab.async false
set_option linter.all false
set_option maxRecDepth 100000
namespace TW
open PySem PySem.Spec PyProof.Rows L2 TL
abbrev S_steps_of : Stmt := topS 47
abbrev N_steps_of : List Str := ["rows", "place", "branch", "inner", "here", "row"]
abbrev P_steps_of : List Str := ["rows", "place"]
theorem sc_steps_of : FnScope N_steps_of P_steps_of (defScope S_steps_of) := ⟨rfl, rfl, rfl, by decide +kernel, rfl, by decide +kernel, by decide +kernel⟩
def PRow.D : PRow → PyData
  | .move x y => .tuple [.str "move", .str x, .str y]
  | .non x => .tuple [.str "none", .str x]
  | .new x => .tuple [.str "new", .str x]
def PRow.k : PRow → Str
  | .move _ _ => "move"
  | .non _ => "none"
  | .new _ => "new"
def PRow.us : PRow → List V
  | .move x y => [.str x, .str y]
  | .non x => [.str x]
  | .new x => [.str x]
def PRow.rs : PRow → List Str
  | .move _ _ => ["variable", "variable"]
  | .non _ => ["variable"]
  | .new _ => ["variable"]
theorem dq_row {H : Hp} {v : V} {d : PRow} {L : List Addr} (h : Dq H v d.D L) : ∃ r, v = .ref r ∧ H r = some (.tup d.vs) := by
  cases d <;> (
    cases h with
    | @tup a xs _ _ ha da =>
    refine ⟨a, rfl, ?_⟩
    rw [ha]
    refine congrArg (fun x => some (HO.tup x)) ?_
    first
    | (cases da with
      | cons h1 t1 =>
        cases h1
        cases t1 with
        | cons h2 t2 =>
          cases h2
          cases t2 with
          | cons h3 t3 =>
            cases h3
            cases t3
            rfl)
    | (cases da with
      | cons h1 t1 =>
        cases h1
        cases t1 with
        | cons h2 t2 =>
          cases h2
          cases t2
          rfl))
theorem l_move : formsT.lookup ("move" : Str) = some (["variable", "variable"] : List Str) := by decide +kernel
theorem l_none : formsT.lookup ("none" : Str) = some (["variable"] : List Str) := by decide +kernel
theorem l_new : formsT.lookup ("new" : Str) = some (["variable"] : List Str) := by decide +kernel
theorem PRow.rowV {H : Hp} {r : Addr} {d : PRow} (h : H r = some (.tup d.vs)) : RowV H r d.k d.us d.rs := by
  cases d
  · exact ⟨h, l_move, rfl⟩
  · exact ⟨h, l_none, rfl⟩
  · exact ⟨h, l_new, rfl⟩
theorem nvr : ¬ (("variable" : Str) = "rows") := by decide +kernel
theorem PRow.pick (d : PRow) : TW.pick "rows" d.us d.rs = [] := by
  cases d <;> simp [TW.pick, PRow.us, PRow.rs, nvr]
theorem pi_enumK {X : Cx} {K : PySem.W.Frag} (h : X.K = K) {e : Expr} {ta : TA} {p pos tpos : Pos} {elts : List Expr} {kk : Nat} (hg : Gl X "enumerate") (hm : X.mg "enumerate" = none) (ha : PA X [e] ta) (hs : starEach [e] X.env = [(false, eval e X.env)] := by rfl) :
    PI X (.Tuple elts kk tpos) (.Call (.Name "enumerate" p) [e] [] pos) (iEnum K ta) := h ▸ pi_enum hg hm ha hs
/-- the steps of plain rows -/
def StepsAt (H : Hp) (b : Addr) (prs : List PRow) : Prop := ∃ ts : List Addr, H b = some (.lst (ts.map V.ref)) ∧ ts.length = prs.length ∧ ∀ (i : Nat) (t : Addr) (d : PRow), ts[i]? = some t → prs[i]? = some d →
  ∃ tp r li xs, H t = some (.tup [.ref tp, .ref r, .ref li]) ∧ H tp = some (.tup xs) ∧ H r = some (.tup d.vs) ∧ H li = some (.lst [])
def spSteps (K : PySem.W.Frag) : Sp := fun vs H Q _ => ∃ (a q : Addr) (prs : List PRow) (L : List Addr) (bs : List Int), vs = [.ref a, .ref q] ∧ Dq H (.ref a) (.list (prs.map PRow.D)) L ∧ SqT K H q (bs.map V.int) ∧ prs.length ≤ 100 ∧ bs.length ≤ 80 ∧
  ∀ b H', Same H H' → H b = none → StepsAt H' b prs → Q (.ref b) H'
section
variable {P : Program} {w : World} {K : PySem.W.Frag} {mg : Str → Option Value} {base : Heap}
set_option maxHeartbeats 8000000 in
theorem ok_steps {f fP fB : Addr} {fd fdP fdB : FuncData} (F : Fun K "steps_of" "steps_of" S_steps_of f fd) (B : Bl mg) (d_placed_rows : Df K mg "placed_rows" S_placed_rows fP fdP P_placed_rows) (G_placed_rows : FnOk P w K mg base CX0 1 fP fdP P_placed_rows (spPlaced K))
    (d_branches : Df K mg "branches" S_branches fB fdB P_branches) (G_branches : FnOk P w K mg base CX0 1 fB fdB P_branches (spPartsOf "rows")) (d_steps_of : Df K mg "steps_of" S_steps_of f fd P_steps_of) (G_steps_of : FnOk P w K mg base CX0 1 f fd P_steps_of (fun _ _ _ _ => False)) : FnOk P w K mg base CX0 2 f fd P_steps_of (spSteps K) := by
  refine F.ok sc_steps_of (fun vs H Q E h => ?_) (fun cdv A outer s H vs Q E hr h => ?_)
  · obtain ⟨a, q, prs, L, bs, rfl, _⟩ := h
    rfl
  · obtain ⟨a, q, prs, L, bs, rfl, hq, hbs, l100, b80, kk⟩ := h
    have hr_placed_rows : Room 1 _ := hr
    have hr_branches : Room 1 _ := hr
    have hr_steps_of : Room 1 _ := hr
    refine ⟨_, (pss_one (ps_ret (pe_lc (own := [("here", 4), ("row", 5)]) (tt := tYes) rfl sc_steps_of.nd (pi_list (pe_call G_placed_rows hr_placed_rows rfl d_placed_rows.g d_placed_rows.F.kp d_placed_rows.b .nil pass0 (pa_cons (pv 0) (pa_cons (pv 1) pa_nil)))) (blkOk_by (own := [("here", 4), ("row", 5)]) (N := N_steps_of) (sc := defScope S_steps_of) (by decide +kernel)) (fun _ _ _ _ _ => (pg_tupK (K := K) (n := 2) rfl rfl (pgs_cons (pg_name (i := 4) sc_steps_of.nd rfl (by first | exact Or.inl rfl | exact Or.inr rfl)) (pgs_cons (pg_name (i := 5) sc_steps_of.nd rfl (by first | exact Or.inl rfl | exact Or.inr rfl)) pgs_nil)))) (fun _ _ _ _ _ => pts_nil) (fun _ _ _ _ _ => (pe_tup (pa_cons (pv 4) (pa_cons (pv 5) (pa_cons (pe_lc (own := [("branch", 2), ("inner", 3)]) (tt := tYes) rfl sc_steps_of.nd (pi_enumK (K := K) rfl (by rfl) B.m_enumerate (pa_cons (pe_call G_branches hr_branches rfl d_branches.g d_branches.F.kp d_branches.b .nil pass0 (pa_cons (pv 5) pa_nil)) pa_nil)) (blkOk_by (own := [("branch", 2), ("inner", 3)]) (N := N_steps_of) (sc := { kind := .function, names := [(".0", .local), ("here", .cell), ("row", .local), ("enumerate", .globalImplicit), ("branches", .globalImplicit)], isGenerator := false, isCoroutine := false }) (by decide +kernel)) (fun _ _ _ _ _ => (pg_tupK (K := K) (n := 2) rfl rfl (pgs_cons (pg_name (i := 2) sc_steps_of.nd rfl (by first | exact Or.inl rfl | exact Or.inr rfl)) (pgs_cons (pg_name (i := 3) sc_steps_of.nd rfl (by first | exact Or.inl rfl | exact Or.inr rfl)) pgs_nil)))) (fun _ _ _ _ _ => pts_nil) (fun _ _ _ _ _ => (pe_call G_steps_of hr_steps_of rfl d_steps_of.g d_steps_of.F.kp d_steps_of.b .nil pass0 (pa_cons (pv 3) (pa_cons (pe_op (op_catAK (K := K) rfl) (pv 4) (pe_tup (pa_cons (pv 2) pa_nil))) pa_nil))))) pa_nil)))))))), ?_⟩
    refine ⟨_, rfl, _, rfl, a, q, prs.map PRow.D, L, bs, rfl, hq, hbs, by rw [List.length_map]; exact l100, by omega, fun b ys M0 H1 s1 hb h1 dy sub => ⟨b, rfl, ⟨_, SqL.of h1⟩, fun D hD => ?_⟩⟩
    refine lc_list (xs := ys) (fun i G' => Same H1 G' ∧ ∃ ts : List Addr, G' D = some (.lst (ts.map V.ref)) ∧ ts.length = i ∧ ∀ (j : Nat) (t : Addr) (d : PRow), ts[j]? = some t → prs[j]? = some d → ∃ tp r li xs, li ≠ D ∧ G' t = some (.tup [.ref tp, .ref r, .ref li]) ∧ G' tp = some (.tup xs) ∧ G' r = some (.tup d.vs) ∧ G' li = some (.lst [])) ⟨same_new hD, [], upd_same, rfl, fun j t d z => nomatch z⟩ ?_ ?_ ?_
    · rintro i G' hi ⟨sG, _⟩
      exact SqL.of (sG _ _ h1)
    · rintro i x G' hx ⟨sG, ts, hGD, lt, ht⟩
      obtain ⟨d', N, hd', qd, _⟩ := dy.get hx
      obtain ⟨d, hd, rfl⟩ : ∃ d, prs[i]? = some d ∧ pd (bs ++ [(i : Int)], d.D) = d' := by
        rw [List.getElem?_map] at hd'
        obtain ⟨z, e1, e2⟩ := Option.map_eq_some_iff.mp hd'
        unfold placed at e1
        rw [List.getElem?_map, List.getElem?_zipIdx, List.getElem?_map] at e1
        obtain ⟨z2, e3, e4⟩ := Option.map_eq_some_iff.mp e1
        obtain ⟨d, e5, e6⟩ := Option.map_eq_some_iff.mp e3
        obtain ⟨d0, e7, e8⟩ := Option.map_eq_some_iff.mp e5
        refine ⟨d0, e7, ?_⟩
        rw [← e2, ← e4, ← e6, ← e8]
        simp
      obtain ⟨rt, pp, vr, rfl, hrt, hpp, qr⟩ := pd_inv qd
      obtain ⟨r, rfl, hr2⟩ := dq_row qr
      refine ⟨rt, _, rfl, SqT.of (sG _ _ hrt), rfl, _, _, rfl, _, _, rfl, rfl, rfl, yes_of ?_⟩
      refine ⟨_, rfl, _, rfl, _, rfl, r, d.k, d.us, d.rs, rfl, PRow.rowV (sG _ _ hr2), fun b2 G2 s2 n2 w2 => ?_⟩
      rw [PRow.pick] at w2
      refine ⟨b2, [], rfl, SqL.of w2, fun D2 hD2 => ?_⟩
      refine lc_enumL (xs := []) (fun i G => G = upd G2 D2 (.lst [])) rfl ?_ ?_ ?_
      · rintro i G rfl
        exact SqL.of ((upd_ne (ne_of_none w2 hD2)).trans w2)
      · intro i x T G hx
        cases hx
      · rintro G rfl
        have s3 : Same G' (upd G2 D2 (.lst [])) := s2.trans (same_new hD2)
        refine ⟨by show 3 ≤ sizeLine; decide, fun t3 ht3 => ?_⟩
        have s4 := s3.trans (same_new (o := .tup [.ref pp, .ref r, .ref D2]) ht3)
        have nD2 : D2 ≠ D := fun z => by
          rw [z] at hD2
          have := s2 _ _ hGD
          rw [this] at hD2
          cases hD2
        have nt3 : t3 ≠ D := fun z => by
          rw [z] at ht3
          have := s3 _ _ hGD
          rw [this] at ht3
          cases ht3
        have al : ts.length ≤ 100 := by
          have := (List.getElem?_eq_some_iff.mp hd).1
          omega
        refine ⟨_, s4 _ _ hGD, by rw [List.length_map]; exact small1000 (by omega), fun b' o e => (upd_ne (ne_of_none e hD)).trans (s4 _ _ (sG _ _ e)), ts ++ [t3], by rw [upd_same, List.map_append]; rfl, by rw [List.length_append, lt]; rfl, fun j t d2 hj hd2 => ?_⟩
        have tupNe : ∀ {b' : Addr} {us : List V}, G' b' = some (.tup us) → b' ≠ D := fun e z => by rw [z, hGD] at e; cases e
        rcases Nat.lt_or_ge j ts.length with z | z
        · rw [List.getElem?_append_left z] at hj
          obtain ⟨tp, r', li, xs, n1, g1, g2, g3, g4⟩ := ht j t d2 hj hd2
          exact ⟨tp, r', li, xs, n1, (upd_ne (tupNe g1)).trans (s4 _ _ g1), (upd_ne (tupNe g2)).trans (s4 _ _ g2), (upd_ne (tupNe g3)).trans (s4 _ _ g3), (upd_ne n1).trans (s4 _ _ g4)⟩
        · have ej : j = ts.length := by
            have := (List.getElem?_eq_some_iff.mp hj).1
            rw [List.length_append] at this
            have : j < ts.length + 1 := this
            omega
          subst ej
          rw [List.getElem?_append_right (Nat.le_refl _), Nat.sub_self] at hj
          cases hj
          rw [lt] at hd2
          rw [hd] at hd2
          cases hd2
          have gp := sG _ _ hpp
          have gr := sG _ _ hr2
          exact ⟨pp, r, D2, _, nD2, (upd_ne nt3).trans upd_same, (upd_ne (tupNe gp)).trans (s4 _ _ gp), (upd_ne (tupNe gr)).trans (s4 _ _ gr), (upd_ne nD2).trans (same_new ht3 _ _ upd_same)⟩
    · rintro G' ⟨sG, ts, hGD, lt, ht⟩
      have ly : ys.length = prs.length := by rw [dy.len, List.length_map, placed_len, List.length_map]
      refine kk D G' (s1.trans sG) (s1.free hD) ⟨ts, hGD, by rw [lt, ly], fun i t d h1 h2 => ?_⟩
      obtain ⟨tp, r, li, xs, _, g⟩ := ht i t d h1 h2
      exact ⟨tp, r, li, xs, g⟩
end
end TW
set_option Elab.async false
set_option linter.all false
set_option maxRecDepth 100000
namespace TW
open PySem PySem.Spec PyProof.Rows L2 TL LamX NdefX LamQ
theorem pe_neverT {X : Cx} {e : Expr} : PE X e (fun _ _ _ => False) := ⟨fun _ _ _ _ _ _ h => h.elim⟩
/-- rows done, one after the other -/
inductive Rns (m : MS) : List PRow → MS → Prop where
  | nil : Rns m [] m
  | snoc {ds : List PRow} {d : PRow} {m1 m2 : MS} : Rns m ds m1 → Stp m1 d m2 → Rns m (ds ++ [d]) m2
theorem Stp.ok {m m' : MS} {d : PRow} {fs : List Str} {k : Nat} (s : Stp m d m') (O : MOk m fs k) : MOk m' fs (k + 1) := by
  cases s with
  | move x y => exact ⟨setV_nodup O.nd _ _, Nat.le_trans (setV_len ..) (Nat.succ_le_succ O.lv), Nat.le_succ_of_le O.lc, O.fn, O.f2⟩
  | non x => exact ⟨setV_nodup O.nd _ _, Nat.le_trans (setV_len ..) (Nat.succ_le_succ O.lv), Nat.le_succ_of_le O.lc, O.fn, O.f2⟩
  | new x dC kS => exact ⟨setV_nodup O.nd _ _, Nat.le_trans (setV_len ..) (Nat.succ_le_succ O.lv), by show (m.cells ++ [dC]).length ≤ k + 1; rw [List.length_append]; exact Nat.succ_le_succ O.lc, O.fn, O.f2⟩
theorem Rns.ok {m m' : MS} {ds : List PRow} {fs : List Str} {k : Nat} (r : Rns m ds m') (O : MOk m fs k) : MOk m' fs (k + ds.length) := by
  induction r with
  | nil => exact O
  | snoc _ s ih =>
    rw [List.length_append]
    exact s.ok ih
theorem MOk.up {m : MS} {fs : List Str} {k k' : Nat} (O : MOk m fs k) (h : k ≤ k') : MOk m fs k' := ⟨O.nd, Nat.le_trans O.lv h, Nat.le_trans O.lc h, O.fn, O.f2⟩
theorem PRow.vs_k (d : PRow) : d.vs = V.str d.k :: d.us := by cases d <;> rfl
theorem PRow.not_put (d : PRow) : decide (V.str d.k = V.str "put") = false := by
  cases d
  · show decide (V.str "move" = V.str "put") = false
    decide +kernel
  · show decide (V.str "none" = V.str "put") = false
    decide +kernel
  · show decide (V.str "new" = V.str "put") = false
    decide +kernel
structure WP where
  dx : Addr
  hm : Addr
  qW : Addr
  tE : Addr
def wfl0 (p : WP) : List (Str × V) := putF "written" (.ref p.qW) (putF "machine" (.ref p.hm) [])
def wfl (p : WP) : List (Str × V) := putF "ending" (.ref p.tE) (wfl0 p)
theorem wn1 : ¬ (("machine" : Str) = "written") := by decide +kernel
theorem wn2 : ¬ (("machine" : Str) = "ending") := by decide +kernel
theorem wn3 : ¬ (("written" : Str) = "ending") := by decide +kernel
theorem wfl0_machine (p : WP) : (wfl0 p).lookup ("machine" : Str) = some (.ref p.hm) := by
  unfold wfl0
  rw [lookup_putF, if_neg wn1, lookup_putF, if_pos rfl]
theorem wfl_machine (p : WP) : (wfl p).lookup ("machine" : Str) = some (.ref p.hm) := by
  unfold wfl
  rw [lookup_putF, if_neg wn2]
  exact wfl0_machine p
theorem wfl_ending (p : WP) : (wfl p).lookup ("ending" : Str) = some (.ref p.tE) := by
  unfold wfl
  rw [lookup_putF, if_pos rfl]
theorem wfl0_none (p : WP) {m : Str} (h1 : ¬ m = "machine") (h2 : ¬ m = "written") : (wfl0 p).lookup m = none := by
  unfold wfl0
  rw [lookup_putF, if_neg h2, lookup_putF, if_neg h1]
  rfl
theorem wfl_none (p : WP) {m : Str} (h1 : ¬ m = "machine") (h2 : ¬ m = "written") (h3 : ¬ m = "ending") : (wfl p).lookup m = none := by
  unfold wfl
  rw [lookup_putF, if_neg h3]
  exact wfl0_none p h1 h2
/-- what the walk asks of the class -/
structure HCW (K : PySem.W.Frag) (mg : Str → Option Value) (C : Addr) : Prop where
  cl : Cls K C
  g : mg "Walk" = some (.ref C)
  n_machine : NoAttr K C "machine"
  n_written : NoAttr K C "written"
  n_ending : NoAttr K C "ending"
theorem Wr.new {L : List Addr} {H : Hp} {q : Addr} {o : HO} (n : H q = Option.none) : Wr L H (upd H q o) := Wr.same (same_new n) fun x e => by
  by_cases z : x = q
  · rw [z]
    exact n
  · rwa [upd_ne z] at e
theorem Wr.steps {H H' : Hp} {p : MP} {b : Addr} {prs : List PRow} (w : Wr p.qs H H') (S : StepsAt H b prs) (d : ∀ q ∈ p.qs, ∃ kv, H q = some (.dK kv)) : StepsAt H' b prs := by
  have keep : ∀ {x : Addr} {o : HO}, H x = some o → (∀ kv, o ≠ .dK kv) → H' x = some o := fun {x o} e n => w.k _ _ e fun m => by
    obtain ⟨kv, e2⟩ := d _ m
    rw [e] at e2
    exact n kv (Option.some.inj e2)
  obtain ⟨ts, h1, h2, h3⟩ := S
  refine ⟨ts, keep h1 (fun kv z => nomatch z), h2, fun i t d hi hd => ?_⟩
  obtain ⟨tp, r, li, xs, g1, g2, g3, g4⟩ := h3 i t d hi hd
  exact ⟨tp, r, li, xs, keep g1 (fun kv z => nomatch z), keep g2 (fun kv z => nomatch z), keep g3 (fun kv z => nomatch z), keep g4 (fun kv z => nomatch z)⟩
theorem MachAt.qd {C : Addr} {H : Hp} {h : Addr} {p : MP} {fs : List Str} {m : MS} (M : MachAt C H h p fs m) : ∀ q ∈ p.qs, ∃ kv, H q = some (.dK kv) := fun q hq => by
  unfold MP.qs at hq
  simp only [List.mem_cons, List.not_mem_nil, or_false] at hq
  rcases hq with rfl | rfl | rfl | rfl
  · exact ⟨_, M.v⟩
  · exact ⟨_, M.c⟩
  · exact ⟨_, M.s⟩
  · exact ⟨_, M.z⟩
theorem Wr.keep {H H' : Hp} {p : MP} {C h : Addr} {fs : List Str} {m : MS} (w : Wr p.qs H H') (M : MachAt C H h p fs m) {x : Addr} {o : HO} (e : H x = some o) (n : ∀ kv, o ≠ .dK kv) : H' x = some o := w.k _ _ e fun hm => by
  obtain ⟨kv, e2⟩ := M.qd _ hm
  rw [e] at e2
  exact n kv (Option.some.inj e2)
def spDoSteps (CW CM : Addr) : Sp := fun vs H Q _ => ∃ (hw b hm dx : Addr) (fl : List (Str × V)) (prs : List PRow) (p : MP) (fs : List Str) (m : MS), vs = [.ref hw, .ref b] ∧ H hw = some (.ins CW dx fl) ∧ fl.lookup ("machine" : Str) = some (.ref hm) ∧ MachAt CM H hm p fs m ∧ MOk m fs 800 ∧ StepsAt H b prs ∧ prs.length ≤ 90 ∧
  ∀ H' m' t, Rns m prs m' → MachAt CM H' hm p fs m' → Wr p.qs H H' → H' t = some (.tup [.str "done", .non]) → H t = none → Q (.ref t) H'
abbrev S_Walk__do_steps : Stmt := inClass (topS 50) 2
abbrev N_Walk__do_steps : List Str := ["self", "steps", "place", "row", "inner", "word", "where"]
abbrev P_Walk__do_steps : List Str := ["self", "steps"]
theorem sc_Walk__do_steps : FnScope N_Walk__do_steps P_Walk__do_steps (defScope S_Walk__do_steps) := ⟨rfl, rfl, rfl, by decide +kernel, rfl, by decide +kernel, by decide +kernel⟩
section
variable {P : Program} {w : World} {K : PySem.W.Frag} {mg : Str → Option Value} {base : Heap}
set_option maxHeartbeats 8000000 in
theorem ok_do_steps {f fD CW CM : Addr} {fd fdD : FuncData} (F : Fun K "_do_steps" "Walk._do_steps" S_Walk__do_steps f fd) (T0 : HCW K mg CW) (TM : HCM K mg CM) (M_do : Meth K CM "do" fD) (G_do : FnOk P w K mg base CX0 3 fD fdD P_Machine_do (spDo CM)) (b_do : Binds K fdD P_Machine_do []) : FnOk P w K mg base CX0 4 f fd P_Walk__do_steps (spDoSteps CW CM) := by
  refine F.ok sc_Walk__do_steps (fun vs H Q E h => ?_) (fun cdv A outer s H vs Q E hr h => ?_)
  · obtain ⟨hw, b, hm, dx, fl, prs, p, fs, m, rfl, _⟩ := h
    rfl
  · obtain ⟨hw, b, hm, dx, fl, prs, p, fs, m, rfl, hh, hfl, M, O, S, l90, k⟩ := h
    have hr_do : Room 3 _ := hr
    refine ⟨_, (pss_cons (ps_for PassesOwn.never rfl (pi_list (pv 1)) (pg_tup rfl (pgs_cons (pg_name (i := 2) sc_Walk__do_steps.nd rfl (by first | exact Or.inl rfl | exact Or.inr rfl)) (pgs_cons (pg_name (i := 3) sc_Walk__do_steps.nd rfl (by first | exact Or.inl rfl | exact Or.inr rfl)) (pgs_cons (pg_name (i := 4) sc_Walk__do_steps.nd rfl (by first | exact Or.inl rfl | exact Or.inr rfl)) pgs_nil)))) (pss_cons (ps_if (pt_truth (pv 4) (by intro _; rfl)) (pss_one ps_never) (pss_one (ps_par (i := 5) (j := 6) (by rfl) sc_Walk__do_steps.nd rfl rfl (by decide) rfl rfl (pa_cons (pe_meth (pe_fld (pv 0) rfl) TM.cl M_do G_do hr_do b_do .nil pass0 (pa_cons (pv 3) pa_nil)) (pa_cons (pv 2) pa_nil)) (by rfl))))
 (pss_cons (ps_if (pt_cmpR op_ne (pv 5) pe_str (nomark _)) (pss_one (ps_ret (pe_tup (pa_cons (pv 5) (pa_cons (pv 6) pa_nil))))) pss_nil)
 (pss_one (ps_if (pt_cmpR op_eq (pe_ix ix_tup (pv 3) pe_int (fun _ _ => rfl)) pe_str (nomark _)) (pss_one ps_never) pss_nil)))))
 (pss_one (ps_ret (pe_tup (pa_cons pe_str (pa_cons pe_non pa_nil)))))), ?_⟩
    obtain ⟨ts, hb, lt, hts⟩ := id S
    refine ⟨_, rfl, b, rfl, ⟨_, SqL.of hb⟩, for_list (xs := ts.map V.ref) (fun i σ G => ∃ (m1 : MS) (z2 z3 z4 z5 z6 : Option V), σ = [some (.ref hw), some (.ref b), z2, z3, z4, z5, z6] ∧ Rns m (prs.take i) m1 ∧ MachAt CM G hm p fs m1 ∧ Wr p.qs H G) ?_ ?_ ?_ ?_⟩
    · exact ⟨m, _, _, _, _, _, rfl, .nil, M, Wr.refl _ _⟩
    · rintro i σ G hi ⟨m1, z2, z3, z4, z5, z6, rfl, R, M1, W1⟩
      exact SqL.of (W1.keep M hb fun kv z => nomatch z)
    · rintro i x σ G hx ⟨m1, z2, z3, z4, z5, z6, rfl, R, M1, W1⟩
      obtain ⟨t, ht, rfl⟩ : ∃ t, ts[i]? = some t ∧ x = .ref t := by
        rw [List.getElem?_map] at hx
        obtain ⟨t, e1, e2⟩ := Option.map_eq_some_iff.mp hx
        exact ⟨t, e1, e2.symm⟩
      have hi : i < prs.length := by
        have := (List.getElem?_eq_some_iff.mp ht).1
        omega
      have hd := List.getElem?_eq_getElem hi
      obtain ⟨tp, r, li, xs, g1, g2, g3, g4⟩ := hts i t prs[i] ht hd
      have nk : ∀ {us : List V} kv, HO.tup us ≠ .dK kv := fun kv z => nomatch z
      have nl : ∀ {us : List V} kv, HO.lst us ≠ .dK kv := fun kv z => nomatch z
      refine ⟨t, _, rfl, SqT.of (W1.keep M g1 nk), rfl, _, _, rfl, _, _, rfl, _, _, rfl, rfl, ?_⟩
      refine ⟨_, rfl, false, .inl ⟨[], SqL.of (W1.keep M g4 nl), rfl⟩, iteF ?_⟩
      refine ⟨_, rfl, hw, CW, _, _, _, rfl, W1.keep M hh (fun kv z => nomatch z), T0.cl, T0.n_machine, hfl, hm, _, _, rfl, M1.ob, mno_do .., _, rfl, hm, r, prs[i], p, fs, m1, rfl, M1, (R.ok O).up (by rw [List.length_take]; omega), W1.keep M g3 nk, fun G2 m2 st2 M2 W2 => ?_⟩
      refine ⟨_, rfl, _, _, rfl, ?_⟩
      refine ⟨_, rfl, rfl, _, rfl, ?_⟩
      rw [show (!decide (V.str "done" = V.str "done")) = false by decide +kernel]
      refine iteF ?_
      have W3 := W1.trans W2
      have g5 := W3.keep M g3 nk
      rw [PRow.vs_k] at g5
      refine ⟨_, rfl, r, _, _, V.str prs[i].k, rfl, rfl, SqT.of g5, atI_nat (j := 0) rfl, rfl, _, rfl, ?_⟩
      rw [PRow.not_put]
      refine iteF ⟨m2, _, _, _, _, _, rfl, ?_, M2, W3⟩
      rw [take_next hd]
      exact .snoc R st2
    · rintro σ G ⟨m1, z2, z3, z4, z5, z6, rfl, R, M1, W1⟩
      rw [List.length_map, lt, List.take_length] at R
      refine ⟨by show 2 ≤ sizeLine; decide, fun q nq => ?_⟩
      exact k _ m1 q R (M1.same (same_new nq)) (W1.trans (Wr.new nq)) upd_same (W1.none nq)
def spWalkI (CW CM : Addr) : Sp := fun vs H Q _ => ∃ (h dx b hm : Addr) (prs : List PRow) (p : MP) (fs : List Str) (m : MS), vs = [.ref h, .ref b, .ref hm] ∧ H h = some (.ins CW dx []) ∧ MachAt CM H hm p fs m ∧ MOk m fs 800 ∧ StepsAt H b prs ∧ prs.length ≤ 90 ∧
  ∀ H' m' (wp : WP), wp.dx = dx → wp.hm = hm → Rns m prs m' → MachAt CM H' hm p fs m' → (∀ x o, H x = some o → x ≠ h → x ∉ p.qs → H' x = some o) → (∀ x, H' x = none → H x = none) → H' h = some (.ins CW dx (wfl wp)) → H' wp.tE = some (.tup [.str "done", .non]) → Q .non H'
abbrev S_Walk___init__ : Stmt := inClass (topS 50) 0
abbrev N_Walk___init__ : List Str := ["self", "steps", "machine"]
abbrev P_Walk___init__ : List Str := ["self", "steps", "machine"]
theorem sc_Walk___init__ : FnScope N_Walk___init__ P_Walk___init__ (defScope S_Walk___init__) := ⟨rfl, rfl, rfl, by decide +kernel, rfl, by decide +kernel, by decide +kernel⟩
set_option maxHeartbeats 8000000 in
theorem ok_walkI {f fD CW CM : Addr} {fd fdD : FuncData} (F : Fun K "__init__" "Walk.__init__" S_Walk___init__ f fd) (T0 : HCW K mg CW) (M_do_steps : Meth K CW "_do_steps" fD) (G_do_steps : FnOk P w K mg base CX0 4 fD fdD P_Walk__do_steps (spDoSteps CW CM)) (b_do_steps : Binds K fdD P_Walk__do_steps []) : FnOk P w K mg base CX0 5 f fd P_Walk___init__ (spWalkI CW CM) := by
  refine F.ok sc_Walk___init__ (fun vs H Q E h => ?_) (fun cdv A outer s H vs Q E hr h => ?_)
  · obtain ⟨h, dx, b, hm, prs, p, fs, m, rfl, _⟩ := h
    rfl
  · obtain ⟨h, dx, b, hm, prs, p, fs, m, rfl, hh, M, O, S, l90, k⟩ := h
    have hr_do_steps : Room 4 _ := hr
    refine ⟨_, (pss_cons (ps_fld (pv 0) (pv 2) rfl)
 (pss_cons (ps_fld (pv 0) (pe_lst pa_nil) rfl)
 (pss_one (ps_fld (pv 0) (pe_meth (pv 0) T0.cl M_do_steps G_do_steps hr_do_steps b_do_steps .nil pass0 (pa_cons (pv 1) pa_nil)) rfl)))), ?_⟩
    refine ⟨_, rfl, _, rfl, h, CW, dx, _, rfl, hh, T0.cl, T0.n_machine, by show 0 < 1000; decide, ?_⟩
    have B0 : Bd CW dx h H H 0 [] := ⟨hh, fun b o e _ => e, fun x e => e, Nat.le_refl _⟩
    have B1 := B0.fld "machine" (.ref hm)
    refine ⟨by show 0 ≤ sizeLine; decide, fun qW nW => ?_⟩
    have B2 := B1.new (o := .lst []) nW
    refine ⟨_, rfl, h, CW, dx, _, rfl, B2.ob, T0.cl, T0.n_written, by have := B2.ln; omega, ?_⟩
    have B3 := B2.fld "written" (.ref qW)
    have nk : ∀ {x : Addr} {o : HO}, H x = some o → (∀ C dx fl, o ≠ .ins C dx fl) → x ≠ h := fun e n z => by
      rw [z, hh] at e
      exact n _ _ _ (Option.some.inj e).symm
    obtain ⟨G, eG⟩ : ∃ G, G = upd (upd (upd H h (.ins CW dx (putF "machine" (.ref hm) []))) qW (.lst [])) h (.ins CW dx (putF "written" (.ref qW) (putF "machine" (.ref hm) []))) := ⟨_, rfl⟩
    rw [← eG] at B3
    rw [← eG]
    clear eG B2 B1
    have kg : ∀ {x : Addr} {o : HO}, H x = some o → o ≠ .ins CW dx [] → G x = some o := fun {x o} e n => B3.fr _ _ e fun z => n (by rw [z, hh] at e; exact (Option.some.inj e).symm)
    have nm : HO.ins CM p.dx (mfl p m.starts 0 0) ≠ .ins CW dx [] := fun z => by
      have e2 : mfl p m.starts 0 0 = [] := by injection z
      have e3 := mfl_fields p m.starts 0 0
      rw [e2] at e3
      cases e3
    have M3 : MachAt CM G hm p fs m := ⟨kg M.ob nm, kg M.f nofun, kg M.v nofun, kg M.c nofun, kg M.s nofun, kg M.z nofun, kg M.r nofun, kg M.l nofun, kg M.a nofun, kg M.w nofun, M.nd, M.len, M.lS⟩
    have S3 : StepsAt G b prs := by
      obtain ⟨ts, h1, h2, h3⟩ := S
      refine ⟨ts, kg h1 nofun, h2, fun i t d hi hd => ?_⟩
      obtain ⟨tp, r, li, xs, g1, g2, g3, g4⟩ := h3 i t d hi hd
      exact ⟨tp, r, li, xs, kg g1 nofun, kg g2 nofun, kg g3 nofun, kg g4 nofun⟩
    have wl : ∀ t, wfl ⟨dx, hm, qW, t⟩ = putF "ending" (.ref t) (putF "written" (.ref qW) (putF "machine" (.ref hm) [])) := fun t => rfl
    refine ⟨_, rfl, h, _, _, rfl, B3.ob, wfl0_none ⟨dx, hm, qW, 0⟩ (by decide +kernel) (by decide +kernel), _, rfl, h, b, hm, dx, _, prs, p, fs, m, rfl, B3.ob, wfl0_machine ⟨dx, hm, qW, 0⟩, M3, O, S3, l90, fun H' m' t R M' W' ht nt => ?_⟩
    have oh := W'.keep M3 B3.ob fun kv z => nomatch z
    refine ⟨_, rfl, h, CW, dx, _, rfl, oh, T0.cl, T0.n_ending, by have := B3.ln; omega, ?_⟩
    have kh : ∀ {x : Addr} {o : HO}, H' x = some o → o ≠ .ins CW dx (putF "written" (.ref qW) (putF "machine" (.ref hm) [])) → (upd H' h (.ins CW dx (putF "ending" (.ref t) (putF "written" (.ref qW) (putF "machine" (.ref hm) []))))) x = some o := fun {x o} e n => (upd_ne fun z => n (by rw [z, oh] at e; exact (Option.some.inj e).symm)).trans e
    refine k _ m' ⟨dx, hm, qW, t⟩ rfl rfl R ⟨kh M'.ob fun z => ?_, kh M'.f nofun, kh M'.v nofun, kh M'.c nofun, kh M'.s nofun, kh M'.z nofun, kh M'.r nofun, kh M'.l nofun, kh M'.a nofun, kh M'.w nofun, M'.nd, M'.len, M'.lS⟩ (fun x o e n1 n2 => (upd_ne n1).trans (W'.k _ _ (B3.fr _ _ e n1) n2)) (fun x e => ?_) upd_same (kh ht nofun)
    · have e2 : mfl p m'.starts 0 0 = wfl0 ⟨dx, hm, qW, 0⟩ := by injection z
      have e3 := mfl_fields p m'.starts 0 0
      rw [e2, wfl0_none ⟨dx, hm, qW, 0⟩ (by decide +kernel) (by decide +kernel)] at e3
      cases e3
    · by_cases z : x = h
      · rw [z, upd_same] at e
        cases e
      · rw [upd_ne z] at e
        exact B3.gr _ (W'.g _ e)
end
end TW
set_option Elab.async false
set_option linter.all false
set_option maxRecDepth 100000
set_option maxHeartbeats 2000000
namespace L2
open PySem PySem.Spec PyProof.Rows
/-- sorted(t), t a tuple of fewer than 64 texts -/
def rSortedTS (K : PySem.W.Frag) : List V → Hp → VK → Prop := fun vs H Q => ∃ (a : Addr) (ks : List Str), vs = [V.ref a] ∧ SqT K H a (ks.map V.str) ∧ ks.length < 64 ∧
  ∀ (ys : List Str) (p : Addr), ys.Perm ks → sortedS ys = true → H p = none → Q (.ref p) (upd H p (.lst (ys.map V.str)))
theorem cr_sortedTS {X : Cx} : CallR X (.builtin "sorted") (rSortedTS X.K) := by
  intro pins s σ H xs us Q I r q
  obtain ⟨a, ks, ex, hd, h64, q⟩ := q
  subst ex
  obtain ⟨u, eu, rx⟩ := vals1 r
  subst eu
  cases rx
  obtain ⟨its, rv, ⟨o, ho, hc, n, hdat⟩, _⟩ := I.tuple hd
  have hS : StrsAre its ks := rv.strs
  have hal : its.length = ks.length := by
    have z := rv.length
    rw [List.length_map] at z
    exact z.symm
  refine Calls.call_function_entry PyProof.Rows.kind_sorted PyProof.Rows.plain_sorted PyProof.Rows.entry_sorted (PyProof.Rows.args_sorted1 _) ?_
  unfold Builtin.«sorted»
  refine wpAny_bind (m := checkCount "sorted" 1 1 _) (wpAny_pure ?_)
  refine wpAny_bind (wpAny_collect_seq a (.inr rfl) ho hc hdat (fun h' hk => ?_) (by rw [List.size_toArray, hal, sizeLine_eq]; omega))
  have I1 : Inv X pins σ H { s with heap := h' } := I.kept (t' := s.toks) hk
  show wpAny _ _ (newList its.toArray.toList >>= _) _ _ _
  rw [show its.toArray.toList = its from rfl]
  refine wpAny_bind (wpAny_newList ?_ (by rw [hal, sizeLine_eq]; omega))
  have hoL : (h'.push (seqObj "list" its.toArray 0)).get? h'.objs.size = some (seqObj "list" its.toArray 0) := Heap.get?_push_size _ rfl
  show wpAny _ _ _ _ _ { s with heap := h'.push (seqObj "list" its.toArray 0) }
  refine wpAny_bind (wpAny_holding (wpAny_call_entry PyProof.Rows.slot_list_sort ⟨_, hoL, rfl⟩ PyProof.Rows.entry_list_sort
    (list_sort_treeK strKind_oneLt (s := { s with heap := h'.push (seqObj "list" its.toArray 0) }) hoL hS.keysOf (fun v₁ v₂ rest e => keyKind_strs (by rw [← e]; exact hS)) (by rw [hal]; exact h64) fun st' hp hs => ⟨_, rfl, ?_⟩)
    (PyProof.Rows.args_list_sort _)))
  obtain ⟨ys, g1, g2, g3⟩ := sorted_out_str hS hp hs
  obtain ⟨e', he'⟩ := PyProof.Rows.sortedHeap_at (vs := its) (out := (arrOf st').map (·.2)) hoL
  have hlen : (ys.map V.str).length ≤ sizeLine := by
    rw [List.length_map, g2.length_eq]
    exact Nat.le_trans (Nat.le_of_lt h64) (by decide)
  refine wpAny_pure ⟨_, rfl, .ref h'.objs.size, upd H h'.objs.size (.lst (ys.map V.str)), I1.laid (t' := s.toks) (fun b u e => ?_) (Nat.le_refl _)
    (show ObjOk X.prog X.w _ _ _ (.lst (ys.map V.str)) from ⟨hlen, ((arrOf st').map (·.2)).toList, e', vals_of_strs g1, by rw [Array.toArray_toList]; exact he'⟩), rfl, q ys _ g2 g3 (I1.hok.fresh (Nat.le_refl _))⟩
  have hb : b < h'.objs.size := Heap.lt_size e
  rw [PyProof.Rows.sortedHeap_old (Nat.ne_of_lt hb) (by rw [size_push']; exact Nat.lt_succ_of_lt hb)]
  exact Heap.get?_push_of_some _ e
end L2
set_option Elab.async false
set_option linter.all false
set_option maxRecDepth 100000
namespace L2
open PySem PySem.Spec PyProof.Rows
section
variable {X : Cx} {CX : CXT} {k : Nat} {C f : Addr} {fd : FuncData} {ps : List Str} {sp : Sp}
/-- x in o, as a value -/
def rInO (C : Addr) (sp : Sp) (E : XK) : R2 := fun x y H Q => ∃ a dx fs, y = .ref a ∧ H a = some (.ins C dx fs) ∧ sp [.ref a, x] H (fun v H' => ∃ b : Bool, v = .bl b ∧ Q (.bl b) H') E
theorem op_inO {E : XK} (F : FnOk X.prog X.w X.K X.mg X.base CX k f fd ps sp) (hr : Room k X.A) (hs : PySem.W.findIn X.K (.ref C) "__contains__" = some (some (.ref f))) (hf : PySem.W.isFn X.K (.ref f) = true)
    (hb : Binds X.K fd ps []) (hx : Passes CX X E) : OpR X (compareOp .In) (rInO C sp E) := by
  intro pins s σ H x y v u Q I rx ry h
  obtain ⟨a, dx, fs, rfl, ea, h⟩ := h
  cases ry
  obtain ⟨mA, J, _⟩ := ins_get I.hok ea
  obtain ⟨od, J, _⟩ := J.look
  obtain ⟨m, hF⟩ := I.fr
  refine PySem.W.in_K hF I.ok.mod.kin J hs hf ?_
  refine wpAny_mono (run_fn (us := [.ref a, v]) (vs := [.ref a, x]) (dvs := []) F hr hb .nil hx I (.cons rfl (.cons rx .nil)) h) (fun r s' z => ?_) fun _ _ e => e
  obtain ⟨z, H', I', rz, b, ez, q⟩ := z
  subst ez
  cases rz
  exact wpAny_truthy_bool ⟨.bl b, H', I', rfl, q⟩
/-- the callee runs one deeper -/
theorem run_fnI {pins : List (Addr × Obj)} {σ : St} {H : Hp} {s : Shared} {Q : VK} {us : List Value} {vs : List V} {E : St → XK} (F : FnOk X.prog X.w X.K X.mg X.base CX k f fd ps sp) (hr : Room (k + 1) X.A) (hb : Binds X.K fd ps []) (hx : PassesAt CX X σ (E σ))
    (I : Inv X pins σ H s) (r : Vals vs us) (h : sp vs H Q (E σ)) : wpAny (model X.prog X.w) X.A.in1 (call (.ref f) us) (EP X pins σ Q) X.xe s := by
  have hl : us.length = ps.length := by rw [← r.length]; exact F.len _ _ _ _ h
  have b := hb s us I.kIn (by rw [List.append_nil]; exact hl)
  rw [List.append_nil] at b
  refine wpAny_call (codeAny_mono (F.run X.A.in1 X.stack s H ⟨us, []⟩ us vs Q (E σ) hr.in1 I.env0.in1 b r h) fun r s' hq => ?_)
  cases r with
  | error e => exact hx pins H s e s' I hq
  | ok fl =>
    cases fl with
    | ret u => exact I.after hq
    | next => exact False.elim hq
    | brk => exact False.elim hq
    | cont => exact False.elim hq
/-- o[e], the class of o with an own rule for it -/
def tIxO (C : Addr) (sp : Sp) (E : St → XK) (ta tb : TE) : TE := fun σ H Q => ta σ H fun x H1 => tb σ H1 fun y H2 => ∃ a dx fs, x = .ref a ∧ H2 a = some (.ins C dx fs) ∧ sp [.ref a, y] H2 Q (E σ)
theorem pe_ixO {E : St → XK} {a b : Expr} {ta tb : TE} {pos : Pos} (F : FnOk X.prog X.w X.K X.mg X.base CX k f fd ps sp) (hr : Room (k + 1) X.A) (hs : PySem.W.findIn X.K (.ref C) "__getitem__" = some (some (.ref f))) (hf : PySem.W.isFn X.K (.ref f) = true) (hi : PySem.W.fnIn X.K f = true)
    (hb : Binds X.K fd ps []) (hx : ∀ σ, PassesAt CX X σ (E σ)) (ha : PE X a ta) (hbb : PE X b tb) (hsl : ∀ o i, subscripted b true o i = runValue (.builtin "lifetime.subscript" ⟨[o, i], []⟩)) : PE X (.Subscript a b pos) (tIxO C sp E ta tb) := by
  refine ⟨fun pins s σ H Q I h => ?_⟩
  refine Subscript_ (binT ha hbb I (R := fun x y H2 => ∃ p dx fs, x = .ref p ∧ H2 p = some (.ins C dx fs) ∧ sp [.ref p, y] H2 Q (E σ)) h fun v u s2 x y H2 I2 rx ry q => ?_)
  obtain ⟨p, dx, fs, rfl, ea, q⟩ := q
  cases rx
  obtain ⟨mA, J, _⟩ := ins_get I2.hok ea
  obtain ⟨od, J, _⟩ := J.look
  obtain ⟨m, hF⟩ := I2.fr
  exact PySem.W.sub_K hF I2.ok.mod.kin J hs hi hf (run_fnI (us := [.ref p, u]) (vs := [.ref p, y]) F hr hb (hx σ) I2 (.cons rfl (.cons ry .nil)) q) (hsl _ _)
/-- len(o), the class of o with an own rule for it -/
theorem call_lenO {E : XK} (F : FnOk X.prog X.w X.K X.mg X.base CX k f fd ps sp) (hr : Room (k + 1) X.A) (hs : PySem.W.findIn X.K (.ref C) "__len__" = some (some (.ref f))) (hf : PySem.W.isFn X.K (.ref f) = true)
    (hb : Binds X.K fd ps []) (hx : Passes CX X E) : CallR X (.builtin "len") (fun xs H Q => ∃ a dx fs, xs = [.ref a] ∧ H a = some (.ins C dx fs) ∧ sp [.ref a] H (fun v H' => ∃ n : Int, v = .int n ∧ 0 ≤ n ∧ n < 2 ^ 63 ∧ Q (.int n) H') E) := by
  intro pins s σ H us vs Q I r h
  obtain ⟨a, dx, fs, rfl, ea, h⟩ := h
  cases r with
  | cons ra rn =>
    cases rn
    cases ra
    obtain ⟨mA, J, _⟩ := ins_get I.hok ea
    obtain ⟨od, J, _⟩ := J.look
    obtain ⟨m, hF⟩ := I.fr
    refine PySem.W.len_K hF I.ok.mod.kin J hs hf ?_
    refine wpAny_mono (run_fnI (E := fun _ => E) (us := [.ref a]) (vs := [.ref a]) F hr hb (fun pins H s e s' => hx pins σ H s e s') I (.cons rfl .nil) h) (fun r s' z => ?_) fun _ _ e => e
    obtain ⟨z, H', I', rz, n, ez, n0, n1, q⟩ := z
    subst ez
    obtain ⟨t, rfl⟩ := (show ∃ t, r = Value.int n t from rz)
    exact ⟨⟨n0, n1⟩, .int n, H', I'.tok _, ⟨_, rfl⟩, q⟩
end
end L2
namespace TW
open PySem PySem.Spec PyProof.Rows L2 TL
def spGet (K : PySem.W.Frag) (C CE : Addr) : Sp := fun vs H Q E => ∃ (h : Addr) (x : V) (T : String) (p : HP) (l : Ob), vs = [.ref h, x] ∧ H h = some (.ins C p.dx (hfl p)) ∧ H p.qN = some (.dK (dk l)) ∧ Kd K H x T ∧
  ((oneOf x (l.map (·.1)) = false ∧ eNm "name" CE H E) ∨ ∃ n, x = .str n ∧ n ∈ l.map (·.1) ∧ Q (hv (nmv l n)) H)
def spLenH (K : PySem.W.Frag) (C : Addr) : Sp := fun vs H Q _ => ∃ (h : Addr) (fs : List Str) (os : List Ob) (l : Ob) (p : HP), vs = [.ref h] ∧ HeapAt K C H h fs os l p ∧ Q (.int (os.length : Int)) H
def spNms (K : PySem.W.Frag) (C : Addr) : Sp := fun vs H Q _ => ∃ (h : Addr) (p : HP) (l : Ob), vs = [.ref h] ∧ H h = some (.ins C p.dx (hfl p)) ∧ H p.qN = some (.dK (dk l)) ∧ ∀ q, H q = none → Q (.ref q) (upd H q (.dK (dk l)))
def spObs (K : PySem.W.Frag) (C : Addr) : Sp := fun vs H Q _ => ∃ (h : Addr) (fs : List Str) (os : List Ob) (l : Ob) (p : HP), vs = [.ref h] ∧ HeapAt K C H h fs os l p ∧
  ∀ (D : Addr) (ds : List Addr) (H' : Hp), Same H H' → H D = none → (∀ d ∈ ds, H d = none ∧ d ≠ D) → ObjsAt H' D ds fs os.length os → Q (.ref D) H'
abbrev S_Heap___getitem__ : Stmt := inClass (topS 19) 1
abbrev N_Heap___getitem__ : List Str := ["self", "name"]
abbrev P_Heap___getitem__ : List Str := ["self", "name"]
theorem sc_Heap___getitem__ : FnScope N_Heap___getitem__ P_Heap___getitem__ (defScope S_Heap___getitem__) := ⟨rfl, rfl, rfl, by decide +kernel, rfl, by decide +kernel, by decide +kernel⟩
abbrev S_Heap___len__ : Stmt := inClass (topS 19) 4
abbrev N_Heap___len__ : List Str := ["self"]
abbrev P_Heap___len__ : List Str := ["self"]
theorem sc_Heap___len__ : FnScope N_Heap___len__ P_Heap___len__ (defScope S_Heap___len__) := ⟨rfl, rfl, rfl, by decide +kernel, rfl, by decide +kernel, by decide +kernel⟩
abbrev S_Heap_names : Stmt := inClass (topS 19) 7
abbrev N_Heap_names : List Str := ["self"]
abbrev P_Heap_names : List Str := ["self"]
theorem sc_Heap_names : FnScope N_Heap_names P_Heap_names (defScope S_Heap_names) := ⟨rfl, rfl, rfl, by decide +kernel, rfl, by decide +kernel, by decide +kernel⟩
abbrev S_Heap_objects : Stmt := inClass (topS 19) 6
abbrev N_Heap_objects : List Str := ["self", "one"]
abbrev P_Heap_objects : List Str := ["self"]
theorem sc_Heap_objects : FnScope N_Heap_objects P_Heap_objects (defScope S_Heap_objects) := ⟨rfl, rfl, rfl, by decide +kernel, rfl, by decide +kernel, by decide +kernel⟩
section
variable {P : Program} {w : World} {K : PySem.W.Frag} {mg : Str → Option Value} {base : Heap}
set_option maxHeartbeats 8000000 in
theorem ok_get {f C CE fI fH : Addr} {fd fdH : FuncData} (F : Fun K "__getitem__" "Heap.__getitem__" S_Heap___getitem__ f fd) (B : Bl mg) (T0 : HC K mg C) (T : HC2 K C fH) (TE : PySem.ErrX.ErrTxt P K mg "InvalidArgument" "wrong argument: " CE fI)
    (G_has : FnOk P w K mg base CX0 2 fH fdH P_Heap___contains__ (spHas K C)) (b_has : Binds K fdH P_Heap___contains__ []) : FnOk P w K mg base (L2.CX P w) 3 f fd P_Heap___getitem__ (spGet K C CE) := by
  refine F.okX sc_Heap___getitem__ (fun vs H Q E h => ?_) (fun cdv A outer s H vs Q E hr h => ?_)
  · obtain ⟨h, x, T, p, l, rfl, _⟩ := h
    rfl
  · obtain ⟨h, x, Tx, p, l, rfl, hh, hn, hk, k⟩ := h
    have hr_has : Room 2 _ := hr.mono (Nat.le_refl 2)
    have hr0 : Room 1 _ := hr.mono (by decide)
    have hu := hu_of hr
    refine ⟨_, (pss_cons (ps_if (pt_cmpR (op_notInO G_has hr_has T.cs T.cf b_has pass0) (pv 1) (pv 0) (by rfl)) (pss_one (ps_raiseE rfl TE hr0 (takes_of rfl rfl rfl rfl) B.m_super (pa_cons pe_str pa_nil) rfl rfl)) pss_nil)
 (pss_one (ps_ret (pe_dget hu (pe_fld (pv 0) rfl) (pv 1) (fun _ _ => rfl))))), ?_⟩
    refine ⟨_, rfl, _, rfl, h, _, _, rfl, hh, h, x, Tx, p, l, rfl, hh, hn, hk, _, rfl, ?_⟩
    rcases k with ⟨h1, k⟩ | ⟨n, rfl, hm, k⟩
    · rw [h1]
      exact ⟨true, rfl, iteT ⟨_, rfl, by decide, fun d hd => k H d (fun _ _ e => e) hd⟩⟩
    · have h1 : oneOf (.str n) (l.map (·.1)) = true := decide_eq_true hm
      rw [h1]
      refine ⟨false, rfl, iteF ?_⟩
      exact ⟨_, rfl, h, C, _, _, _, rfl, hh, T0.cl, T0.nN, hfl_names p, _, rfl, p.qN, _, rfl, dget_dk (k := (Sum.inr n : Key)) hn (nmv_val hm), k⟩
set_option maxHeartbeats 4000000 in
theorem ok_lenH {f C : Addr} {fd : FuncData} (F : Fun K "__len__" "Heap.__len__" S_Heap___len__ f fd) (B : Bl mg) (T0 : HC K mg C) : FnOk P w K mg base CX0 1 f fd P_Heap___len__ (spLenH K C) := by
  refine F.ok sc_Heap___len__ (fun vs H Q E h => ?_) (fun cdv A outer s H vs Q E hr h => ?_)
  · obtain ⟨h, fs, os, l, p, rfl, _⟩ := h
    rfl
  · obtain ⟨h, fs, os, l, p, rfl, A0, k⟩ := h
    refine ⟨_, (pss_one (ps_ret (pe_callB call_len_seq (by rfl) B.m_len PySem.boot_len (pa_cons (pe_fld (pv 0) rfl) pa_nil)))), ?_⟩
    refine ⟨_, rfl, h, C, _, _, _, rfl, A0.ob, T0.cl, T0.nO, hfl_objects p, p.qO, _, rfl, .inl (SqL.of A0.o.ls), ?_⟩
    rw [List.length_map, A0.o.len]
    exact k
set_option maxHeartbeats 4000000 in
theorem ok_nms {f C : Addr} {fd : FuncData} (F : Fun K "names" "Heap.names" S_Heap_names f fd) (B : Bl mg) (T0 : HC K mg C) : FnOk P w K mg base CX0 1 f fd P_Heap_names (spNms K C) := by
  refine F.ok sc_Heap_names (fun vs H Q E h => ?_) (fun cdv A outer s H vs Q E hr h => ?_)
  · obtain ⟨h, p, l, rfl, _⟩ := h
    rfl
  · obtain ⟨h, p, l, rfl, hh, hn, k⟩ := h
    refine ⟨_, (pss_one (ps_ret (pe_callTy call_dictD (by rfl) B.m_dict (by decide +kernel) (pa_cons (pe_fld (pv 0) rfl) pa_nil)))), ?_⟩
    exact ⟨_, rfl, h, C, _, _, _, rfl, hh, T0.cl, T0.nN, hfl_names p, p.qN, _, rfl, .inl hn, fun q hq => k q hq⟩
set_option maxHeartbeats 4000000 in
theorem ok_obs {f C : Addr} {fd : FuncData} (F : Fun K "objects" "Heap.objects" S_Heap_objects f fd) (B : Bl mg) (T0 : HC K mg C) : FnOk P w K mg base CX0 1 f fd P_Heap_objects (spObs K C) := by
  refine F.ok sc_Heap_objects (fun vs H Q E h => ?_) (fun cdv A outer s H vs Q E hr h => ?_)
  · obtain ⟨h, fs, os, l, p, rfl, _⟩ := h
    rfl
  · obtain ⟨h, fs, os, l, p, rfl, A0, k⟩ := h
    refine ⟨_, (pss_one (ps_ret (pe_lc (own := [("one", 1)]) (g := gName 1) (tt := tYes) rfl sc_Heap_objects.nd (pi_list (pe_fld (pv 0) rfl)) (blkOk_by (own := [("one", 1)]) (N := N_Heap_objects) (sc := defScope S_Heap_objects) (by decide +kernel)) (fun _ _ _ _ _ => (pg_name (i := 1) sc_Heap_objects.nd rfl (by first | exact Or.inl rfl | exact Or.inr rfl))) (fun _ _ _ _ _ => pts_nil) (fun _ _ _ _ _ => (pe_callTy call_dictD (by rfl) B.m_dict (by decide +kernel) (pa_cons (pv 1) pa_nil)))))), ?_⟩
    have O6 := A0.o
    have hn := A0.g.o2
    refine ⟨_, rfl, h, C, _, _, _, rfl, A0.ob, T0.cl, T0.nO, hfl_objects p, p.qO, rfl, ⟨_, SqL.of O6.ls⟩, fun D hD => lc_list (xs := p.ds.map V.ref) (fun i H7 => ∃ ds' : List Addr, Same H H7 ∧ H7 D = some (.lst (ds'.map V.ref)) ∧ ds'.length = i ∧ ds'.Nodup ∧ (∀ x ∈ ds', H x = none ∧ x ≠ D) ∧ (∀ (i' : Nat) (d' : Addr) (o : Ob), ds'[i']? = some d' → os[i']? = some o → H7 d' = some (.dK (dk o)))) ?_ ?_ ?_ ?_⟩
    · exact ⟨[], same_new hD, upd_same, rfl, List.nodup_nil, fun x hx => (nomatch hx), fun i' d' k h => by simp at h⟩
    · rintro i H7 _ ⟨ds', s7, _⟩
      exact SqL.of (s7 _ _ O6.ls)
    · rintro i x H7 hx ⟨ds', s7, hD7, hlen, dnd, dfr, dat⟩
      rw [List.getElem?_map] at hx
      cases ed : p.ds[i]? with
      | none => rw [ed] at hx; cases hx
      | some d =>
        rw [ed] at hx
        obtain rfl : V.ref d = x := Option.some.inj hx
        have hi0 := (List.getElem?_eq_some_iff.mp ed).1
        have hi : i < os.length := by rw [← O6.len]; exact hi0
        have ho : os[i]? = some os[i] := List.getElem?_eq_getElem hi
        refine ⟨rfl, yes_of ⟨_, rfl, d, _, rfl, .inl (s7 _ _ (O6.at' i d _ ed ho)), fun E hE => ?_⟩⟩
        have hE6 := s7.free hE
        have DE : D ≠ E := ne_of_none hD7 hE
        refine ⟨_, (upd_ne DE).trans hD7, by rw [List.length_map, hlen]; exact small1000 (by omega), ds' ++ [E], ?_, ?_, ?_, ?_, ?_, ?_⟩
        · intro b o e
          rw [upd_ne (ne_of_none e hD), upd_ne (ne_of_none e hE6)]
          exact s7 _ _ e
        · rw [upd_same, List.map_append]; rfl
        · rw [List.length_append, hlen]; rfl
        · refine List.nodup_append.mpr ⟨dnd, by simp, fun x hx y hy => ?_⟩
          rw [List.mem_singleton.mp hy]
          intro e
          obtain ⟨i', hi', e'⟩ := List.getElem_of_mem hx
          have hi2 : i' < os.length := by omega
          have := dat i' x os[i'] (by rw [List.getElem?_eq_getElem hi', e']) (List.getElem?_eq_getElem hi2)
          rw [e, hE] at this
          cases this
        · intro x hx
          rcases List.mem_append.mp hx with hx | hx
          · exact dfr x hx
          · rw [List.mem_singleton.mp hx]; exact ⟨hE6, DE.symm⟩
        · intro i' d' k g1 g2
          rcases Nat.lt_or_ge i' ds'.length with hj | hj
          · rw [List.getElem?_append_left hj] at g1
            have q := dat i' d' k g1 g2
            rw [upd_ne (dfr d' (List.mem_of_getElem? g1)).2, upd_ne (ne_of_none q hE)]
            exact q
          · rw [List.getElem?_append_right hj] at g1
            have hz : i' = ds'.length := by
              have := (List.getElem?_eq_some_iff.mp g1).1
              simp only [List.length_singleton] at this
              omega
            subst hz
            rw [Nat.sub_self] at g1
            have e1 : E = d' := Option.some.inj g1
            subst e1
            rw [hlen, ho] at g2
            have e2 : os[i] = k := Option.some.inj g2
            subst e2
            rw [upd_ne DE.symm, upd_same]
    · rintro H7 ⟨ds', s7, hD7, hlen, dnd, dfr, dat⟩
      rw [List.length_map, O6.len] at hlen
      exact k D ds' H7 s7 hD dfr ⟨hD7, hlen, dnd, dat, O6.ks, O6.ok⟩
end
end TW
set_option Elab.async false
set_option linter.all false
set_option maxRecDepth 100000
namespace TW
open PySem PySem.Spec PyProof.Rows L2 TL LamX NdefX LamQ
/-! sorted words -/
theorem srt_le : ∀ (p : Str) (l : List Str), risingS p l = true → (p :: l).Pairwise (fun a b => a.cps.toList ≤ b.cps.toList)
  | p, [], _ => List.pairwise_singleton _ _
  | p, x :: r, h => by
    have h' : (!ltCps x.cps.toList p.cps.toList && risingS x r) = true := h
    obtain ⟨h1, h2⟩ := Bool.and_eq_true_iff.mp h'
    have ih := srt_le x r h2
    have px : p.cps.toList ≤ x.cps.toList := by
      rw [ltCps_eq] at h1
      exact List.not_lt.mp (by simpa using h1)
    refine List.pairwise_cons.mpr ⟨fun y hy => ?_, ih⟩
    rcases List.mem_cons.mp hy with rfl | hy
    · exact px
    · exact List.le_trans px (List.rel_of_pairwise_cons ih hy)
theorem srt_uniq {a b : List Str} (ha : sortedS a = true) (hb : sortedS b = true) (p : a.Perm b) : a = b := by
  have pw : ∀ {l : List Str}, sortedS l = true → l.Pairwise (fun a b => a.cps.toList ≤ b.cps.toList) := fun {l} h => by
    cases l with
    | nil => exact .nil
    | cons x r => exact srt_le x r h
  refine List.Perm.eq_of_pairwise (le := fun a b : Str => a.cps.toList ≤ b.cps.toList) (fun x y _ _ h1 h2 => ?_) (pw ha) (pw hb) p
  have e := List.le_antisymm h1 h2
  cases x
  cases y
  exact congrArg Str.mk (Array.toList_inj.mp e)
theorem kit_same {K : PySem.W.Frag} {C : Addr} : PySem.W.kitOne K (.ref C) (.ref C) = some true := if_pos (beq_self_eq_true _)
/-- what isinstance asks of the class -/
structure HCi (K : PySem.W.Frag) (C : Addr) : Prop where
  ha : PySem.W.findIn K (.ref C) "__class__" = some (some (.builtin "object.__class__"))
  hn : PySem.W.specialIn K (.builtin "object.__class__") "__get__" = some (some (.builtin "getset_descriptor.__get__"))
  ht : PySem.W.takesIn K (.builtin "object.__class__") = some true
  hm : PySem.W.mroIn K C (.type "object") = some true
theorem HCi.ty {K : PySem.W.Frag} {C : Addr} (T : HCi K C) (cl : Cls K C) {H : Hp} {a dx : Addr} {fs : List (Str × V)} (e : H a = some (.ins C dx fs)) : TyX K H (.ref a) (.ref C) := .base (.ins e cl T.ha T.hn T.ht T.hm)
theorem shp_tw {ws : List Str} (h : ∀ x ∈ ws, IsW x) : SeqAt.shaped (.tuple (ws.map .str)) = true ∧ PyData.eqv (.tuple (ws.map .str)) (.tuple (ws.map .str)) = true := by
  have X := Shw.tup (Shw.words h)
  exact ⟨Bool.and_eq_true_iff.mpr ⟨X.sC, decide_eq_true (Nat.le_trans X.sD (by decide))⟩, SeqAt.eqv_refl _ X.sC⟩
theorem shp_lw {ws : List Str} (h : ∀ x ∈ ws, IsW x) : SeqAt.shaped (.list (ws.map .str)) = true ∧ PyData.eqv (.list (ws.map .str)) (.list (ws.map .str)) = true := by
  have X := Shw.lst (Shw.words h)
  exact ⟨Bool.and_eq_true_iff.mpr ⟨X.sC, decide_eq_true (Nat.le_trans X.sD (by decide))⟩, SeqAt.eqv_refl _ X.sC⟩
def spFits (K : PySem.W.Frag) (CP CH : Addr) : Sp := fun vs H Q _ => ∃ (pr : Addr) (x : V), vs = [.ref pr, x] ∧
  ((∃ t, TyX K H x t ∧ PySem.W.kitOne K t (.ref CH) = some false ∧ Q (.bl false) H) ∨
   ∃ (h : Addr) (is fs os' : List Str) (n : Nat) (dr : List PyData) (ws : List Str) (pp : PP) (os : List Ob) (l : Ob) (hp : HP), x = .ref h ∧ ProgAt K CP H pr is fs os' n dr ws pp ∧ HeapAt K CH H h fs os l hp ∧ (l.map (·.1)).Perm is ∧ os.length ≤ 100 ∧ ∀ H', Same H H' → Q (.bl true) H')
abbrev S_fits : Stmt := topS 53
abbrev N_fits : List Str := ["program", "heap"]
abbrev P_fits : List Str := ["program", "heap"]
theorem sc_fits : FnScope N_fits P_fits (defScope S_fits) := ⟨rfl, rfl, rfl, by decide +kernel, rfl, by decide +kernel, by decide +kernel⟩
section
variable {P : Program} {w : World} {K : PySem.W.Frag} {mg : Str → Option Value} {base : Heap}
set_option maxHeartbeats 8000000 in
theorem ok_fits {f fL fN CP C : Addr} {fd fdL fdN : FuncData} {tS : Tok} (F : Fun K "fits" "fits" S_fits f fd) (B : Bl mg) (T0 : HC K mg C) (TI : HCi K C) (TP : HCP K mg CP) (m_MOST_STARTS : mg "MOST_STARTS" = some (.int 100 tS))
    (G_len : FnOk P w K mg base CX0 1 fL fdL P_Heap___len__ (spLenH K C)) (ls : PySem.W.findIn K (.ref C) "__len__" = some (some (.ref fL))) (lf : PySem.W.isFn K (.ref fL) = true) (b_len : Binds K fdL P_Heap___len__ [])
    (M_nms : Meth K C "names" fN) (G_nms : FnOk P w K mg base CX0 1 fN fdN P_Heap_names (spNms K C)) (b_nms : Binds K fdN P_Heap_names []) : FnOk P w K mg base CX0 3 f fd P_fits (spFits K CP C) := by
  refine F.ok sc_fits (fun vs H Q E h => ?_) (fun cdv A outer s H vs Q E hr h => ?_)
  · obtain ⟨pr, x, rfl, _⟩ := h
    rfl
  · obtain ⟨pr, x, rfl, k⟩ := h
    have hr_len : Room 2 _ := hr.mono (by decide)
    have hr_nms : Room 1 _ := hr.mono (by decide)
    have hu64 : (A.deeper (envOfC "fits" (defScope S_fits) s.heap.objs.size f cdv)).units + 64 < cLine := by have := hr.un; omega
    refine ⟨_, (pss_cons (ps_if (PW.pt (pw_or (pt_not (pt_val (pe_callB call_isi (by rfl) B.m_isinstance (by decide +kernel) (pa_cons (pv 1) (pa_cons (pe_glob (v := .ref C) rfl T0.g rfl) pa_nil))))) (pw_or1 (pt_cmpR op_gt (pe_callB (call_lenO G_len hr_len ls lf b_len pass0) (by rfl) B.m_len PySem.boot_len (pa_cons (pv 1) pa_nil)) (pe_glob (v := .int _) rfl m_MOST_STARTS ⟨_, rfl⟩) (nomark _))))) (pss_one (ps_ret pe_bl)) pss_nil)
 (pss_one (ps_ret (pe_and (pe_cmpR (op_eqD hu64) (pe_fld (pv 1) rfl) (pe_fld (pv 0) rfl) (nomark _)) (pe_one (pe_cmpR (op_eqD hu64) (pe_callB (call_sortedD rfl) (by rfl) B.m_sorted (by decide +kernel) (pa_cons (pe_meth0 (pv 1) T0.cl M_nms G_nms hr_nms b_nms .nil pass0) pa_nil)) (pe_callB cr_sortedTS (by rfl) B.m_sorted (by decide +kernel) (pa_cons (pe_fld (pv 0) rfl) pa_nil)) (nomark _))))))), ?_⟩
    rcases k with ⟨t, ty, kf, k⟩ | ⟨h, is, fs, os', n, dr, ws, pp, os, l, hp, rfl, PA, HA, pm, l100, k⟩
    · exact ⟨_, rfl, _, _, _, _, _, rfl, .own C, ty, kf, _, rfl, iteT (iteT k)⟩
    · refine ⟨_, rfl, _, _, _, _, _, rfl, .own C, TI.ty T0.cl HA.ob, kit_same, _, rfl, iteF ?_⟩
      have l63 : (os.length : Int) < 2 ^ 63 := Int.lt_of_le_of_lt (show (os.length : Int) ≤ 100 by omega) (by decide)
      refine ⟨_, rfl, h, _, _, rfl, HA.ob, h, fs, os, l, hp, rfl, HA, _, rfl, by omega, l63, _, _, rfl, rfl, _, rfl, ?_⟩
      refine ite_dec (fun hb => absurd (of_decide_eq_true hb) (by omega)) (fun _ => ?_)
      obtain ⟨s1, e1⟩ := shp_tw HA.g.fw
      refine ⟨_, rfl, h, C, _, _, _, rfl, HA.ob, T0.cl, T0.nF, hfl_fields hp, _, rfl, pr, CP, _, _, _, rfl, PA.ob, TP.cl, TP.nF, pfl_fields pp, _, _, .tup (SqT.of HA.f) (dp_strs fs), dp_wt PA.f, s1, s1, _, rfl, ?_⟩
      rw [e1]
      refine iteT ?_
      have lk : ((dk l).map (·.1)) = (l.map (·.1)).map Sum.inr := by
        unfold dk
        rw [List.map_map, List.map_map]
        rfl
      have l6 : (l.map (·.1)).length < 64 := by rw [List.length_map]; have := HA.g.l6; omega
      refine ⟨_, rfl, h, _, _, rfl, HA.ob, hfl_none hp (by decide +kernel) (by decide +kernel) (by decide +kernel) (by decide +kernel), h, hp, l, rfl, HA.ob, HA.n, fun q1 n1 => ?_⟩
      refine ⟨q1, dk l, l.map (·.1), rfl, .inl upd_same, lk, l6, fun ys q2 pm1 so1 n2 => ?_⟩
      have s2 : Same H (upd (upd H q1 (.dK (dk l))) q2 (.lst (ys.map V.str))) := (same_new n1).trans (same_new n2)
      refine ⟨_, rfl, pr, CP, _, _, _, rfl, s2 _ _ PA.ob, TP.cl, TP.nI, pfl_inputs pp, pp.tI, is, rfl, (PA.i.same s2).sqt, by have := PA.g.i3; omega, fun zs q3 pm2 so2 n3 => ?_⟩
      have ez : zs = ys := srt_uniq so2 so1 (pm2.trans ((pm.symm).trans pm1.symm))
      subst ez
      have wz : ∀ x ∈ zs, IsW x := fun x m => PA.g.iw x (pm2.mem_iff.mp m)
      obtain ⟨s4, e4⟩ := shp_lw wz
      have s5 := same_new (o := .lst (zs.map V.str)) n3
      refine ⟨_, _, .lst (SqL.of (s5 _ _ upd_same)) (dp_strs zs), .lst (SqL.of upd_same) (dp_strs zs), s4, s4, ?_⟩
      rw [e4]
      exact k _ (s2.trans s5)
end
end TW
set_option Elab.async false
set_option linter.all false
set_option maxRecDepth 100000
namespace TW
open PySem PySem.Spec PyProof.Rows L2 TL LamX NdefX LamQ
structure RP where
  dx : Addr
  qV : Addr
  hm : Addr
  hw : Addr
def rnl (p : RP) : List (Str × V) := putF "_walk" (.ref p.hw) (putF "_machine" (.ref p.hm) (putF "_variables" (.ref p.qV) []))
theorem rn1 : ¬ (("_variables" : Str) = "_machine") := by decide +kernel
theorem rn2 : ¬ (("_variables" : Str) = "_walk") := by decide +kernel
theorem rn3 : ¬ (("_machine" : Str) = "_walk") := by decide +kernel
theorem rnl_walk (p : RP) : (rnl p).lookup ("_walk" : Str) = some (.ref p.hw) := by
  unfold rnl
  rw [lookup_putF, if_pos rfl]
theorem rnl_machine (p : RP) : (rnl p).lookup ("_machine" : Str) = some (.ref p.hm) := by
  unfold rnl
  rw [lookup_putF, if_neg rn3, lookup_putF, if_pos rfl]
theorem rnl_none (p : RP) {m : Str} (h1 : ¬ m = "_variables") (h2 : ¬ m = "_machine") (h3 : ¬ m = "_walk") : (rnl p).lookup m = none := by
  unfold rnl
  rw [lookup_putF, if_neg h3, lookup_putF, if_neg h2, lookup_putF, if_neg h1]
  rfl
structure HCR (K : PySem.W.Frag) (mg : Str → Option Value) (C : Addr) : Prop where
  cl : Cls K C
  g : mg "Run" = some (.ref C)
  n_variables : NoAttr K C "_variables"
  n_machine : NoAttr K C "_machine"
  n_walk : NoAttr K C "_walk"
/-- a Run at r -/
structure RunAt (CR CW CM : Addr) (H : Hp) (r : Addr) (rp : RP) (wp : WP) (mp : MP) (fs : List Str) (m : MS) : Prop where
  ob : H r = some (.ins CR rp.dx (rnl rp))
  w : H rp.hw = some (.ins CW wp.dx (wfl wp))
  e : H wp.tE = some (.tup [.str "done", .non])
  m : MachAt CM H wp.hm mp fs m
  hm : rp.hm = wp.hm
theorem RunAt.same {CR CW CM : Addr} {H H' : Hp} {r : Addr} {rp : RP} {wp : WP} {mp : MP} {fs : List Str} {m : MS} (R : RunAt CR CW CM H r rp wp mp fs m) (s : Same H H') : RunAt CR CW CM H' r rp wp mp fs m :=
  ⟨s _ _ R.ob, s _ _ R.w, s _ _ R.e, R.m.same s, R.hm⟩
def MP.ds7 (p : MP) : List Addr := [p.qV, p.qC, p.qS, p.qZ, p.qR, p.qL, p.qW]
def spRunI (K : PySem.W.Frag) (CP CH CE CR CW CM : Addr) : Sp := fun vs H Q E => ∃ (r dx pr : Addr) (x : V), vs = [.ref r, .ref pr, x] ∧ H r = some (.ins CR dx []) ∧
  ((∃ t, TyX K H x t ∧ PySem.W.kitOne K t (.ref CH) = some false ∧ eNm "heap" CE H E) ∨
   ∃ (H0 : Hp) (h : Addr) (is fs os' : List Str) (n : Nat) (prs : List PRow) (ws : List Str) (pp : PP) (os : List Ob) (l : Ob) (hp : HP), x = .ref h ∧ H0 r = none ∧ Same H0 H ∧ ProgAt K CP H0 pr is fs os' n (prs.map PRow.D) ws pp ∧ HeapAt K CH H0 h fs os l hp ∧ (l.map (·.1)).Perm is ∧ os.length ≤ 100 ∧ prs.length ≤ 50 ∧
     ∀ (H' : Hp) (rp : RP) (wp : WP) (mp : MP) (ds : List Addr) (m : MS), ds.length = os.length → Rns ⟨os.length, l, ds, [], []⟩ prs m → RunAt CR CW CM H' r rp wp mp fs m → Same H0 H' → (∀ q ∈ mp.ds7, H0 q = none) → Q .non H')
theorem Bd.same {C dx h : Addr} {H G G' : Hp} {n : Nat} {fl : List (Str × V)} (B : Bd C dx h H G n fl) (s : Same G G') : Bd C dx h H G' n fl :=
  ⟨s _ _ B.ob, fun b o e ne => s _ _ (B.fr b o e ne), fun x e => B.gr x (by
    cases h : G x with
    | none => rfl
    | some o => rw [s _ _ h] at e; cases e), B.ln⟩
theorem ProgAt.keep' {K : PySem.W.Frag} {CP : Addr} {H H' : Hp} {pr : Addr} {is fs os : List Str} {n : Nat} {ds : List PyData} {ws : List Str} {pp : PP} (A : ProgAt K CP H pr is fs os n ds ws pp) (s : Same H H') : ProgAt K CP H' pr is fs os n ds ws pp := A.same s
abbrev S_Run___init__ : Stmt := inClass (topS 52) 0
abbrev N_Run___init__ : List Str := ["self", "program", "heap"]
abbrev P_Run___init__ : List Str := ["self", "program", "heap"]
theorem sc_Run___init__ : FnScope N_Run___init__ P_Run___init__ (defScope S_Run___init__) := ⟨rfl, rfl, rfl, by decide +kernel, rfl, by decide +kernel, by decide +kernel⟩
section
variable {P : Program} {w : World} {K : PySem.W.Frag} {mg : Str → Option Value} {base : Heap}
set_option maxHeartbeats 16000000 in
theorem ok_runI {f fF fV fR fO fN fM fW fS CP CH CE CR CW CM fI : Addr} {fd fdF fdV fdR fdO fdN fdM fdW fdS : FuncData} (F : Fun K "__init__" "Run.__init__" S_Run___init__ f fd) (B : Bl mg) (T0 : HCR K mg CR) (TP : HCP K mg CP) (TH : HC K mg CH) (TM : HCM K mg CM) (TW : HCW K mg CW) (TE : PySem.ErrX.ErrTxt P K mg "InvalidArgument" "wrong argument: " CE fI)
    (d_fits : Df K mg "fits" S_fits fF fdF P_fits) (G_fits : FnOk P w K mg base CX0 3 fF fdF P_fits (spFits K CP CH))
    (M_vars : Meth K CP "variables" fV) (G_vars : FnOk P w K mg base CX0 1 fV fdV P_Program_variables (spPVars K CP)) (b_vars : Binds K fdV P_Program_variables [])
    (M_rows : Meth K CP "rows" fR) (G_rows : FnOk P w K mg base CX0 10 fR fdR P_Program_rows (spPRows K CP)) (b_rows : Binds K fdR P_Program_rows [])
    (M_obs : Meth K CH "objects" fO) (G_obs : FnOk P w K mg base CX0 1 fO fdO P_Heap_objects (spObs K CH)) (b_obs : Binds K fdO P_Heap_objects [])
    (M_nms : Meth K CH "names" fN) (G_nms : FnOk P w K mg base CX0 1 fN fdN P_Heap_names (spNms K CH)) (b_nms : Binds K fdN P_Heap_names [])
    (M_mach : Mk K CM fM) (G_mach : FnOk P w K mg base CX0 1 fM fdM P_Machine___init__ (spMach K CM)) (b_mach : Binds K fdM P_Machine___init__ [])
    (M_walk : Mk K CW fW) (G_walk : FnOk P w K mg base CX0 5 fW fdW P_Walk___init__ (spWalkI CW CM)) (b_walk : Binds K fdW P_Walk___init__ [])
    (d_steps_of : Df K mg "steps_of" S_steps_of fS fdS P_steps_of) (G_steps_of : FnOk P w K mg base CX0 2 fS fdS P_steps_of (spSteps K)) : FnOk P w K mg base (L2.CX P w) 11 f fd P_Run___init__ (spRunI K CP CH CE CR CW CM) := by
  refine F.okX sc_Run___init__ (fun vs H Q E h => ?_) (fun cdv A outer s H vs Q E hr h => ?_)
  · obtain ⟨r, dx, pr, x, rfl, _⟩ := h
    rfl
  · obtain ⟨r, dx, pr, x, rfl, hh, k⟩ := h
    have hr_fits : Room 3 _ := hr.mono (by decide)
    have hr_vars : Room 1 _ := hr.mono (by decide)
    have hr_rows : Room 10 _ := hr.mono (by decide)
    have hr_obs : Room 1 _ := hr.mono (by decide)
    have hr_nms : Room 1 _ := hr.mono (by decide)
    have hr_mach : Room 2 _ := hr.mono (by decide)
    have hr_walk : Room 6 _ := hr.mono (by decide)
    have hr_steps_of : Room 2 _ := hr.mono (by decide)
    have hr0 : Room 1 _ := hr.mono (by decide)
    refine ⟨_, (pss_cons (ps_if (pt_not (pt_val (pe_call G_fits hr_fits rfl d_fits.g d_fits.F.kp d_fits.b .nil pass0 (pa_cons (pv 1) (pa_cons (pv 2) pa_nil))))) (pss_one (ps_raiseE rfl TE hr0 (takes_of rfl rfl rfl rfl) B.m_super (pa_cons pe_str pa_nil) rfl rfl)) pss_nil)
 (pss_cons (ps_fld (pv 0) (pe_meth0 (pv 1) TP.cl M_vars G_vars hr_vars b_vars .nil pass0) rfl)
 (pss_cons (ps_fld (pv 0) (pe_make M_mach G_mach hr_mach rfl TM.g b_mach .nil pass0 (pa_cons (pe_fld (pv 2) rfl) (pa_cons (pe_meth0 (pv 2) TH.cl M_obs G_obs hr_obs b_obs .nil pass0) (pa_cons (pe_meth0 (pv 2) TH.cl M_nms G_nms hr_nms b_nms .nil pass0) pa_nil)))) rfl)
 (pss_one (ps_fld (pv 0) (pe_make M_walk G_walk hr_walk rfl TW.g b_walk .nil pass0 (pa_cons (pe_call G_steps_of hr_steps_of rfl d_steps_of.g d_steps_of.F.kp d_steps_of.b .nil pass0 (pa_cons (pe_meth0 (pv 1) TP.cl M_rows G_rows hr_rows b_rows .nil pass0) (pa_cons (pe_tup pa_nil) pa_nil))) (pa_cons (pe_fld (pv 0) rfl) pa_nil))) rfl))))), ?_⟩
    rcases k with ⟨t, ty, kf, k⟩ | ⟨H0, h, is, fs, os', n, prs, ws, pp, os, l, hp, rfl, nr, s0, PA, HA, pm, l100, l50, k⟩
    · refine ⟨_, rfl, _, rfl, pr, x, rfl, .inl ⟨t, ty, kf, ?_⟩⟩
      exact ⟨false, rfl, iteT ⟨_, rfl, by decide, fun d hd => k H d (fun _ _ e => e) hd⟩⟩
    · refine ⟨_, rfl, _, rfl, pr, .ref h, rfl, .inr ⟨h, is, fs, os', n, _, ws, pp, os, l, hp, rfl, PA.same s0, HA.same s0, pm, l100, fun H1 s1 => ?_⟩⟩
      refine ⟨true, rfl, iteF ?_⟩
      have Z0 : Bd CR dx r H H 0 [] := ⟨hh, fun b o e _ => e, fun x e => e, Nat.le_refl _⟩
      have Z1 := Z0.same s1
      have sz : ∀ {G : Hp} {n : Nat} {fl : List (Str × V)}, Bd CR dx r H G n fl → Same H0 G := fun Z b o e => Z.fr _ _ (s0 _ _ e) (ne_of_none e nr)
      have P1 := PA.same (sz Z1)
      -- variables
      refine ⟨_, rfl, pr, _, _, rfl, P1.ob, pfl_none pp (by decide +kernel) (by decide +kernel) (by decide +kernel) (by decide +kernel) (by decide +kernel) (by decide +kernel), pr, is, fs, os', n, _, ws, pp, rfl, P1, fun qV nV => ?_⟩
      have Z2 := Z1.new (o := .lst ((vars is os' n (prs.map PRow.D)).map V.str)) nV
      refine ⟨_, rfl, r, CR, dx, _, rfl, Z2.ob, T0.cl, T0.n_variables, by show 0 < 1000; decide, ?_⟩
      have Z3 := Z2.fld "_variables" (.ref qV)
      generalize upd (upd H1 qV (.lst ((vars is os' n (prs.map PRow.D)).map V.str))) r (HO.ins CR dx (putF "_variables" (.ref qV) [])) = G3 at Z3 ⊢
      -- machine
      have A3 := HA.same (sz Z3)
      refine ⟨_, rfl, h, CH, _, _, _, rfl, A3.ob, TH.cl, TH.nF, hfl_fields hp, ?_⟩
      refine ⟨_, rfl, h, _, _, rfl, A3.ob, hfl_none hp (by decide +kernel) (by decide +kernel) (by decide +kernel) (by decide +kernel), h, fs, os, l, hp, rfl, A3, fun D ds G4 s4 nD fr4 O4 => ?_⟩
      have Z4 := Z3.same s4
      have A4 := A3.same s4
      refine ⟨_, rfl, h, _, _, rfl, A4.ob, hfl_none hp (by decide +kernel) (by decide +kernel) (by decide +kernel) (by decide +kernel), h, hp, l, rfl, A4.ob, A4.n, fun qN nN => ?_⟩
      have s5 : Same G4 (upd G4 qN (.dK (dk l))) := same_new nN
      have Z5 := Z4.same s5
      have hF5 := s5 _ _ A4.f
      have hO5 := s5 _ _ O4.ls
      have hN5 : (upd G4 qN (.dK (dk l))) qN = some (.dK (dk l)) := upd_same
      generalize upd G4 qN (HO.dK (dk l)) = G5 at s5 Z5 hF5 hO5 hN5 ⊢
      intro x dx2 nx ndx nxd
      have sx : Same G5 (upd (upd G5 dx2 (.own x)) x (.ins CM dx2 [])) := fun b u e => (upd_ne (ne_of_none e nx)).trans ((upd_ne (ne_of_none e ndx)).trans e)
      have Z6 := Z5.same sx
      have lds : ds.length = os.length := O4.len
      refine ⟨x, dx2, hp.tF, D, qN, fs, ds, l, rfl, upd_same, sx _ _ hF5, sx _ _ hO5, by omega, sx _ _ hN5, by have := HA.g.l6; omega, fun mp G7 htF fr7 g7 fresh7 M7 => ⟨rfl, ?_⟩⟩
      have s57 : Same G5 G7 := fun b o e => fr7 _ _ (sx _ _ e) (ne_of_none e nx)
      have Z7 := Z5.same s57
      refine ⟨_, rfl, r, CR, dx, _, rfl, Z7.ob, T0.cl, T0.n_machine, by have := Z7.ln; omega, ?_⟩
      have Z8 := Z7.fld "_machine" (.ref x)
      have xr : x ≠ r := fun z => by rw [z, Z5.ob] at nx; cases nx
      have q6 : ∀ q ∈ mp.qs, (upd (upd G5 dx2 (.own x)) x (.ins CM dx2 [])) q = none := fun q hq => by
        unfold MP.qs at hq
        simp only [List.mem_cons, List.not_mem_nil, or_false] at hq
        rcases hq with rfl | rfl | rfl | rfl
        · exact fresh7.1
        · exact fresh7.2.1
        · exact fresh7.2.2.1
        · exact fresh7.2.2.2.1
      have rq : r ∉ mp.qs := fun m => by
        have := q6 _ m
        rw [Z6.ob] at this
        cases this
      have oq : ∀ {b : Addr} {o : HO}, H0 b = some o → b ∉ mp.qs := fun {b o} e m => by
        have := q6 _ m
        rw [sz Z6 _ _ e] at this
        cases this
      have kr : ∀ {G : Hp} {fl fl' : List (Str × V)}, G r = some (.ins CR dx fl) → ∀ {b : Addr} {o : HO}, G b = some o → (∀ C d f, o ≠ .ins C d f) → (upd G r (.ins CR dx fl')) b = some o := fun {G fl fl'} hr {b o} e n => (upd_ne fun z => n _ _ _ (by rw [z, hr] at e; exact (Option.some.inj e).symm)).trans e
      have M8 : MachAt CM (upd G7 r (.ins CR dx (putF "_machine" (.ref x) (putF "_variables" (.ref qV) [])))) x mp fs ⟨ds.length, l, ds, [], []⟩ :=
        ⟨(upd_ne xr).trans M7.ob, kr Z7.ob M7.f nofun, kr Z7.ob M7.v nofun, kr Z7.ob M7.c nofun, kr Z7.ob M7.s nofun, kr Z7.ob M7.z nofun, kr Z7.ob M7.r nofun, kr Z7.ob M7.l nofun, kr Z7.ob M7.a nofun, kr Z7.ob M7.w nofun, M7.nd, M7.len, M7.lS⟩
      have x8 : (upd G7 r (.ins CR dx (putF "_machine" (.ref x) (putF "_variables" (.ref qV) [])))) x ≠ none := by rw [M8.ob]; exact nofun
      generalize upd G7 r (HO.ins CR dx (putF "_machine" (.ref x) (putF "_variables" (.ref qV) []))) = G8 at Z8 M8 x8 ⊢
      have P8 := PA.same (sz Z8)
      have lp : (prs.map PRow.D).length ≤ 100 := by rw [List.length_map]; omega
      refine ⟨_, rfl, pr, _, _, rfl, P8.ob, pfl_none pp (by decide +kernel) (by decide +kernel) (by decide +kernel) (by decide +kernel) (by decide +kernel) (by decide +kernel), pr, is, fs, os', n, _, ws, pp, rfl, P8, lp, fun b M G9 s9 dq frM => ?_⟩
      refine ⟨by show 0 ≤ sizeLine; decide, fun t nt => ?_⟩
      have s10 : Same G9 (upd G9 t (.tup [])) := same_new nt
      refine ⟨b, t, prs, M, [], rfl, dq.same s10, SqT.of upd_same, by omega, by decide, fun b2 G11 s11 nb S => ?_⟩
      have s811 := (s9.trans s10).trans s11
      have Z11 := Z8.same s811
      have M11 := M8.same s811
      refine ⟨_, rfl, r, CR, dx, _, _, rfl, Z11.ob, T0.cl, T0.n_machine, by rw [lookup_putF, if_pos rfl], ?_⟩
      intro y dy ny ndy nyd
      have sy : Same G11 (upd (upd G11 dy (.own y)) y (.ins CW dy [])) := fun b u e => (upd_ne (ne_of_none e ny)).trans ((upd_ne (ne_of_none e ndy)).trans e)
      have Z12 := Z11.same sy
      have yr : r ≠ y := fun z => by rw [← z, Z11.ob] at ny; cases ny
      have S12 : StepsAt (upd (upd G11 dy (.own y)) y (.ins CW dy [])) b2 prs := by
        obtain ⟨ts, h1, h2, h3⟩ := S
        refine ⟨ts, sy _ _ h1, h2, fun i t d hi hd => ?_⟩
        obtain ⟨tp, r', li, xs, g1, g2, g3, g4⟩ := h3 i t d hi hd
        exact ⟨tp, r', li, xs, sy _ _ g1, sy _ _ g2, sy _ _ g3, sy _ _ g4⟩
      refine ⟨y, dy, b2, x, prs, mp, fs, _, rfl, upd_same, M11.same sy, ⟨HA.g.ln, by show List.length l ≤ 800; have := HA.g.l6; omega, by show ds.length ≤ 800; omega, HA.g.fn, HA.g.f2⟩, S12, by omega, fun G13 m' wp hdx hhm R13 M13 fr13 g13 hw13 e13 => ⟨rfl, ?_⟩⟩
      have o13 : G13 r = some (.ins CR dx (putF "_machine" (.ref x) (putF "_variables" (.ref qV) []))) := fr13 _ _ Z12.ob yr rq
      refine ⟨_, rfl, r, CR, dx, _, rfl, o13, T0.cl, T0.n_walk, by have := Z12.ln; omega, ?_⟩
      have xr13 : G13 x = some (.ins CM mp.dx (mfl mp m'.starts 0 0)) := M13.ob
      refine k _ ⟨dx, qV, x, y⟩ wp mp ds m' lds (by rw [← lds]; exact R13) ⟨upd_same, (upd_ne yr.symm).trans (by rw [hw13, hdx]), kr o13 e13 nofun, ?_, hhm.symm⟩ (fun b o e => (upd_ne (ne_of_none e nr)).trans (fr13 _ _ (sz Z12 _ _ e) (ne_of_none (sz Z11 _ _ e) ny) (oq e))) (fun q hq => by
        unfold MP.ds7 at hq
        simp only [List.mem_cons, List.not_mem_nil, or_false] at hq
        have bk : ∀ {q : Addr}, (upd (upd G5 dx2 (.own x)) x (.ins CM dx2 [])) q = none → H0 q = none := fun {q} e => by
          cases h : H0 q with
          | none => rfl
          | some o => rw [sz Z6 _ _ h] at e; cases e
        rcases hq with rfl | rfl | rfl | rfl | rfl | rfl | rfl
        · exact bk fresh7.1
        · exact bk fresh7.2.1
        · exact bk fresh7.2.2.1
        · exact bk fresh7.2.2.2.1
        · exact bk fresh7.2.2.2.2.1
        · exact bk fresh7.2.2.2.2.2.1
        · exact bk fresh7.2.2.2.2.2.2)
      rw [hhm]
      exact ⟨(upd_ne xr).trans M13.ob, kr o13 M13.f nofun, kr o13 M13.v nofun, kr o13 M13.c nofun, kr o13 M13.s nofun, kr o13 M13.z nofun, kr o13 M13.r nofun, kr o13 M13.l nofun, kr o13 M13.a nofun, kr o13 M13.w nofun, M13.nd, M13.len, M13.lS⟩
end
end TW
set_option Elab.async false
set_option linter.all false
set_option maxRecDepth 100000
namespace TW
open PySem PySem.Spec PyProof.Rows L2 TL LamX NdefX LamQ
def spPairs (CW CM : Addr) : Sp := fun vs H Q _ => ∃ (hw : Addr) (wp : WP) (mp : MP) (fs : List Str) (m : MS), vs = [.ref hw] ∧ H hw = some (.ins CW wp.dx (wfl wp)) ∧ MachAt CM H wp.hm mp fs m ∧ ∀ q H', Same H H' → H' q = some (.lst []) → Q (.ref q) H'
def spREnd (CR CW CM : Addr) : Sp := fun vs H Q _ => ∃ (r : Addr) (rp : RP) (wp : WP) (mp : MP) (fs : List Str) (m : MS), vs = [.ref r] ∧ RunAt CR CW CM H r rp wp mp fs m ∧ Q (.ref wp.tE) H
def spRList (CR CW CM : Addr) : Sp := fun vs H Q _ => ∃ (r : Addr) (rp : RP) (wp : WP) (mp : MP) (fs : List Str) (m : MS), vs = [.ref r] ∧ RunAt CR CW CM H r rp wp mp fs m ∧ ∀ q H', Same H H' → H' q = some (.lst []) → Q (.ref q) H'
def spRMade (CR CW CM : Addr) : Sp := fun vs H Q _ => ∃ (r : Addr) (rp : RP) (wp : WP) (mp : MP) (fs : List Str) (m : MS), vs = [.ref r] ∧ RunAt CR CW CM H r rp wp mp fs m ∧ Q (.int (m.frz.length : Int)) H
def spRValue (K : PySem.W.Frag) (CR CW CM CE : Addr) : Sp := fun vs H Q E => ∃ (r : Addr) (x : V) (T : String) (rp : RP) (wp : WP) (mp : MP) (fs : List Str) (m : MS), vs = [.ref r, x] ∧ RunAt CR CW CM H r rp wp mp fs m ∧ Kd K H x T ∧
  ((isWb x = false ∧ eNm "name" CE H E) ∨ ∃ z, x = .str z ∧ isWb x = true ∧ okv m.cells.length (heldV m z) ∧ ∀ t H', Same H H' → Dp K H' (.ref t) (valD m (heldV m z)) → Q (.ref t) H')
abbrev S_Walk_pairs : Stmt := inClass (topS 50) 1
abbrev N_Walk_pairs : List Str := ["self", "put", "reader"]
abbrev P_Walk_pairs : List Str := ["self"]
theorem sc_Walk_pairs : FnScope N_Walk_pairs P_Walk_pairs (defScope S_Walk_pairs) := ⟨rfl, rfl, rfl, by decide +kernel, rfl, by decide +kernel, by decide +kernel⟩
abbrev S_Run_end : Stmt := inClass (topS 52) 1
abbrev N_Run_end : List Str := ["self"]
abbrev P_Run_end : List Str := ["self"]
theorem sc_Run_end : FnScope N_Run_end P_Run_end (defScope S_Run_end) := ⟨rfl, rfl, rfl, by decide +kernel, rfl, by decide +kernel, by decide +kernel⟩
abbrev S_Run_reached : Stmt := inClass (topS 52) 2
abbrev N_Run_reached : List Str := ["self"]
abbrev P_Run_reached : List Str := ["self"]
theorem sc_Run_reached : FnScope N_Run_reached P_Run_reached (defScope S_Run_reached) := ⟨rfl, rfl, rfl, by decide +kernel, rfl, by decide +kernel, by decide +kernel⟩
abbrev S_Run_made : Stmt := inClass (topS 52) 3
abbrev N_Run_made : List Str := ["self"]
abbrev P_Run_made : List Str := ["self"]
theorem sc_Run_made : FnScope N_Run_made P_Run_made (defScope S_Run_made) := ⟨rfl, rfl, rfl, by decide +kernel, rfl, by decide +kernel, by decide +kernel⟩
abbrev S_Run_looks : Stmt := inClass (topS 52) 5
abbrev N_Run_looks : List Str := ["self"]
abbrev P_Run_looks : List Str := ["self"]
theorem sc_Run_looks : FnScope N_Run_looks P_Run_looks (defScope S_Run_looks) := ⟨rfl, rfl, rfl, by decide +kernel, rfl, by decide +kernel, by decide +kernel⟩
abbrev S_Run_value : Stmt := inClass (topS 52) 4
abbrev N_Run_value : List Str := ["self", "name"]
abbrev P_Run_value : List Str := ["self", "name"]
theorem sc_Run_value : FnScope N_Run_value P_Run_value (defScope S_Run_value) := ⟨rfl, rfl, rfl, by decide +kernel, rfl, by decide +kernel, by decide +kernel⟩
section
variable {P : Program} {w : World} {K : PySem.W.Frag} {mg : Str → Option Value} {base : Heap}
set_option maxHeartbeats 4000000 in
theorem ok_pairs {f fR CW CM : Addr} {fd fdR : FuncData} (F : Fun K "pairs" "Walk.pairs" S_Walk_pairs f fd) (B : Bl mg) (T0 : HCW K mg CW) (TM : HCM K mg CM) (M_reached : Meth K CM "reached" fR) (G_reached : FnOk P w K mg base CX0 1 fR fdR P_Machine_reached (spLooksM CM)) (b_reached : Binds K fdR P_Machine_reached []) : FnOk P w K mg base CX0 2 f fd P_Walk_pairs (spPairs CW CM) := by
  refine F.ok sc_Walk_pairs (fun vs H Q E h => ?_) (fun cdv A outer s H vs Q E hr h => ?_)
  · obtain ⟨hw, wp, mp, fs, m, rfl, _⟩ := h
    rfl
  · obtain ⟨hw, wp, mp, fs, m, rfl, hh, M, k⟩ := h
    have hr_reached : Room 1 _ := hr
    refine ⟨_, (pss_one (ps_ret (pe_callB cr_sortedS (by rfl) B.m_sorted (by decide +kernel) (pa_cons (pe_lc (own := [("put", 1), ("reader", 2)]) (tt := tYes) rfl sc_Walk_pairs.nd (pi_list (pe_meth0 (pe_fld (pv 0) rfl) TM.cl M_reached G_reached hr_reached b_reached .nil pass0)) (blkOk_by (own := [("put", 1), ("reader", 2)]) (N := N_Walk_pairs) (sc := defScope S_Walk_pairs) (by decide +kernel)) (fun _ _ _ _ _ => (pg_tupK (K := K) (n := 2) rfl rfl (pgs_cons (pg_name (i := 1) sc_Walk_pairs.nd rfl (by first | exact Or.inl rfl | exact Or.inr rfl)) (pgs_cons (pg_name (i := 2) sc_Walk_pairs.nd rfl (by first | exact Or.inl rfl | exact Or.inr rfl)) pgs_nil)))) (fun _ _ _ _ _ => pts_nil) (fun _ _ _ _ _ => pe_neverT)) pa_nil)))), ?_⟩
    refine ⟨_, rfl, hw, CW, _, _, _, rfl, hh, T0.cl, T0.n_machine, wfl_machine wp, wp.hm, _, _, rfl, M.ob, mno_reached .., wp.hm, mp, fs, m, rfl, M, fun q nq => ?_⟩
    have s1 : Same H (upd H q (.lst [])) := same_new nq
    refine ⟨q, rfl, ⟨_, SqL.of upd_same⟩, fun D hD => ?_⟩
    have s2 := s1.trans (same_new (o := .lst []) hD)
    refine lc_list (te := fun _ _ _ => False) (xs := []) (fun i G => G = upd (upd H q (.lst [])) D (.lst [])) rfl ?_ ?_ ?_
    · rintro i G hi rfl
      exact SqL.of ((upd_ne (ne_of_none upd_same hD)).trans upd_same)
    · intro i x G hx
      cases hx
    · rintro G rfl
      refine ⟨D, [], rfl, SqL.of upd_same, by show 0 < 64; decide, fun ys p pm so np => ?_⟩
      have e := pm.eq_nil
      subst e
      exact k p _ (s2.trans (same_new np)) upd_same
set_option maxHeartbeats 4000000 in
theorem ok_rend {f CR CW CM : Addr} {fd : FuncData} (F : Fun K "end" "Run.end" S_Run_end f fd) (T0 : HCR K mg CR) (TW : HCW K mg CW) : FnOk P w K mg base CX0 1 f fd P_Run_end (spREnd CR CW CM) := by
  refine F.ok sc_Run_end (fun vs H Q E h => ?_) (fun cdv A outer s H vs Q E hr h => ?_)
  · obtain ⟨r, rp, wp, mp, fs, m, rfl, _⟩ := h
    rfl
  · obtain ⟨r, rp, wp, mp, fs, m, rfl, R, k⟩ := h
    refine ⟨_, (pss_one (ps_ret (pe_fld (pe_fld (pv 0) rfl) rfl))), ?_⟩
    exact ⟨_, rfl, r, CR, _, _, _, rfl, R.ob, T0.cl, T0.n_walk, rnl_walk rp, rp.hw, CW, _, _, _, rfl, R.w, TW.cl, TW.n_ending, wfl_ending wp, k⟩
set_option maxHeartbeats 4000000 in
theorem ok_rreached {f fP CR CW CM : Addr} {fd fdP : FuncData} (F : Fun K "reached" "Run.reached" S_Run_reached f fd) (T0 : HCR K mg CR) (TW : HCW K mg CW) (M_pairs : Meth K CW "pairs" fP) (G_pairs : FnOk P w K mg base CX0 2 fP fdP P_Walk_pairs (spPairs CW CM)) (b_pairs : Binds K fdP P_Walk_pairs []) : FnOk P w K mg base CX0 3 f fd P_Run_reached (spRList CR CW CM) := by
  refine F.ok sc_Run_reached (fun vs H Q E h => ?_) (fun cdv A outer s H vs Q E hr h => ?_)
  · obtain ⟨r, rp, wp, mp, fs, m, rfl, _⟩ := h
    rfl
  · obtain ⟨r, rp, wp, mp, fs, m, rfl, R, k⟩ := h
    have hr_pairs : Room 2 _ := hr
    refine ⟨_, (pss_one (ps_ret (pe_meth0 (pe_fld (pv 0) rfl) TW.cl M_pairs G_pairs hr_pairs b_pairs .nil pass0))), ?_⟩
    exact ⟨_, rfl, r, CR, _, _, _, rfl, R.ob, T0.cl, T0.n_walk, rnl_walk rp, rp.hw, _, _, rfl, R.w, wfl_none wp (by decide +kernel) (by decide +kernel) (by decide +kernel), rp.hw, wp, mp, fs, m, rfl, R.w, R.m, fun q H' s e => k q H' s e⟩
set_option maxHeartbeats 4000000 in
theorem ok_rmade {f fP CR CW CM : Addr} {fd fdP : FuncData} (F : Fun K "made" "Run.made" S_Run_made f fd) (T0 : HCR K mg CR) (TM : HCM K mg CM) (M_made : Meth K CM "made" fP) (G_made : FnOk P w K mg base CX0 1 fP fdP P_Machine_made (spMadeM CM)) (b_made : Binds K fdP P_Machine_made []) : FnOk P w K mg base CX0 2 f fd P_Run_made (spRMade CR CW CM) := by
  refine F.ok sc_Run_made (fun vs H Q E h => ?_) (fun cdv A outer s H vs Q E hr h => ?_)
  · obtain ⟨r, rp, wp, mp, fs, m, rfl, _⟩ := h
    rfl
  · obtain ⟨r, rp, wp, mp, fs, m, rfl, R, k⟩ := h
    have hr_made : Room 1 _ := hr
    refine ⟨_, (pss_one (ps_ret (pe_meth0 (pe_fld (pv 0) rfl) TM.cl M_made G_made hr_made b_made .nil pass0))), ?_⟩
    have M := R.m
    rw [← R.hm] at M
    exact ⟨_, rfl, r, CR, _, _, _, rfl, R.ob, T0.cl, T0.n_machine, rnl_machine rp, rp.hm, _, _, rfl, M.ob, mno_made .., rp.hm, mp, fs, m, rfl, M, k⟩
set_option maxHeartbeats 4000000 in
theorem ok_rlooks {f fP CR CW CM : Addr} {fd fdP : FuncData} (F : Fun K "looks" "Run.looks" S_Run_looks f fd) (T0 : HCR K mg CR) (TM : HCM K mg CM) (M_looks : Meth K CM "looks" fP) (G_looks : FnOk P w K mg base CX0 1 fP fdP P_Machine_looks (spLooksM CM)) (b_looks : Binds K fdP P_Machine_looks []) : FnOk P w K mg base CX0 2 f fd P_Run_looks (spRList CR CW CM) := by
  refine F.ok sc_Run_looks (fun vs H Q E h => ?_) (fun cdv A outer s H vs Q E hr h => ?_)
  · obtain ⟨r, rp, wp, mp, fs, m, rfl, _⟩ := h
    rfl
  · obtain ⟨r, rp, wp, mp, fs, m, rfl, R, k⟩ := h
    have hr_looks : Room 1 _ := hr
    refine ⟨_, (pss_one (ps_ret (pe_meth0 (pe_fld (pv 0) rfl) TM.cl M_looks G_looks hr_looks b_looks .nil pass0))), ?_⟩
    have M := R.m
    rw [← R.hm] at M
    exact ⟨_, rfl, r, CR, _, _, _, rfl, R.ob, T0.cl, T0.n_machine, rnl_machine rp, rp.hm, _, _, rfl, M.ob, mno_looks .., rp.hm, mp, fs, m, rfl, M, fun q nq => k q _ (same_new nq) upd_same⟩
set_option maxHeartbeats 8000000 in
theorem ok_rvalue {f fV fH fI fB CR CW CM CE : Addr} {fd fdV fdH fdB : FuncData} (F : Fun K "value" "Run.value" S_Run_value f fd) (B : Bl mg) (T0 : HCR K mg CR) (TM : HCM K mg CM) (TE : PySem.ErrX.ErrTxt P K mg "InvalidArgument" "wrong argument: " CE fI)
    (d_is_word : Df K mg "is_word" S_is_word fB fdB P_is_word) (G_is_word : FnOk P w K mg base CX0 1 fB fdB P_is_word (spIsW K))
    (M_value : Meth K CM "value" fV) (G_value : FnOk P w K mg base CX0 1 fV fdV P_Machine_value (spValueM K CM)) (b_value : Binds K fdV P_Machine_value [])
    (M_held : Meth K CM "held" fH) (G_held : FnOk P w K mg base CX0 1 fH fdH P_Machine_held (spHeldM CM)) (b_held : Binds K fdH P_Machine_held []) : FnOk P w K mg base (L2.CX P w) 2 f fd P_Run_value (spRValue K CR CW CM CE) := by
  refine F.okX sc_Run_value (fun vs H Q E h => ?_) (fun cdv A outer s H vs Q E hr h => ?_)
  · obtain ⟨r, x, T, rp, wp, mp, fs, m, rfl, _⟩ := h
    rfl
  · obtain ⟨r, x, T, rp, wp, mp, fs, m, rfl, R, hk, k⟩ := h
    have hr_is_word : Room 1 _ := hr
    have hr_value : Room 1 _ := hr
    have hr_held : Room 1 _ := hr
    have hr0 : Room 1 _ := hr
    refine ⟨_, (pss_cons (ps_if (pt_not (pt_val (pe_call G_is_word hr_is_word rfl d_is_word.g d_is_word.F.kp d_is_word.b .nil pass0 (pa_cons (pv 1) pa_nil)))) (pss_one (ps_raiseE rfl TE hr0 (takes_of rfl rfl rfl rfl) B.m_super (pa_cons pe_str pa_nil) rfl rfl)) pss_nil)
 (pss_one (ps_ret (pe_meth (pe_fld (pv 0) rfl) TM.cl M_value G_value hr_value b_value .nil pass0 (pa_cons (pe_meth (pe_fld (pv 0) rfl) TM.cl M_held G_held hr_held b_held .nil pass0 (pa_cons (pv 1) pa_nil)) pa_nil))))), ?_⟩
    refine ⟨_, rfl, x, T, rfl, hk, fun H1 s1 => ⟨isWb x, rfl, ?_⟩⟩
    rcases k with ⟨hw, k⟩ | ⟨z, rfl, hw, ok, k⟩
    · rw [hw]
      exact iteT ⟨_, rfl, by decide, fun d hd => k _ d s1 hd⟩
    · rw [hw]
      refine iteF ?_
      have R1 := R.same s1
      have M := R1.m
      rw [← R1.hm] at M
      refine ⟨_, rfl, r, CR, _, _, _, rfl, R1.ob, T0.cl, T0.n_machine, rnl_machine rp, rp.hm, _, _, rfl, M.ob, mno_value .., _, rfl, r, CR, _, _, _, rfl, R1.ob, T0.cl, T0.n_machine, rnl_machine rp, rp.hm, _, _, rfl, M.ob, mno_held .., _, rfl, rp.hm, mp, fs, m, z, rfl, M, ?_⟩
      refine ⟨rp.hm, mp, fs, m, heldV m z, rfl, M, ok, fun t H' s nt d => k t H' (s1.trans s) d⟩
end
end TW
set_option Elab.async false
set_option linter.all false
set_option maxRecDepth 100000
set_option maxHeartbeats 4000000
namespace L2
open PySem PySem.Spec PyProof.Rows
/-- C(e, ..), what __init__ lets out told at the slots -/
def tMakeS (C : Addr) (sp : Sp) (E : St → XK) (t : TA) : TE := fun σ H Q => t σ H fun vs G1 => ∀ o od, G1 o = none → G1 od = none → od ≠ o → sp (.ref o :: vs) (upd (upd G1 od (.own o)) o (.ins C od [])) (fun v G3 => v = .non ∧ Q (.ref o) G3) (E σ)
section
variable {X : Cx} {CX : CXT} {k : Nat} {f C : Addr} {fd : FuncData} {ps : List Str} {sp : Sp} {E : St → XK} {x : Str} {p pos : Pos} {e : Expr} {es : List Expr} {t : TA}
theorem pe_makeS (M : Mk X.K C f) (F : FnOk X.prog X.w X.K X.mg X.base CX k f fd ps sp) (hr : Room (k + 1) X.A) (hg : Gl X x) (hm : X.mg x = some (.ref C)) (hb : Binds X.K fd ps []) (hx : ∀ σ, PassesAt CX X σ (E σ))
    (ha : PA X (e :: es) t) (hdb : (x == ("__debug__" : Str)) = false := by decide) (he : starEach (e :: es) X.env = (false, eval e X.env) :: starEach es X.env := by rfl) (hpl : (backTo pos (starEach es X.env)).any (·.1) = false := by rfl) :
    PE X (.Call (.Name x p) (e :: es) [] pos) (tMakeS C sp E t) := by
  refine ⟨fun pins s σ H Q I h => ?_⟩
  refine wpAny_Call_Name_kw (ld_glob I hg hm ?_ hdb)
  refine PySem.W.callWith_K (h₀ := X.base) I.ok.mod.kin M.kp (thn (ha.run pos pins s σ H _ I h) fun us s2 ⟨vs, G2, I2, r, q2⟩ => ⟨I2.kIn, ?_⟩) he hpl
  have hq := q2 (s2.heap.objs.size + 1) s2.heap.objs.size (I2.hok.fresh (Nat.le_succ _)) (I2.hok.fresh (Nat.le_refl _)) (Nat.ne_of_lt (Nat.lt_succ_self _))
  have J := Inv.made (C := C) I2
  have ra : Vals (V.ref (s2.heap.objs.size + 1) :: vs) (Value.ref (s2.heap.objs.size + 1) :: us) := .cons rfl r
  have hl : (Value.ref (s2.heap.objs.size + 1) :: us ++ []).length = ps.length := by
    have e := ra.length
    rw [F.len _ _ _ _ hq] at e
    rw [List.append_nil]
    exact e.symm
  have hto := hb _ (Value.ref (s2.heap.objs.size + 1) :: us) J.kIn hl
  rw [List.append_nil] at hto
  refine wpAny_call (make_map (f := f) I2.kIn M.makes M.init (beq_iff_eq.mp M.fn) (codeAny_mono (F.run _ X.stack _ _ ⟨Value.ref (s2.heap.objs.size + 1) :: us, []⟩ (Value.ref (s2.heap.objs.size + 1) :: us) _ _ (E σ) (hr.make C us []) (J.env0.make C us []) hto ra hq) fun r s3 hq3 => ?_))
  cases r with
  | error er => exact hx σ pins _ _ er s3 J hq3
  | ok fl =>
    cases fl with
    | ret u =>
      obtain ⟨v, G3, I3, rv, ev, q3⟩ := J.after hq3
      subst ev
      exact ⟨rv, ⟨V.ref (s2.heap.objs.size + 1), G3, I3, rfl, q3⟩⟩
    | next => exact False.elim hq3
    | brk => exact False.elim hq3
    | cont => exact False.elim hq3
end
end L2
set_option Elab.async false
set_option linter.all false
set_option maxRecDepth 100000
namespace L2
open PySem PySem.Spec PyProof.Rows
/-- o.m(e, ..), what it lets out told at the slots -/
def tMethX (C : Addr) (m : Str) (sp : Sp) (E : St → XK) (ta : TE) (t : TA) : TE := fun σ H Q => ta σ H fun x H1 => ∃ a dx fs, x = .ref a ∧ H1 a = some (.ins C dx fs) ∧ fs.lookup m = none ∧
  t σ H1 fun vs H2 => sp (x :: vs) H2 Q (E σ)
theorem pe_methX {X : Cx} {CX : CXT} {k : Nat} {f C : Addr} {fd : FuncData} {ps : List Str} {sp : Sp} {E : St → XK} {m : Str} {pos apos : Pos} {e o : Expr} {es : List Expr} {ta : TE} {t : TA} {pl : Sem Bool} (he : PE X o ta) (c : Cls X.K C) (hm : Meth X.K C m f)
    (F : FnOk X.prog X.w X.K X.mg X.base CX k f fd ps sp) (hr : Room k X.A) (hb : Binds X.K fd ps []) (hx : ∀ σ, PassesAt CX X σ (E σ)) (ha : PA X (e :: es) t)
    (hst : starEach (e :: es) X.env = (false, eval e X.env) :: starEach es X.env := by rfl) (hpl : (backTo pos (starEach es X.env)).any (·.1) = false := by rfl)
    (ht : eval (.Call (.Attribute o m apos) (e :: es) [] pos) X.env = (do
      let ov ← eval o X.env
      standAt apos.atName
      let (f, first) ← holding [ov] (getMethod ov m pl)
      callWith pos f first (backTo pos (starEach (e :: es) X.env)) (backToKw pos (keywordEach [] X.env))) := by rfl) :
    PE X (.Call (.Attribute o m apos) (e :: es) [] pos) (tMethX C m sp E ta t) := by
  refine ⟨fun pins s σ H Q I h => ?_⟩
  refine PySem.W.methodCall_KW (pl := pl) (thn (he.run pins s σ H _ I h) fun u s1 ⟨x, H1, I1, rx, a, dx, fs, ex, ea, l, q⟩ => ?_) ht
  subst ex
  obtain rfl : u = Value.ref a := rx
  refine getmeth_ok I1 ea c hm l ?_
  refine PySem.W.callWith_K (first := [.ref a]) (h₀ := X.base) I.ok.mod.kin hm.kp (thn (ha.run pos pins s1 σ H1 _ I1 q) fun us s2 ⟨vs, H2, I2, r, q2⟩ => ⟨I2.kIn, ?_⟩) hst hpl
  exact run_fnS (us := .ref a :: us) (vs := .ref a :: vs) F hr hb (hx σ) I2 (.cons rfl r) q2
end L2
namespace TW
open PySem PySem.Spec PyProof.Rows L2 TL LamX NdefX LamQ
def spRefR (K : PySem.W.Frag) (CR CW CM : Addr) : Sp := fun vs H Q _ => ∃ (r : Addr) (x : V) (T : String) (rp : RP) (wp : WP) (mp : MP) (fs : List Str) (m : MS), vs = [.ref r, x] ∧ RunAt CR CW CM H r rp wp mp fs m ∧ Kd K H x T ∧ isWb x = false ∧ ∀ H', Same H H' → Q (.bl true) H'
def spNoH (K : PySem.W.Frag) (CH : Addr) : Sp := fun vs H Q _ => ∃ (pr : Addr) (x : V) (t : Value), vs = [.ref pr, x] ∧ (∀ H', Same H H' → TyX K H' x t) ∧ PySem.W.kitOne K t (.ref CH) = some false ∧ ∀ H', Same H H' → Q (.bl true) H'
/-- no heap is what is none -/
structure KitH (K : PySem.W.Frag) (CH CP : Addr) : Prop where
  n : PySem.W.kitOne K (.type "NoneType") (.ref CH) = some false
  i : PySem.W.kitOne K (.type "int") (.ref CH) = some false
  s : PySem.W.kitOne K (.type "str") (.ref CH) = some false
  l : PySem.W.kitOne K (.type "list") (.ref CH) = some false
  d : PySem.W.kitOne K (.type "dict") (.ref CH) = some false
  p : PySem.W.kitOne K (.ref CP) (.ref CH) = some false
def spRefs (K : PySem.W.Frag) (CP CR CW CM : Addr) : Sp := fun vs H Q _ => ∃ (pr r aO aN dxp : Addr) (flp : List (Str × V)) (xs : List V) (kv : List (Key × V)) (rp : RP) (wp : WP) (mp : MP) (fs : List Str) (m : MS), vs = [.ref pr, .ref r, .ref aO, .ref aN] ∧ H pr = some (.ins CP dxp flp) ∧ H aO = some (.lst xs) ∧ H aN = some (.dK kv) ∧ RunAt CR CW CM H r rp wp mp fs m ∧ ∀ H', Same H H' → Q (.bl true) H'
abbrev S_law_refused : Stmt := topS 76
abbrev N_law_refused : List Str := ["_law_run", "_law_name", "e"]
abbrev P_law_refused : List Str := ["_law_run", "_law_name"]
theorem sc_law_refused : FnScope N_law_refused P_law_refused (defScope S_law_refused) := ⟨rfl, rfl, rfl, by decide +kernel, rfl, by decide +kernel, by decide +kernel⟩
abbrev S_law_no_heap : Stmt := topS 77
abbrev N_law_no_heap : List Str := ["_law_program", "_law_heap", "e"]
abbrev P_law_no_heap : List Str := ["_law_program", "_law_heap"]
theorem sc_law_no_heap : FnScope N_law_no_heap P_law_no_heap (defScope S_law_no_heap) := ⟨rfl, rfl, rfl, by decide +kernel, rfl, by decide +kernel, by decide +kernel⟩
abbrev S_law_refusals : Stmt := topS 78
abbrev N_law_refusals : List Str := ["_law_program", "_law_run", "_law_objects_here", "_law_names_here", "_law_strange", "_law_wrong"]
abbrev P_law_refusals : List Str := ["_law_program", "_law_run", "_law_objects_here", "_law_names_here"]
theorem sc_law_refusals : FnScope N_law_refusals P_law_refusals (defScope S_law_refusals) := ⟨rfl, rfl, rfl, by decide +kernel, rfl, by decide +kernel, by decide +kernel⟩
theorem wrong_words : isWb (.str "") = false ∧ isWb (.str "A") = false ∧ isWb (.str "abcdefghi") = false := ⟨by decide +kernel, by decide +kernel, by decide +kernel⟩
section
variable {P : Program} {w : World} {K : PySem.W.Frag} {mg : Str → Option Value} {base : Heap}
set_option maxHeartbeats 4000000 in
theorem ok_refusedR {f fV CR CW CM CE fI : Addr} {fd fdV : FuncData} (F : Fun K "_law_refused" "_law_refused" S_law_refused f fd) (T0 : HCR K mg CR) (TE : PySem.ErrX.ErrTxt P K mg "InvalidArgument" "wrong argument: " CE fI)
    (M_value : Meth K CR "value" fV) (G_value : FnOk P w K mg base (L2.CX P w) 2 fV fdV P_Run_value (spRValue K CR CW CM CE)) (b_value : Binds K fdV P_Run_value []) : FnOk P w K mg base CX0 3 f fd P_law_refused (spRefR K CR CW CM) := by
  refine F.ok sc_law_refused (fun vs H Q E h => ?_) (fun cdv A outer s H vs Q E hr h => ?_)
  · obtain ⟨r, x, T, rp, wp, mp, fs, m, rfl, _⟩ := h
    rfl
  · obtain ⟨r, x, T, rp, wp, mp, fs, m, rfl, R, hk, hw, k⟩ := h
    have hr_value : Room 2 _ := hr
    refine ⟨_, pss_cons (ps_try_as (i := 2) (tb := fun W => tDrop (tMethX CR "value" (spRValue K CR CW CM CE) (WE W) (tVar 0) (tCons (tVar 1) tNil))) (ts := fun a cls d => tRet (tOp rEq (tPartE CE a cls d (tVar 2)) (tC (.str "name")))) (Wout := fun _ _ _ _ => False) rfl rfl sc_law_refused.nd rfl rfl ⟨rfl, by decide +kernel, Or.inl TE.gC⟩ L2.takes0
      (fun W pn xe tk _ => pss_one (ps_expr (by exact (pe_methX (pv 0) T0.cl M_value G_value hr_value b_value (fun σ => passAt tk σ) (by exact (pa_cons (pv 1) pa_nil))))))
      (fun a oe cls d pn hz hf => pss_one (ps_ret (by exact (pe_cmpR op_eq (pe_partE TE hz hf (pv 2)) pe_str (nomark _)))))) (pss_one (ps_ret pe_bl)), ?_⟩
    refine ⟨_, rfl, r, _, _, rfl, R.ob, rnl_none rp (by decide +kernel) (by decide +kernel) (by decide +kernel), ?_⟩
    refine ⟨_, rfl, r, x, T, rp, wp, mp, fs, m, rfl, R, hk, .inl ⟨hw, fun H1 d s1 hd => ?_⟩⟩
    refine ⟨true, TE.te, fun _ a0 _ => ?_, fun z => Bool.noConfusion z⟩
    refine ⟨_, rfl, rfl, rfl, d, _, rfl, upd_same, ?_⟩
    refine ⟨rfl, ?_⟩
    rw [show decide (V.str "name" = V.str "name") = true from decide_eq_true rfl]
    exact k _ fun b o e => by
      rw [upd_ne (ne_of_none e (s1.free hd))]
      exact s1 _ _ e
set_option maxHeartbeats 4000000 in
theorem ok_no_heap {f fR CP CH CE CR CW CM fI : Addr} {fd fdR : FuncData} (F : Fun K "_law_no_heap" "_law_no_heap" S_law_no_heap f fd) (T0 : HCR K mg CR) (TE : PySem.ErrX.ErrTxt P K mg "InvalidArgument" "wrong argument: " CE fI)
    (M_run : Mk K CR fR) (G_run : FnOk P w K mg base (L2.CX P w) 11 fR fdR P_Run___init__ (spRunI K CP CH CE CR CW CM)) (b_run : Binds K fdR P_Run___init__ []) : FnOk P w K mg base CX0 13 f fd P_law_no_heap (spNoH K CH) := by
  refine F.ok sc_law_no_heap (fun vs H Q E h => ?_) (fun cdv A outer s H vs Q E hr h => ?_)
  · obtain ⟨pr, x, t, rfl, _⟩ := h
    rfl
  · obtain ⟨pr, x, t, rfl, ty, kf, k⟩ := h
    have hr_run : Room 12 _ := hr
    refine ⟨_, pss_cons (ps_try_as (i := 2) (tb := fun W => tDrop (tMakeS CR (spRunI K CP CH CE CR CW CM) (WE W) (tCons (tVar 0) (tCons (tVar 1) tNil)))) (ts := fun a cls d => tRet (tOp rEq (tPartE CE a cls d (tVar 2)) (tC (.str "heap")))) (Wout := fun _ _ _ _ => False) rfl rfl sc_law_no_heap.nd rfl rfl ⟨rfl, by decide +kernel, Or.inl TE.gC⟩ L2.takes0
      (fun W pn xe tk _ => pss_one (ps_expr (by exact (pe_makeS M_run G_run hr_run rfl T0.g b_run (fun σ => passAt tk σ) (by exact (pa_cons (pv 0) (pa_cons (pv 1) pa_nil)))))))
      (fun a oe cls d pn hz hf => pss_one (ps_ret (by exact (pe_cmpR op_eq (pe_partE TE hz hf (pv 2)) pe_str (nomark _)))))) (pss_one (ps_ret pe_bl)), ?_⟩
    refine ⟨_, rfl, _, rfl, fun o od no nod ne => ?_⟩
    have sM : Same H (upd (upd H od (.own o)) o (.ins CR od [])) := fun b u e => (upd_ne (ne_of_none e no)).trans ((upd_ne (ne_of_none e nod)).trans e)
    refine ⟨o, od, pr, x, rfl, upd_same, .inl ⟨t, ty _ sM, kf, fun H1 d s1 hd => ?_⟩⟩
    refine ⟨true, TE.te, fun _ a0 _ => ?_, fun z => Bool.noConfusion z⟩
    refine ⟨_, rfl, rfl, rfl, d, _, rfl, upd_same, ?_⟩
    refine ⟨rfl, ?_⟩
    rw [show decide (V.str "heap" = V.str "heap") = true from decide_eq_true rfl]
    exact k _ fun b o e => by
      have s2 := sM.trans s1
      rw [upd_ne (ne_of_none e (s2.free hd))]
      exact s2 _ _ e
set_option maxHeartbeats 8000000 in
theorem ok_refusals {f fR fN CP CH CR CW CM : Addr} {fd fdR fdN : FuncData} (F : Fun K "_law_refusals" "_law_refusals" S_law_refusals f fd) (KH : KitH K CH CP) (TPi : HCi K CP) (clP : Cls K CP)
    (d_law_refused : Df K mg "_law_refused" S_law_refused fR fdR P_law_refused) (G_law_refused : FnOk P w K mg base CX0 3 fR fdR P_law_refused (spRefR K CR CW CM))
    (d_law_no_heap : Df K mg "_law_no_heap" S_law_no_heap fN fdN P_law_no_heap) (G_law_no_heap : FnOk P w K mg base CX0 13 fN fdN P_law_no_heap (spNoH K CH)) : FnOk P w K mg base CX0 14 f fd P_law_refusals (spRefs K CP CR CW CM) := by
  refine F.ok sc_law_refusals (fun vs H Q E h => ?_) (fun cdv A outer s H vs Q E hr h => ?_)
  · obtain ⟨pr, r, aO, aN, dxp, flp, xs, kv, rp, wp, mp, fs, m, rfl, _⟩ := h
    rfl
  · obtain ⟨pr, r, aO, aN, dxp, flp, xs, kv, rp, wp, mp, fs, m, rfl, hP, hO, hN, R, k⟩ := h
    have hr_law_refused : Room 3 _ := hr.mono (by decide)
    have hr_law_no_heap : Room 13 _ := hr
    refine ⟨_, (pss_cons (ps_for PassesOwn.never rfl (pi_list (pe_lst (pa_cons pe_non (pa_cons pe_int (pa_cons pe_str (pa_cons (pv 2) (pa_cons (pv 3) (pa_cons (pv 0) pa_nil)))))))) (pg_name (i := 4) sc_law_refusals.nd rfl (by first | exact Or.inl rfl | exact Or.inr rfl)) (pss_one (ps_if (pt_not (pt_val (pe_call G_law_no_heap hr_law_no_heap rfl d_law_no_heap.g d_law_no_heap.F.kp d_law_no_heap.b .nil pass0 (pa_cons (pv 0) (pa_cons (pv 4) pa_nil))))) (pss_one (ps_ret pe_bl)) pss_nil)))
 (pss_cons (ps_for PassesOwn.never rfl (pi_list (pe_lst (pa_cons pe_str (pa_cons pe_str (pa_cons pe_str (pa_cons pe_non (pa_cons pe_int (pa_cons (pe_tup (pa_cons pe_str pa_nil)) (pa_cons (pe_lst pa_nil) pa_nil))))))))) (pg_name (i := 5) sc_law_refusals.nd rfl (by first | exact Or.inl rfl | exact Or.inr rfl)) (pss_one (ps_if (pt_not (pt_val (pe_call G_law_refused hr_law_refused rfl d_law_refused.g d_law_refused.F.kp d_law_refused.b .nil pass0 (pa_cons (pv 1) (pa_cons (pv 5) pa_nil))))) (pss_one (ps_ret pe_bl)) pss_nil)))
 (pss_one (ps_ret pe_bl)))), ?_⟩
    refine ⟨_, rfl, _, rfl, _, rfl, by show 6 ≤ sizeLine; decide, fun q1 n1 => ?_⟩
    have s1 : Same H _ := same_new (o := .lst [V.non, V.int 5, V.str "heap", V.ref aO, V.ref aN, V.ref pr]) n1
    have each : ∀ x ∈ [V.non, V.int 5, V.str "heap", V.ref aO, V.ref aN, V.ref pr], ∃ t, (∀ H', Same H H' → TyX K H' x t) ∧ PySem.W.kitOne K t (.ref CH) = some false := by
      intro x hx
      simp only [List.mem_cons, List.not_mem_nil, or_false] at hx
      rcases hx with rfl | rfl | rfl | rfl | rfl | rfl
      · exact ⟨_, fun _ _ => .base .non, KH.n⟩
      · exact ⟨_, fun _ _ => .base (.int 5), KH.i⟩
      · exact ⟨_, fun _ _ => .base (.str _), KH.s⟩
      · exact ⟨_, fun _ s => .base (.lst (s _ _ hO)), KH.l⟩
      · exact ⟨_, fun _ s => .base (.dK (s _ _ hN)), KH.d⟩
      · exact ⟨_, fun _ s => TPi.ty clP (s _ _ hP), KH.p⟩
    refine ⟨q1, rfl, ⟨_, SqL.of upd_same⟩, for_list (xs := [V.non, V.int 5, V.str "heap", V.ref aO, V.ref aN, V.ref pr]) (fun i σ G => ∃ z4 z5 : Option V, σ = [some (.ref pr), some (.ref r), some (.ref aO), some (.ref aN), z4, z5] ∧ Same (upd H q1 (.lst [V.non, V.int 5, V.str "heap", V.ref aO, V.ref aN, V.ref pr])) G) ⟨_, _, rfl, Same.refl _⟩ ?_ ?_ ?_⟩
    · rintro i σ G hi ⟨z4, z5, rfl, s⟩
      exact SqL.of (s _ _ upd_same)
    · rintro i x σ G hx ⟨z4, z5, rfl, s⟩
      obtain ⟨t, ty, kf⟩ := each x (List.mem_of_getElem? hx)
      refine ⟨_, rfl, _, rfl, pr, x, t, rfl, fun H' s' => ty H' ((s1.trans s).trans s'), kf, fun H' s' => ⟨_, rfl, iteF ?_⟩⟩
      exact ⟨_, _, rfl, s.trans s'⟩
    · rintro σ G ⟨z4, z5, rfl, s⟩
      have sG := s1.trans s
      refine ⟨by show 1 ≤ sizeLine; decide, fun t nt => ⟨by show 0 ≤ sizeLine; decide, fun l nl => ⟨by show 7 ≤ sizeLine; decide, fun q2 n2 => ?_⟩⟩⟩
      have sq : Same H _ := ((sG.trans (same_new (o := .tup [V.str "a"]) nt)).trans (same_new (o := .lst []) nl)).trans (same_new (o := .lst [V.str "", V.str "A", V.str "abcdefghi", V.non, V.int 0, V.ref t, V.ref l]) n2)
      have each2 : ∀ x ∈ [V.str "", V.str "A", V.str "abcdefghi", V.non, V.int 0, V.ref t, V.ref l], ∃ T, (∀ H', Same (upd (upd G t (.tup [V.str "a"])) l (.lst [])) H' → Kd K H' x T) ∧ isWb x = false := by
        intro x hx
        simp only [List.mem_cons, List.not_mem_nil, or_false] at hx
        rcases hx with rfl | rfl | rfl | rfl | rfl | rfl | rfl
        · exact ⟨"str", fun _ _ => kdW (by decide +kernel), wrong_words.1⟩
        · exact ⟨"str", fun _ _ => kdW (by decide +kernel), wrong_words.2.1⟩
        · exact ⟨"str", fun _ _ => kdW (by decide +kernel), wrong_words.2.2⟩
        · exact ⟨"NoneType", fun _ _ => ⟨by decide, .base .non, fun z e => nomatch e⟩, rfl⟩
        · exact ⟨"int", fun _ _ => ⟨by decide, .base (.int 0), fun z e => nomatch e⟩, rfl⟩
        · exact ⟨"tuple", fun _ s => ⟨by decide, .base (.tup (s _ _ ((upd_ne (ne_of_none upd_same nl)).trans upd_same))), fun z e => nomatch e⟩, rfl⟩
        · exact ⟨"list", fun _ s => ⟨by decide, .base (.lst (s _ _ upd_same)), fun z e => nomatch e⟩, rfl⟩
      refine ⟨q2, rfl, ⟨_, SqL.of upd_same⟩, for_list (xs := [V.str "", V.str "A", V.str "abcdefghi", V.non, V.int 0, V.ref t, V.ref l]) (fun i σ G2 => ∃ z4 z5 : Option V, σ = [some (.ref pr), some (.ref r), some (.ref aO), some (.ref aN), z4, z5] ∧ Same (upd (upd (upd G t (.tup [V.str "a"])) l (.lst [])) q2 (.lst [V.str "", V.str "A", V.str "abcdefghi", V.non, V.int 0, V.ref t, V.ref l])) G2) ⟨_, _, rfl, Same.refl _⟩ ?_ ?_ ?_⟩
      · rintro i σ G2 hi ⟨z4, z5, rfl, s2⟩
        exact SqL.of (s2 _ _ upd_same)
      · rintro i x σ G2 hx ⟨z4, z5, rfl, s2⟩
        obtain ⟨T, kd, hw⟩ := each2 x (List.mem_of_getElem? hx)
        refine ⟨_, rfl, _, rfl, r, x, T, rp, wp, mp, fs, m, rfl, R.same (sq.trans s2), kd _ ((same_new n2).trans s2), hw, fun H' s' => ⟨_, rfl, iteF ?_⟩⟩
        exact ⟨_, _, rfl, s2.trans s'⟩
      · rintro σ G2 ⟨z4, z5, rfl, s2⟩
        exact k _ (sq.trans s2)
end
end TW
set_option Elab.async false
set_option linter.all false
set_option maxRecDepth 100000
namespace TW
open PySem PySem.Spec PyProof.Rows L2 TL LamX NdefX LamQ
/-! ### the rows as a program -/
theorem rows0 : ∀ ds : List PyData, rowsD 0 ds = ds
  | [] => rfl
  | d :: ds => by
    show (d :: (([] : List PyData) ++ [])) ++ rowsD 0 ds = _
    rw [rows0 ds]
    rfl
/-- the words of a row are among these -/
def PRow.ws (d : PRow) (ws : List Str) : Prop := match d with
  | .move x y => x ∈ ws ∧ y ∈ ws
  | .non x => x ∈ ws
  | .new x => x ∈ ws
theorem flat_str1 {x : Str} : ∀ d ∈ [PyData.str x], FlatD d := fun d m => by rw [List.mem_singleton.mp m]; exact .str _
theorem flat_str2 {x y : Str} : ∀ d ∈ [PyData.str x, PyData.str y], FlatD d := fun d m => by
  rcases List.mem_cons.mp m with rfl | m
  · exact .str _
  · rw [List.mem_singleton.mp m]; exact .str _
theorem PRow.rowD (d : PRow) (n : Nat) : RowD n d.D := by
  cases d
  · exact .plain (by decide +kernel) (by decide +kernel) flat_str2 (by simp)
  · exact .plain (by decide +kernel) (by decide +kernel) flat_str1 (by simp)
  · exact .plain (by decide +kernel) (by decide +kernel) flat_str1 (by simp)
theorem PRow.okR {d : PRow} {ws fs : List Str} (h : d.ws ws) : OkR ws fs d.D := by
  cases d
  · exact ⟨_, _, _, rfl, l_move, .cons (.var h.1) (.cons (.var h.2) .nil)⟩
  · exact ⟨_, _, _, rfl, l_none, .cons (.var h) .nil⟩
  · exact ⟨_, _, _, rfl, l_new, .cons (.var h) .nil⟩
theorem k_of (d : PRow) : kindOf d.D = d.k := by cases d <;> rfl
theorem PRow.noR (d : PRow) : readersOf d.D = [] ∧ copiesOf d.D = 0 := by
  unfold readersOf copiesOf
  rw [k_of]
  cases d
  · exact ⟨if_neg (show ¬ (("move" : Str) = "watch") by decide +kernel), if_neg (show ¬ (("move" : Str) = "copy") by decide +kernel)⟩
  · exact ⟨if_neg (show ¬ (("none" : Str) = "watch") by decide +kernel), if_neg (show ¬ (("none" : Str) = "copy") by decide +kernel)⟩
  · exact ⟨if_neg (show ¬ (("new" : Str) = "watch") by decide +kernel), if_neg (show ¬ (("new" : Str) = "copy") by decide +kernel)⟩
theorem vars_in14 {d : PyData} {ws fs : List Str} (h : OkR ws fs d) : ∀ x ∈ varsOf d, x ∈ ws := by
  obtain ⟨k, ps, rs, rfl, hl, hp⟩ := h
  have e : rolesOf (.tuple (.str k :: ps)) = rs := by
    show ((formsT.lookup k).getD []) = rs
    rw [hl]
    rfl
  intro x hx
  unfold varsOf at hx
  rw [e] at hx
  have key : ∀ {rs : List Str} {ps : List PyData}, PartsOk ws fs rs ps → ∀ x ∈ (ps.zip rs).filterMap (fun p => if p.2 = ("variable" : Str) then some (strD p.1) else none), x ∈ ws := by
    intro rs ps h
    induction h with
    | nil => intro x m; cases m
    | @cons r rs d ds hd _ ih =>
      intro x m
      rw [List.zip_cons_cons, List.filterMap_cons] at m
      split at m
      · exact ih x m
      · rename_i b hb
        rcases List.mem_cons.mp m with rfl | m
        · split at hb
          · rename_i hr
            cases hb
            cases hd with
            | var h => exact h
            | field h => exact absurd hr (show ¬ (("field" : Str) = "variable") by decide +kernel)
            | kind h => exact absurd hr (show ¬ (("kind" : Str) = "variable") by decide +kernel)
            | depth h1 h2 => exact absurd hr (show ¬ (("depth" : Str) = "variable") by decide +kernel)
            | reader h => exact absurd hr (show ¬ (("reader" : Str) = "variable") by decide +kernel)
            | rows => exact absurd hr (show ¬ (("rows" : Str) = "variable") by decide +kernel)
          · cases hb
        · exact ih x m
  exact key hp x hx
theorem dedupN_nodup14 {l : List Str} : ∀ {i : Nat}, i ≤ l.length → (dedupN l i).Nodup
  | 0, _ => by simp [dedupN]
  | i + 1, h => by
    have hi : i < l.length := h
    have e : l[i]? = some l[i] := List.getElem?_eq_getElem hi
    have ih := dedupN_nodup14 (l := l) (i := i) (Nat.le_of_lt hi)
    by_cases m : l[i] ∈ l.take i
    · rw [dedupN_in e m]
      exact ih
    · rw [dedupN_out e m, List.nodup_append]
      refine ⟨ih, by simp, fun x hx y hy z => m ?_⟩
      rw [List.mem_singleton.mp hy] at z
      rw [← z]
      exact (dedupN_mem (Nat.le_of_lt hi)).mp hx
theorem good_plain {is fs ws : List Str} {prs : List PRow} (iw : ∀ x ∈ is, x ∈ ws) (iN : is.Nodup) (i1 : 1 ≤ is.length) (i3 : is.length ≤ 3) (fw : ∀ x ∈ fs, IsW x) (fN : fs.Nodup) (f1 : 1 ≤ fs.length) (f2 : fs.length ≤ 2)
    (ww : ∀ x ∈ ws, IsW x) (w6 : ws.length ≤ 6) (hp : ∀ d ∈ prs, d.ws ws) (l20 : prs.length ≤ 20) : GoodP is fs [] 0 (prs.map PRow.D) ws := by
  have ok : ∀ d ∈ prs.map PRow.D, OkR ws fs d := fun d m => by
    obtain ⟨r, hr, rfl⟩ := List.mem_map.mp m
    exact PRow.okR (hp r hr)
  refine ⟨fun x m => ww x (iw x m), iN, i1, i3, fw, fN, f1, f2, fun x m => (nomatch m), List.nodup_nil, by decide, ww, by decide, fun d m => ?_, fun d m => ?_, ?_, ?_, ?_, ?_, ?_⟩
  · obtain ⟨r, _, rfl⟩ := List.mem_map.mp m
    exact r.rowD 0
  · rw [rows0] at m
    exact ok d m
  · rw [rows0, List.length_map]
    exact l20
  · have : cps 0 (prs.map PRow.D) = 0 := by
      unfold cps
      rw [rows0, List.map_map]
      have : ((fun d => copiesOf d) ∘ PRow.D) = fun _ => 0 := funext fun d => (PRow.noR d).2
      clear ok hp l20
      induction prs with
      | nil => rfl
      | cons r prs ih =>
        rw [List.map_cons, List.sum_cons, ih]
        exact congrArg (· + 0) (PRow.noR r).2
    omega
  · have : rds 0 (prs.map PRow.D) = [] := by
      unfold rds
      rw [rows0]
      refine List.flatMap_eq_nil_iff.mpr fun d m => ?_
      obtain ⟨r, _, rfl⟩ := List.mem_map.mp m
      exact (PRow.noR r).1
    rw [this]
    decide
  · have : rds 0 (prs.map PRow.D) = [] := by
      unfold rds
      rw [rows0]
      refine List.flatMap_eq_nil_iff.mpr fun d m => ?_
      obtain ⟨r, _, rfl⟩ := List.mem_map.mp m
      exact (PRow.noR r).1
    rw [this]
    exact List.nodup_nil
  · refine Nat.le_trans (len_le_of_sub _ ws ?_ fun x m => ?_) w6
    · exact dedupN_nodup14 (Nat.le_refl _)
    · have m2 := dedupF_sub m
      rcases List.mem_append.mp m2 with m2 | m2
      · rcases List.mem_append.mp m2 with m2 | m2
        · exact iw x m2
        · obtain ⟨d, hd, hx⟩ := List.mem_flatMap.mp m2
          rw [rows0] at hd
          exact vars_in14 (ok d hd) x hx
      · cases m2
/-! ### what the rows do -/
def stS (cnt : Nat) (s : Ob × Nat) : PRow → Ob × Nat
  | .move x y => (setV s.1 x ((s.1.lookup y).getD none), s.2)
  | .non x => (setV s.1 x none, s.2)
  | .new x => (setV s.1 x (some (cnt + s.2)), s.2 + 1)
def foldS (cnt : Nat) (s : Ob × Nat) (prs : List PRow) : Ob × Nat := prs.foldl (stS cnt) s
def cur (s : Ob × Nat) (w : Str) : Option Nat := (s.1.lookup w).getD none
structure Agr (m : MS) (cnt : Nat) (s : Ob × Nat) : Prop where
  v : m.vars = s.1
  f : m.frz = List.replicate s.2 false
  n : m.starts = cnt
  c : m.cells.length = cnt + s.2
theorem agr_rns {m0 m : MS} {cnt : Nat} {s : Ob × Nat} {prs : List PRow} (r : Rns m0 prs m) (a : Agr m0 cnt s) : Agr m cnt (foldS cnt s prs) := by
  induction r with
  | nil => exact a
  | @snoc ds d m1 m2 _ st ih =>
    unfold foldS
    rw [List.foldl_append]
    show Agr m2 cnt (stS cnt (foldS cnt s ds) d)
    cases st with
    | move x y => exact ⟨by show setV m1.vars x (heldV m1 y) = _; unfold heldV; rw [ih.v]; rfl, ih.f, ih.n, ih.c⟩
    | non x => exact ⟨by show setV m1.vars x none = _; rw [ih.v]; rfl, ih.f, ih.n, ih.c⟩
    | new x dC kS => exact ⟨by show setV m1.vars x (some m1.cells.length) = _; rw [ih.v, ih.c]; rfl, by show m1.frz ++ [false] = List.replicate (_ + 1) false; rw [ih.f, List.replicate_succ'], ih.n, by show (m1.cells ++ [dC]).length = _; rw [List.length_append, ih.c]; rfl⟩
/-- values as users see them -/
def valT (cnt : Nat) : Option Nat → List V
  | none => [.str "none"]
  | some k => if k < cnt then [.str "start", .int (k : Int)] else [.str "own", .int ((k - cnt : Nat) : Int), .bl false]
def valL (cnt : Nat) : Option Nat → PyData
  | none => .tuple [.str "none"]
  | some k => if k < cnt then .tuple [.str "start", .int (k : Int)] else .tuple [.str "own", .int ((k - cnt : Nat) : Int), .bool false]
theorem dp_val {K : PySem.W.Frag} {G : Hp} {t : Addr} {cnt : Nat} {v : Option Nat} (e : G t = some (.tup (valT cnt v))) : Dp K G (.ref t) (valL cnt v) := by
  cases v with
  | none => exact .tup (SqT.of e) (.cons (.str _) .nil)
  | some k =>
    have e : G t = some (.tup (if k < cnt then [.str "start", .int (k : Int)] else [.str "own", .int ((k - cnt : Nat) : Int), .bl false])) := e
    show Dp K G (.ref t) (if k < cnt then .tuple [.str "start", .int (k : Int)] else .tuple [.str "own", .int ((k - cnt : Nat) : Int), .bool false])
    by_cases h : k < cnt
    · rw [if_pos h] at e ⊢
      exact .tup (SqT.of e) (.cons (.str _) (.cons (.int _) .nil))
    · rw [if_neg h] at e ⊢
      exact .tup (SqT.of e) (.cons (.str _) (.cons (.int _) (.cons (.bl _) .nil)))
theorem agr_val {m : MS} {cnt : Nat} {s : Ob × Nat} (a : Agr m cnt s) (v : Option Nat) : valD m v = valL cnt v := by
  cases v with
  | none => rfl
  | some k =>
    unfold valD valL
    have e : (m.frz[k - m.starts]?).getD false = false := by
      rw [a.f]
      cases h : (List.replicate s.2 false)[k - m.starts]? with
      | none => rfl
      | some b =>
        have := List.mem_of_getElem? h
        exact (List.mem_replicate.mp this).2
    simp only [e]
    rw [a.n]
theorem cur_stS (cnt : Nat) (s : Ob × Nat) (d : PRow) (w : Str) : cur (stS cnt s d) w = match d with
    | .move x y => if w = x then cur s y else cur s w
    | .non x => if w = x then none else cur s w
    | .new x => if w = x then some (cnt + s.2) else cur s w := by
  cases d with
  | move x y =>
    show ((setV s.1 x _).lookup w).getD none = if w = x then _ else _
    rw [setV_lookup]
    split <;> rfl
  | non x =>
    show ((setV s.1 x _).lookup w).getD none = if w = x then _ else _
    rw [setV_lookup]
    split <;> rfl
  | new x =>
    show ((setV s.1 x _).lookup w).getD none = if w = x then _ else _
    rw [setV_lookup]
    split <;> rfl
def CurOk (cnt : Nat) (s : Ob × Nat) : Prop := ∀ w, okv (cnt + s.2) (cur s w)
theorem okv_up {n m : Nat} {v : Option Nat} (h : okv n v) (l : n ≤ m) : okv m v := by
  cases v with
  | none => trivial
  | some k => exact Nat.lt_of_lt_of_le (show k < n from h) l
theorem curOk_st {cnt : Nat} {s : Ob × Nat} (h : CurOk cnt s) (d : PRow) : CurOk cnt (stS cnt s d) := fun w => by
  rw [cur_stS]
  cases d with
  | move x y =>
    show okv (cnt + s.2) (if w = x then _ else _)
    split
    · exact h y
    · exact h w
  | non x =>
    show okv (cnt + s.2) (if w = x then _ else _)
    split
    · trivial
    · exact h w
  | new x =>
    show okv (cnt + (s.2 + 1)) (if w = x then _ else _)
    split
    · show cnt + s.2 < cnt + (s.2 + 1)
      omega
    · exact okv_up (h w) (by omega)
theorem st_made (cnt : Nat) (s : Ob × Nat) (d : PRow) : (stS cnt s d).2 ≤ s.2 + 1 := by
  cases d
  · exact Nat.le_succ _
  · exact Nat.le_succ _
  · exact Nat.le_refl _
/-! ### the law's dict -/
def hkv (ks : List Str) (ad : Str → Addr) : List (Key × V) := ks.map fun w => ((Sum.inr w : Key), .ref (ad w))
theorem hkv_get (ad : Str → Addr) : ∀ {ks : List Str} {w : Str}, w ∈ ks → valV (hkv ks ad) (Sum.inr w : Key) = some (.ref (ad w))
  | k :: ks, w, h => by
    by_cases e : k = w
    · subst e
      exact valV_pos rfl
    · refine (valV_neg (fun z => e (Sum.inr.inj z))).trans (hkv_get ad ?_)
      exact (List.mem_cons.mp h).resolve_left fun z => e z.symm
theorem hkv_put {ks : List Str} (ad : Str → Addr) {x : Str} (t : Addr) (h : x ∈ ks) : putK (hkv ks ad) (Sum.inr x : Key) (.ref t) = hkv ks (fun w => if w = x then t else ad w) := by
  have ha : ((hkv ks ad).any fun kv => decide (kv.1 = (Sum.inr x : Key))) = true := List.any_eq_true.mpr ⟨((Sum.inr x : Key), .ref (ad x)), List.mem_map.mpr ⟨x, h, rfl⟩, decide_eq_true rfl⟩
  unfold putK
  rw [if_pos ha]
  unfold hkv
  rw [List.map_map]
  refine List.map_congr_left fun w _ => ?_
  show (if (Sum.inr w : Key) = Sum.inr x then ((Sum.inr w : Key), V.ref t) else ((Sum.inr w : Key), V.ref (ad w))) = ((Sum.inr w : Key), V.ref (if w = x then t else ad w))
  by_cases e : w = x
  · subst e
    rw [if_pos rfl, if_pos rfl]
  · rw [if_neg (fun z => e (Sum.inr.inj z)), if_neg e]
theorem hkv_new {ks : List Str} (ad : Str → Addr) {x : Str} (t : Addr) (h : x ∉ ks) : putK (hkv ks ad) (Sum.inr x : Key) (.ref t) = hkv (ks ++ [x]) (fun w => if w = x then t else ad w) := by
  rw [putK_fresh]
  · unfold hkv
    rw [List.map_append]
    congr 1
    · refine List.map_congr_left fun w hw => ?_
      have e : ¬ w = x := fun z => h (by rw [← z]; exact hw)
      show ((Sum.inr w : Key), V.ref (ad w)) = ((Sum.inr w : Key), V.ref (if w = x then t else ad w))
      rw [if_neg e]
    · show [((Sum.inr x : Key), V.ref t)] = [((Sum.inr x : Key), V.ref (if x = x then t else ad x))]
      rw [if_pos rfl]
  · intro kv m z
    obtain ⟨w, hw, rfl⟩ := List.mem_map.mp m
    have : w = x := Sum.inr.inj z
    exact h (by rw [← this]; exact hw)
end TW
set_option Elab.async false
set_option linter.all false
set_option maxRecDepth 100000
namespace TW
open PySem PySem.Spec PyProof.Rows L2 TL LamX NdefX LamQ
theorem cut_ints (ns : List Int) (lo hi : Option Int) : ∃ ms : List Int, cutV (ns.map V.int) lo hi = ms.map V.int ∧ ms.length ≤ ns.length := by
  refine ⟨(ns.drop (HT.sIx (ns.map V.int).length 0 lo)).take (HT.sIx (ns.map V.int).length (ns.map V.int).length hi - HT.sIx (ns.map V.int).length 0 lo), ?_, ?_⟩
  · unfold cutV
    rw [List.map_take, List.map_drop]
  · rw [List.length_take, List.length_drop]
    omega
theorem cut_20 (ns : List Int) : ∃ ms : List Int, cutV (ns.map V.int) none (some 20) = ms.map V.int ∧ ms.length ≤ 20 := by
  refine ⟨(ns.drop (HT.sIx (ns.map V.int).length 0 none)).take (HT.sIx (ns.map V.int).length (ns.map V.int).length (some 20) - HT.sIx (ns.map V.int).length 0 none), ?_, ?_⟩
  · unfold cutV
    rw [List.map_take, List.map_drop]
  · rw [List.length_take]
    have : HT.sIx (ns.map V.int).length (ns.map V.int).length (some 20) ≤ 20 := by
      show (if (20 : Int) < 0 then ((20 : Int) + ((ns.map V.int).length : Int)).toNat else min (20 : Int).toNat (ns.map V.int).length) ≤ 20
      rw [if_neg (by decide)]
      omega
    omega
/-- what the law has drawn -/
structure S14 (ws fs is : List Str) (st : Str) (os : List Ob) (l : Ob) : Prop where
  wn : ws.Nodup
  ww : ∀ x ∈ ws, IsW x
  w1 : 1 ≤ ws.length
  w6 : ws.length ≤ 6
  iw : ∀ x ∈ is, x ∈ ws
  iN : is.Nodup
  i1 : 1 ≤ is.length
  i3 : is.length ≤ 3
  sw : IsW st
  sn : st ∉ ws
  g : Good fs os l
  li : l.map (·.1) = is
  o11 : os.length ≤ 11
def ScA (K : PySem.W.Frag) (G : Hp) (a p c : Addr) (ns : List Int) : Prop := (Rd G a (.lst (ns.map V.int)) ∧ a ≠ p ∧ a ≠ c) ∨ ∀ G', SqL K G' a (ns.map V.int)
theorem ScA.sq {K : PySem.W.Frag} {G : Hp} {a p c : Addr} {ns : List Int} (h : ScA K G a p c ns) : SqL K G a (ns.map V.int) := h.elim (fun z => .inl z.1) fun z => z G
theorem ScA.same {K : PySem.W.Frag} {G G' : Hp} {a p c : Addr} {ns : List Int} (h : ScA K G a p c ns) (s : Same G G') : ScA K G' a p c ns := h.elim (fun ⟨z, n⟩ => .inl ⟨z.elim (fun e => .inl (s _ _ e)) (fun ⟨o, e⟩ => .inr ⟨o, s _ _ e⟩), n⟩) .inr
theorem ScA.fr {K : PySem.W.Frag} {G G' : Hp} {a p c : Addr} {ns : List Int} (h : ScA K G a p c ns) (f : Fr p c G G') : ScA K G' a p c ns := h.elim (fun ⟨z, n⟩ => .inl ⟨z.elim (fun e => .inl (f _ _ n.1 n.2 e)) (fun ⟨o, e⟩ => .inr ⟨o, f _ _ n.1 n.2 e⟩), n⟩) .inr
theorem ScA.of {K : PySem.W.Frag} {H G : Hp} {a p c : Addr} {ns : List Int} (h : SqL K H a (ns.map V.int)) (s : Same H G) (np : ∀ o, H a = some o → a ≠ p ∧ a ≠ c) : ScA K G a p c ns := by
  rcases h with (e | ⟨o, e⟩) | h
  · exact .inl ⟨.inl (s _ _ e), np _ e⟩
  · exact .inl ⟨.inr ⟨o, s _ _ e⟩, np _ e⟩
  · exact .inr fun G' => .inr h
structure B14 (Pt a p c aW aF aI aO aN : Addr) (ns : List Int) (ws fs is : List Str) (ds : List Addr) (os : List Ob) (l : Ob) (K : PySem.W.Frag) (G : Hp) : Prop where
  P : Pool p c G
  T : Tabs (TB1 Pt) G
  W : G aW = some (.lst (ws.map V.str))
  F : G aF = some (.lst (fs.map V.str))
  I : G aI = some (.lst (is.map V.str))
  O : ObjsAt G aO ds fs os.length os
  N : G aN = some (.dK (dk l))
  oW : aW ≠ p ∧ aW ≠ c
  oF : aF ≠ p ∧ aF ≠ c
  oI : aI ≠ p ∧ aI ≠ c
  oO : aO ≠ p ∧ aO ≠ c
  oN : aN ≠ p ∧ aN ≠ c
  oD : Off p c ds
  sc : ScA K G a p c ns
section
variable {Pt a p c aW aF aI aO aN : Addr} {ns : List Int} {ws fs is : List Str} {ds : List Addr} {os : List Ob} {l : Ob} {K : PySem.W.Frag} {G G' : Hp}
theorem B14.same (b : B14 Pt a p c aW aF aI aO aN ns ws fs is ds os l K G) (s : Same G G') : B14 Pt a p c aW aF aI aO aN ns ws fs is ds os l K G' :=
  ⟨b.P.same s, Tabs.ext b.T s, s _ _ b.W, s _ _ b.F, s _ _ b.I, b.O.same s, s _ _ b.N, b.oW, b.oF, b.oI, b.oO, b.oN, b.oD, b.sc.same s⟩
theorem B14.fr (b : B14 Pt a p c aW aF aI aO aN ns ws fs is ds os l K G) (P' : Pool p c G') (f : Fr p c G G') : B14 Pt a p c aW aF aI aO aN ns ws fs is ds os l K G' :=
  ⟨P', TW.Tabs.fr b.T b.P f, f _ _ b.oW.1 b.oW.2 b.W, f _ _ b.oF.1 b.oF.2 b.F, f _ _ b.oI.1 b.oI.2 b.I, b.O.fr b.oO b.oD f, f _ _ b.oN.1 b.oN.2 b.N, b.oW, b.oF, b.oI, b.oO, b.oN, b.oD, b.sc.fr f⟩
end
theorem tabs_put {T : List (Addr × Str)} {H : Hp} {q : Addr} {kv : List (Key × V)} {o : HO} (t : Tabs T H) (hq : H q = some (.dK kv)) : Tabs T (upd H q o) := fun p hp => by
  obtain ⟨ps, h1, h2, h3⟩ := t p hp
  refine ⟨ps, (upd_ne (fun z => by rw [z, hq] at h1; cases h1)).trans h1, h2, fun pos cv hc => ?_⟩
  obtain ⟨c, e1, e2⟩ := h3 pos cv hc
  refine ⟨c, e1, (upd_ne fun z => ?_).trans e2⟩
  rw [z, hq] at e2
  unfold CodeO at e2
  cases e2
/-- the dict that the law keeps -/
structure HK (G : Hp) (aH p c aN : Addr) (ds : List Addr) (cnt : Nat) (ks : List Str) (ad : Str → Addr) (f : Str → Option Nat) : Prop where
  h : G aH = some (.dK (hkv ks ad))
  o : aH ≠ p ∧ aH ≠ c
  n : aN ≠ aH
  d : aH ∉ ds
  v : ∀ w ∈ ks, G (ad w) = some (.tup (valT cnt (f w)))
section
variable {Pt a p c aW aF aI aO aN aH : Addr} {ns : List Int} {ws fs is ks : List Str} {ds : List Addr} {os : List Ob} {l : Ob} {K : PySem.W.Frag} {G G' : Hp} {cnt : Nat} {ad : Str → Addr} {f : Str → Option Nat}
theorem HK.same (h : HK G aH p c aN ds cnt ks ad f) (s : Same G G') : HK G' aH p c aN ds cnt ks ad f := ⟨s _ _ h.h, h.o, h.n, h.d, fun w m => s _ _ (h.v w m)⟩
theorem HK.fr (h : HK G aH p c aN ds cnt ks ad f) (P : Pool p c G) (fr : Fr p c G G') : HK G' aH p c aN ds cnt ks ad f := by
  obtain ⟨xs, i, j, h1, h2, _⟩ := P.ex
  exact ⟨fr _ _ h.o.1 h.o.2 h.h, h.o, h.n, h.d, fun w m => fr _ _ (fun z => by have := h.v w m; rw [z, h1] at this; cases this) (fun z => by have := h.v w m; rw [z, h2] at this; cases this) (h.v w m)⟩
theorem HK.up (h : HK G aH p c aN ds cnt ks ad f) {ks' : List Str} {x : Str} {t : Addr} {u : Option Nat} (ht : G t = some (.tup (valT cnt u))) (hk : ∀ w ∈ ks', w = x ∨ w ∈ ks) : HK (upd G aH (.dK (hkv ks' (fun w => if w = x then t else ad w)))) aH p c aN ds cnt ks' (fun w => if w = x then t else ad w) (fun w => if w = x then u else f w) := by
  have ne : ∀ {b : Addr} {us : List V}, G b = some (.tup us) → b ≠ aH := fun e z => by rw [z, h.h] at e; cases e
  refine ⟨upd_same, h.o, h.n, h.d, fun w m => ?_⟩
  by_cases e : w = x
  · show upd G aH _ (if w = x then t else ad w) = some (.tup (valT cnt (if w = x then u else f w)))
    rw [if_pos e, if_pos e]
    exact (upd_ne (ne ht)).trans ht
  · show upd G aH _ (if w = x then t else ad w) = some (.tup (valT cnt (if w = x then u else f w)))
    rw [if_neg e, if_neg e]
    have z := h.v w ((hk w m).resolve_left e)
    exact (upd_ne (ne z)).trans z
theorem HK.put (h : HK G aH p c aN ds cnt ks ad f) {x : Str} {t : Addr} {u : Option Nat} (ht : G t = some (.tup (valT cnt u))) (m : x ∈ ks) : HK (upd G aH (.dK (putK (hkv ks ad) (Sum.inr x : Key) (.ref t)))) aH p c aN ds cnt ks (fun w => if w = x then t else ad w) (fun w => if w = x then u else f w) := by
  rw [hkv_put ad t m]
  exact h.up ht fun w m => .inr m
theorem HK.add (h : HK G aH p c aN ds cnt ks ad f) {x : Str} {t : Addr} {u : Option Nat} (ht : G t = some (.tup (valT cnt u))) (m : x ∉ ks) : HK (upd G aH (.dK (putK (hkv ks ad) (Sum.inr x : Key) (.ref t)))) aH p c aN ds cnt (ks ++ [x]) (fun w => if w = x then t else ad w) (fun w => if w = x then u else f w) := by
  rw [hkv_new ad t m]
  exact h.up ht fun w m => (List.mem_append.mp m).elim .inr fun z => .inl (List.mem_singleton.mp z)
theorem HK.eqf (h : HK G aH p c aN ds cnt ks ad f) {g : Str → Option Nat} (e : ∀ w ∈ ks, f w = g w) : HK G aH p c aN ds cnt ks ad g := ⟨h.h, h.o, h.n, h.d, fun w m => by rw [← e w m]; exact h.v w m⟩
theorem B14.put (b : B14 Pt a p c aW aF aI aO aN ns ws fs is ds os l K G) (h : HK G aH p c aN ds cnt ks ad f) (kv : List (Key × V)) : B14 Pt a p c aW aF aI aO aN ns ws fs is ds os l K (upd G aH (.dK kv)) := by
  have nl : ∀ {b : Addr} {us : List V}, G b = some (.lst us) → b ≠ aH := fun e z => by rw [z, h.h] at e; cases e
  refine ⟨b.P.upd2 h.o _, tabs_put b.T h.h, (upd_ne (nl b.W)).trans b.W, (upd_ne (nl b.F)).trans b.F, (upd_ne (nl b.I)).trans b.I, ⟨(upd_ne (nl b.O.ls)).trans b.O.ls, b.O.len, b.O.nd, fun i d o h1 h2 => (upd_ne fun z => h.d (by rw [← z]; exact List.mem_of_getElem? h1)).trans (b.O.at' i d o h1 h2), b.O.ks, b.O.ok⟩, (upd_ne h.n).trans b.N, b.oW, b.oF, b.oI, b.oO, b.oN, b.oD, ?_⟩
  refine b.sc.elim (fun ⟨z, n⟩ => .inl ⟨z.elim (fun e => .inl ((upd_ne (nl e)).trans e)) (fun ⟨o, e⟩ => .inr ⟨o, (upd_ne fun z => by rw [z, h.h] at e; cases e).trans e⟩), n⟩) .inr
theorem HK.dget (h : HK G aH p c aN ds cnt ks ad f) {w : Str} (m : w ∈ ks) : DGet G aH (.str w) (some (.ref (ad w))) := by
  have g := DGet.k (k := (Sum.inr w : Key)) h.h
  rw [hkv_get ad m] at g
  exact g
theorem HK.len (h : HK G aH p c aN ds cnt ks ad f) (l : ks.length ≤ 100) : (hkv ks ad).length < sizeLine := by
  unfold hkv
  rw [List.length_map]
  exact small1000 (by omega)
end
theorem HK.putL {G : Hp} {aH p c aN aR : Addr} {ds : List Addr} {cnt : Nat} {ks : List Str} {ad : Str → Addr} {f : Str → Option Nat} {xs : List V} (h : HK G aH p c aN ds cnt ks ad f) (hR : G aR = some (.lst xs)) (u : HO) : HK (upd G aR u) aH p c aN ds cnt ks ad f :=
  ⟨(upd_ne fun z => by have := h.h; rw [z, hR] at this; cases this).trans h.h, h.o, h.n, h.d, fun w m => (upd_ne fun z => by have := h.v w m; rw [z, hR] at this; cases this).trans (h.v w m)⟩
structure AR (K : PySem.W.Frag) (aR a p c aW aF aI aO : Addr) (ns : List Int) : Prop where
  o : aR ≠ p ∧ aR ≠ c
  w : aW ≠ aR
  f : aF ≠ aR
  i : aI ≠ aR
  b : aO ≠ aR
  s : a ≠ aR ∨ ∀ G', SqL K G' a (ns.map V.int)
theorem B14.putL {Pt a p c aW aF aI aO aN aR : Addr} {ns : List Int} {ws fs is : List Str} {ds : List Addr} {os : List Ob} {l : Ob} {K : PySem.W.Frag} {G : Hp} {xs : List V} (b : B14 Pt a p c aW aF aI aO aN ns ws fs is ds os l K G) (r : AR K aR a p c aW aF aI aO ns) (hR : G aR = some (.lst xs)) (ys : List V) : B14 Pt a p c aW aF aI aO aN ns ws fs is ds os l K (upd G aR (.lst ys)) := by
  have nd : ∀ {b : Addr} {kv : List (Key × V)}, G b = some (.dK kv) → b ≠ aR := fun e z => by rw [z, hR] at e; cases e
  refine ⟨b.P.upd2 r.o _, fun q hq => ?_, (upd_ne r.w).trans b.W, (upd_ne r.f).trans b.F, (upd_ne r.i).trans b.I, ⟨(upd_ne r.b).trans b.O.ls, b.O.len, b.O.nd, fun i d o h1 h2 => (upd_ne (nd (b.O.at' i d o h1 h2))).trans (b.O.at' i d o h1 h2), b.O.ks, b.O.ok⟩, (upd_ne (nd b.N)).trans b.N, b.oW, b.oF, b.oI, b.oO, b.oN, b.oD, ?_⟩
  · obtain ⟨ps, h1, h2, h3⟩ := b.T q hq
    refine ⟨ps, (upd_ne (fun z => by rw [z, hR] at h1; cases h1)).trans h1, h2, fun pos cv hc => ?_⟩
    obtain ⟨c, e1, e2⟩ := h3 pos cv hc
    refine ⟨c, e1, (upd_ne fun z => ?_).trans e2⟩
    rw [z, hR] at e2
    unfold CodeO at e2
    cases e2
  · rcases r.s with n | h
    · exact b.sc.elim (fun ⟨z, m⟩ => .inl ⟨z.elim (fun e => .inl ((upd_ne n).trans e)) (fun ⟨o, e⟩ => .inr ⟨o, (upd_ne n).trans e⟩), m⟩) .inr
    · exact .inr h
/-- the rows as the law lists them -/
structure RL (G : Hp) (aR : Addr) (rs : List Addr) (prs : List PRow) : Prop where
  h : G aR = some (.lst (rs.map V.ref))
  n : rs.length = prs.length
  v : ∀ (j : Nat) (r : Addr) (d : PRow), rs[j]? = some r → prs[j]? = some d → G r = some (.tup d.vs)
theorem RL.mono {G G' : Hp} {aR : Addr} {rs : List Addr} {prs : List PRow} (r : RL G aR rs prs) (k : ∀ {b : Addr} {us : List V}, G b = some (.tup us) → G' b = some (.tup us)) (h : G' aR = G aR) : RL G' aR rs prs := ⟨h.trans r.h, r.n, fun j x d h1 h2 => k (r.v j x d h1 h2)⟩
theorem RL.add {G : Hp} {aR t : Addr} {rs : List Addr} {prs : List PRow} {d : PRow} (r : RL G aR rs prs) (ht : G t = some (.tup d.vs)) : RL (upd G aR (.lst (rs.map V.ref ++ [.ref t]))) aR (rs ++ [t]) (prs ++ [d]) := by
  have ne : ∀ {b : Addr} {us : List V}, G b = some (.tup us) → b ≠ aR := fun e z => by rw [z, r.h] at e; cases e
  refine ⟨by rw [upd_same, List.map_append]; rfl, by rw [List.length_append, List.length_append, r.n]; rfl, fun j x d' h1 h2 => ?_⟩
  rcases Nat.lt_or_ge j rs.length with z | z
  · rw [List.getElem?_append_left z] at h1
    rw [List.getElem?_append_left (by rw [← r.n]; exact z)] at h2
    have e := r.v j x d' h1 h2
    exact (upd_ne (ne e)).trans e
  · have ej : j = rs.length := by
      have := (List.getElem?_eq_some_iff.mp h1).1
      rw [List.length_append] at this
      have : j < rs.length + 1 := this
      omega
    subst ej
    rw [List.getElem?_append_right (Nat.le_refl _), Nat.sub_self] at h1
    rw [r.n, List.getElem?_append_right (Nat.le_refl _), Nat.sub_self] at h2
    cases h1
    cases h2
    exact (upd_ne (ne ht)).trans ht
end TW
set_option Elab.async false
set_option linter.all false
set_option maxRecDepth 100000
namespace TW
open PySem PySem.Spec PyProof.Rows L2 TL LamX NdefX LamQ
theorem vs_dq {G : Hp} (d : PRow) {t : Addr} (e : G t = some (.tup d.vs)) : Dq G (.ref t) d.D [] := by
  cases d with
  | move x y => exact .tup (L := []) e (.cons (L := []) (M := []) (.str _) (.cons (L := []) (M := []) (.str _) (.cons (L := []) (M := []) (.str _) .nil)))
  | non x => exact .tup (L := []) e (.cons (L := []) (M := []) (.str _) (.cons (L := []) (M := []) (.str _) .nil))
  | new x => exact .tup (L := []) e (.cons (L := []) (M := []) (.str _) (.cons (L := []) (M := []) (.str _) .nil))
theorem rows_dq {G : Hp} : ∀ {rs : List Addr} {prs : List PRow}, rs.length = prs.length → (∀ (j : Nat) (r : Addr) (d : PRow), rs[j]? = some r → prs[j]? = some d → G r = some (.tup d.vs)) → DqAll G (rs.map V.ref) (prs.map PRow.D) []
  | [], [], _, _ => .nil
  | [], _ :: _, h, _ => nomatch h
  | _ :: _, [], h, _ => nomatch h
  | r :: rs, d :: prs, h, k => .cons (L := []) (M := []) (vs_dq d (k 0 r d rfl rfl)) (rows_dq (Nat.succ.inj h) fun j x y h1 h2 => k (j + 1) x y h1 h2)
theorem RL.dq {G : Hp} {aR : Addr} {rs : List Addr} {prs : List PRow} (r : RL G aR rs prs) : Dq G (.ref aR) (.list (prs.map PRow.D)) [aR] := .lst r.h (rows_dq r.n r.v)
theorem fold_made (cnt : Nat) : ∀ (prs : List PRow) (s : Ob × Nat), (foldS cnt s prs).2 ≤ s.2 + prs.length
  | [], s => Nat.le_refl _
  | d :: prs, s => by
    show (foldS cnt (stS cnt s d) prs).2 ≤ _
    have h1 := fold_made cnt prs (stS cnt s d)
    have h2 := st_made cnt s d
    rw [List.length_cons]
    omega
theorem fold_ok (cnt : Nat) : ∀ (prs : List PRow) (s : Ob × Nat), CurOk cnt s → CurOk cnt (foldS cnt s prs)
  | [], s, h => h
  | d :: prs, s, h => fold_ok cnt prs (stS cnt s d) (curOk_st h d)
theorem shw_i {i : Int} (h0 : 0 ≤ i) (h1 : i < 100) : Shw (.int i) 0 100 := by
  obtain ⟨n, rfl⟩ : ∃ n : Nat, i = (n : Int) := ⟨i.toNat, by omega⟩
  obtain ⟨m, rfl⟩ : ∃ m : Fin 100, n = m.val := ⟨⟨n, by omega⟩, rfl⟩
  have h : ∀ i : Fin 100, (PyData.int ((i.val : Nat) : Int)).showable = true ∧ (PyData.int ((i.val : Nat) : Int)).leavesShort 8 = true ∧ (PyData.int ((i.val : Nat) : Int)).weight ≤ 100 ∧ (PyData.int ((i.val : Nat) : Int)).canLay0 = true := by decide +kernel
  exact ⟨(h m).1, by simp only [PyData.hasDict], by simp only [PyData.depth]; exact Nat.zero_le _, (h m).2.1, (h m).2.2.1, (h m).2.2.2⟩
theorem shw_b (b : Bool) : Shw (.bool b) 0 100 := by
  cases b
  · exact ⟨by decide +kernel, by decide +kernel, by decide +kernel, by decide +kernel, by decide +kernel, by decide +kernel⟩
  · exact ⟨by decide +kernel, by decide +kernel, by decide +kernel, by decide +kernel, by decide +kernel, by decide +kernel⟩
theorem shw_non : Shw .none 0 100 := ⟨by decide +kernel, by decide +kernel, by decide +kernel, by decide +kernel, by decide +kernel, by decide +kernel⟩
theorem shw_none : Shw (.str "none") 0 100 := ⟨by decide +kernel, by decide +kernel, by decide +kernel, by decide +kernel, by decide +kernel, by decide +kernel⟩
theorem shw_start : Shw (.str "start") 0 100 := ⟨by decide +kernel, by decide +kernel, by decide +kernel, by decide +kernel, by decide +kernel, by decide +kernel⟩
theorem shw_own : Shw (.str "own") 0 100 := ⟨by decide +kernel, by decide +kernel, by decide +kernel, by decide +kernel, by decide +kernel, by decide +kernel⟩
theorem shw_done : Shw (.str "done") 0 100 := ⟨by decide +kernel, by decide +kernel, by decide +kernel, by decide +kernel, by decide +kernel, by decide +kernel⟩
theorem shw_val {cnt n : Nat} {v : Option Nat} (h : okv (cnt + n) v) (hc : cnt ≤ 11) (hn : n ≤ 20) : Shw (valL cnt v) 1 400 := by
  cases v with
  | none => exact (Shw.tup (ShwA.cons shw_none .nil)).up (Nat.le_refl _) (by omega)
  | some k =>
    have h : k < cnt + n := h
    show Shw (if k < cnt then .tuple [.str "start", .int (k : Int)] else .tuple [.str "own", .int ((k - cnt : Nat) : Int), .bool false]) 1 400
    by_cases z : k < cnt
    · rw [if_pos z]
      exact (Shw.tup (ShwA.cons shw_start (ShwA.cons (shw_i (by omega) (by omega)) .nil))).up (Nat.le_refl _) (by omega)
    · rw [if_neg z]
      exact (Shw.tup (ShwA.cons shw_own (ShwA.cons (shw_i (by omega) (by omega)) (ShwA.cons (shw_b false) .nil)))).up (Nat.le_refl _) (by omega)
def endD (n : Nat) : PyData := .list [.tuple [.str "done", .none], .int (n : Int), .list [], .list []]
theorem shw_end {n : Nat} (h : n ≤ 20) : Shw (endD n) 2 700 :=
  (Shw.lst (ShwA.cons (Shw.tup (ShwA.cons shw_done (ShwA.cons shw_non .nil))) (ShwA.cons ((shw_i (by omega) (by omega)).up (by decide : 0 ≤ 1) (Nat.le_refl _)) (ShwA.cons (Shw.lst (.nil)) (ShwA.cons (Shw.lst .nil) (ShwA.nil.up (by decide : 0 ≤ 1) (Nat.le_refl _))))))).up (Nat.le_refl _) (by omega)
/-- a Run stands while the law's own dict is written to -/
theorem MachAt.put {C aH : Addr} {G : Hp} {h : Addr} {p : MP} {fs : List Str} {m : MS} {kv : List (Key × V)} {u : HO} (M : MachAt C G h p fs m) (hH : G aH = some (.dK kv)) (n : aH ∉ p.ds7) : MachAt C (upd G aH u) h p fs m := by
  have nn : ∀ {b : Addr} {o : HO}, G b = some o → (∀ kv, o ≠ .dK kv) → (upd G aH u) b = some o := fun {b o} e k => (upd_ne fun z => by rw [z, hH] at e; exact k _ (Option.some.inj e).symm).trans e
  have nd : ∀ {b : Addr} {o : HO}, b ∈ p.ds7 → G b = some o → (upd G aH u) b = some o := fun {b o} hb e => (upd_ne fun z => n (by rw [← z]; exact hb)).trans e
  refine ⟨nn M.ob nofun, nn M.f nofun, nd ?_ M.v, nd ?_ M.c, nd ?_ M.s, nd ?_ M.z, nd ?_ M.r, nd ?_ M.l, nn M.a nofun, nd ?_ M.w, M.nd, M.len, M.lS⟩ <;> (unfold MP.ds7; simp)
theorem RunAt.put {CR CW CM aH : Addr} {G : Hp} {r : Addr} {rp : RP} {wp : WP} {mp : MP} {fs : List Str} {m : MS} {kv : List (Key × V)} {u : HO} (R : RunAt CR CW CM G r rp wp mp fs m) (hH : G aH = some (.dK kv)) (n : aH ∉ mp.ds7) : RunAt CR CW CM (upd G aH u) r rp wp mp fs m := by
  have nn : ∀ {b : Addr} {o : HO}, G b = some o → (∀ kv, o ≠ .dK kv) → (upd G aH u) b = some o := fun {b o} e k => (upd_ne fun z => by rw [z, hH] at e; exact k _ (Option.some.inj e).symm).trans e
  exact ⟨nn R.ob nofun, nn R.w nofun, nn R.e nofun, R.m.put hH n, R.hm⟩
theorem ProgAt.sameE {K : PySem.W.Frag} {C h : Addr} {H H' : Hp} {is fs os ws : List Str} {n : Nat} {ds : List PyData} {p : PP} (A : ProgAt K C H h is fs os n ds ws p) (s : SamE H H') : ProgAt K C H' h is fs os n ds ws p := by
  have kl : ∀ {L : List Addr}, (∀ b ∈ L, ∃ xs, H b = some (.lst xs)) → KeepL L H H' := fun h => ⟨fun b m => by
    obtain ⟨xs, e⟩ := h b m
    rw [e, s.g e], fun b xs e => s.g e⟩
  exact ⟨s.g A.ob, A.i.keep fun xs e => s.g e, A.f.keep fun xs e => s.g e, A.o.keep fun xs e => s.g e, A.r.keep (kl A.r.there), s.g A.t, A.u.keep (kl A.u.there), s.g A.v, A.g⟩
theorem HK.sameE {G G' : Hp} {aH p c aN : Addr} {ds : List Addr} {cnt : Nat} {ks : List Str} {ad : Str → Addr} {f : Str → Option Nat} (h : HK G aH p c aN ds cnt ks ad f) (s : SamE G G') : HK G' aH p c aN ds cnt ks ad f := ⟨s.g h.h, h.o, h.n, h.d, fun w m => s.g (h.v w m)⟩
theorem B14.sameE {Pt a p c aW aF aI aO aN : Addr} {ns : List Int} {ws fs is : List Str} {ds : List Addr} {os : List Ob} {l : Ob} {K : PySem.W.Frag} {G G' : Hp} (b : B14 Pt a p c aW aF aI aO aN ns ws fs is ds os l K G) (s : SamE G G') (t : Tabs (TB1 Pt) G') : B14 Pt a p c aW aF aI aO aN ns ws fs is ds os l K G' :=
  ⟨Pool.extN b.P s.x, t, s.g b.W, s.g b.F, s.g b.I, objs_ext s.x b.O, s.g b.N, b.oW, b.oF, b.oI, b.oO, b.oN, b.oD, b.sc.elim (fun ⟨z, n⟩ => .inl ⟨z.elim (fun e => .inl (s.g e)) (fun ⟨o, e⟩ => .inr ⟨o, s.g e⟩), n⟩) .inr⟩
theorem cur0 {fs : List Str} {os : List Ob} {l : Ob} (g : Good fs os l) : CurOk os.length (l, 0) := fun w => by
  show okv (os.length + 0) ((l.lookup w).getD none)
  have e : (l.lookup w).getD none = (l.lookup w).join := by cases l.lookup w <;> rfl
  rw [e]
  exact okv_look g.lk w
theorem for_keysL {d : Addr} {o : Obj} {kvs : List (Key × V)} {g : TG} {tb : TS} {D : Ends} {σ : St'} {H : Hp} (Pv : Nat → St' → Hp → Prop) (h0 : Pv 0 σ H) (hl : ∀ i σ H, Pv i σ H → H d = some (.frz o (.dK kvs)))
    (hs : ∀ i kv σ H, kvs[i]? = some kv → Pv i σ H → g (kV kv.1) σ H fun σ2 H2 => tb { D with nx := Pv (i + 1), ct := Pv (i + 1), bk := D.nx } σ2 H2) (hd : ∀ σ H, Pv kvs.length σ H → D.nx σ H) :
    ∃ W : Nat → Nat → St' → Hp → Prop, (∃ m, W 0 m σ H) ∧ ∀ i m σ H, W i m σ H →
      ((Itk d o kvs).stop i H ∧ D.nx σ H) ∨ ((Itk d o kvs).go i H ∧ ∃ N : St' → Hp → Prop, (∀ σ' H', N σ' H' → ∃ m', m' < m ∧ W (i + 1) m' σ' H') ∧ ∀ x H', (Itk d o kvs).yld i H x H' → g x σ H' fun σ2 H2 => tb { D with nx := N, ct := N, bk := D.nx } σ2 H2) := by
  refine ⟨fun i m σ H => m = kvs.length - i ∧ i ≤ kvs.length ∧ Pv i σ H, ⟨kvs.length, by simp, Nat.zero_le _, h0⟩, ?_⟩
  rintro i m σ H ⟨rfl, hi, p⟩
  have q := hl i σ H p
  by_cases hlt : i < kvs.length
  · refine .inr ⟨⟨q, hlt⟩, Pv (i + 1), fun σ' H' p' => ⟨kvs.length - (i + 1), by omega, rfl, hlt, p'⟩, fun x H' hy => ?_⟩
    obtain ⟨rfl, k, v, hk, rfl⟩ := hy
    exact hs i (k, v) σ _ hk p
  · have e : i = kvs.length := by omega
    subst e
    exact .inl ⟨⟨q, Nat.le_refl _⟩, hd σ H p⟩
end TW
set_option Elab.async false
set_option linter.all false
set_option maxRecDepth 100000
namespace TW
open PySem PySem.Spec PyProof.Rows L2 TL LamX NdefX LamQ
def spLaw (K : PySem.W.Frag) (Pt : Addr) : Sp := fun vs H Q _ => ∃ (a : Addr) (ns : List Int), vs = [.ref a] ∧ Tabs (TB1 Pt) H ∧ SqL K H a (ns.map V.int) ∧ ns.length ≤ 63 ∧ ∀ H', Q (.bl true) H'
abbrev S_law : Stmt := topS 79
abbrev N_law : List Str := ["_law_script", "_law_pool", "_law_words_here", "_law_fields", "_law_inputs", "_law_stranger", "_law_count", "_law_objects_here", "_law_names_here", "_law_held", "_law_word_here", "_law_name", "_law_rows", "_law_made", "_law_k", "_law_kind", "_law_x", "_law_y", "_law_program", "_law_run"]
abbrev P_law : List Str := ["_law_script"]
theorem sc_law : FnScope N_law P_law (defScope S_law) := ⟨rfl, rfl, rfl, by decide +kernel, rfl, by decide +kernel, by decide +kernel⟩
section
variable {P : Program} {w : World} {K : PySem.W.Frag} {mg : Str → Option Value} {base : Heap}
set_option maxHeartbeats 16000000 in
theorem ok_law {f fD fPi fW fWs fO fN fX fRf fP fH fR fV fE fMd fLk fRc CP CH CE CR CW CM Pt TE0 : Addr} {fd fdD fdPi fdW fdWs fdO fdN fdX fdRf fdP fdH fdR fdV fdE fdMd fdLk fdRc : FuncData} {ds0 : List Value} (F : Fun K "law" "law" S_law f fd) (B : Bl mg) (TP : HCP K mg CP) (TH : HC K mg CH) (TR : HCR K mg CR)
    (d_law_draw : Df K mg "_law_draw" S_law_draw fD fdD P_law_draw) (G_law_draw : FnOk P w K mg base CX0 1 fD fdD P_law_draw spDraw)
    (d_law_pick : Df K mg "_law_pick" S_law_pick fPi fdPi P_law_pick) (G_law_pick : FnOk P w K mg base CX0 2 fPi fdPi P_law_pick spPick)
    (d_law_word : Df K mg "_law_word" S_law_word fW fdW P_law_word) (G_law_word : FnOk P w K mg base CX0 2 fW fdW P_law_word spWord)
    (d_law_words : Df K mg "_law_words" S_law_words fWs fdWs P_law_words) (G_law_words : FnOk P w K mg base CX0 3 fWs fdWs P_law_words spWords)
    (d_law_objects : Df K mg "_law_objects" S_law_objects fO fdO P_law_objects) (G_law_objects : FnOk P w K mg base CX0 3 fO fdO P_law_objects spObjects)
    (d_law_names : Df K mg "_law_names" S_law_names fN fdN P_law_names) (G_law_names : FnOk P w K mg base CX0 2 fN fdN P_law_names spNames)
    (d_law_exact : Df K mg "_law_exact" S_law_exact fX fdX P_law_exact) (G_law_exact : FnG P w K mg base CX0 1 fX fdX P_law_exact (spExact K))
    (d_law_refusals : Df K mg "_law_refusals" S_law_refusals fRf fdRf P_law_refusals) (G_law_refusals : FnOk P w K mg base CX0 14 fRf fdRf P_law_refusals (spRefs K CP CR CW CM))
    (M_prog : Mk K CP fP) (G_progi : FnOk P w K mg base CX0 10 fP fdP P_Program___init__ (spProgI K CP)) (b_progi : Binds K fdP P_Program___init__ ds0) (hdv : Vals [.ref TE0] ds0) (wE : ∀ H, SqT K H TE0 [])
    (M_heap : Mk K CH fH) (G_heap : FnOk P w K mg base CX0 6 fH fdH P_Heap___init__ (spInit K CH Pt)) (b_heap : Binds K fdH P_Heap___init__ [])
    (M_run : Mk K CR fR) (G_run : FnOk P w K mg base (L2.CX P w) 11 fR fdR P_Run___init__ (spRunI K CP CH CE CR CW CM)) (b_run : Binds K fdR P_Run___init__ [])
    (M_rvalue : Meth K CR "value" fV) (G_rvalue : FnOk P w K mg base (L2.CX P w) 2 fV fdV P_Run_value (spRValue K CR CW CM CE)) (b_rvalue : Binds K fdV P_Run_value [])
    (M_rend : Meth K CR "end" fE) (G_rend : FnOk P w K mg base CX0 1 fE fdE P_Run_end (spREnd CR CW CM)) (b_rend : Binds K fdE P_Run_end [])
    (M_rmade : Meth K CR "made" fMd) (G_rmade : FnOk P w K mg base CX0 2 fMd fdMd P_Run_made (spRMade CR CW CM)) (b_rmade : Binds K fdMd P_Run_made [])
    (M_rlooks : Meth K CR "looks" fLk) (G_rlooks : FnOk P w K mg base CX0 2 fLk fdLk P_Run_looks (spRList CR CW CM)) (b_rlooks : Binds K fdLk P_Run_looks [])
    (M_rreached : Meth K CR "reached" fRc) (G_rreached : FnOk P w K mg base CX0 3 fRc fdRc P_Run_reached (spRList CR CW CM)) (b_rreached : Binds K fdRc P_Run_reached []) : FnG P w K mg base CX0 15 f fd P_law (spLaw K Pt) := by
  refine F.still sc_law (fun vs H Q E h => ?_) (fun cdv A outer s H vs Q E hg hr h => ?_)
  · obtain ⟨a, ns, rfl, _⟩ := h
    rfl
  · obtain ⟨a, ns, rfl, hTb, hS, hl, k⟩ := h
    have hr_law_draw : Room 1 _ := hr.mono (by decide)
    have hr_law_pick : Room 2 _ := hr.mono (by decide)
    have hr_law_word : Room 2 _ := hr.mono (by decide)
    have hr_law_words : Room 3 _ := hr.mono (by decide)
    have hr_law_objects : Room 3 _ := hr.mono (by decide)
    have hr_law_names : Room 2 _ := hr.mono (by decide)
    have hr_law_exact : Room 1 _ := hr.mono (by decide)
    have hr_law_refusals : Room 14 _ := hr
    have hr_progi : Room 11 _ := hr.mono (by decide)
    have hr_heap : Room 7 _ := hr.mono (by decide)
    have hr_run : Room 12 _ := hr.mono (by decide)
    have hr_rvalue : Room 2 _ := hr.mono (by decide)
    have hr_rend : Room 1 _ := hr.mono (by decide)
    have hr_rmade : Room 2 _ := hr.mono (by decide)
    have hr_rlooks : Room 2 _ := hr.mono (by decide)
    have hr_rreached : Room 3 _ := hr.mono (by decide)
    have hu := hu_of hr
    refine ⟨_, (pss_cons (ps_set (i := 1) sc_law.nd rfl (by first | exact Or.inl rfl | exact Or.inr rfl) (pe_lst (pa_cons (pe_callTy call_list_of (by rfl) B.m_list (by decide +kernel) (pa_cons (pe_slice sl_list (pv 0) po_none (po_some pe_int)) pa_nil)) (pa_cons pe_int (pa_cons pe_int pa_nil)))))
 (pss_cons (ps_set (i := 2) sc_law.nd rfl (by first | exact Or.inl rfl | exact Or.inr rfl) (pe_call G_law_words hr_law_words rfl d_law_words.g d_law_words.F.kp d_law_words.b .nil pass0 (pa_cons (pv 1) (pa_cons pe_int (pa_cons pe_int pa_nil)))))
 (pss_cons (ps_set (i := 3) sc_law.nd rfl (by first | exact Or.inl rfl | exact Or.inr rfl) (pe_call G_law_words hr_law_words rfl d_law_words.g d_law_words.F.kp d_law_words.b .nil pass0 (pa_cons (pv 1) (pa_cons pe_int (pa_cons pe_int pa_nil)))))
 (pss_cons (ps_set (i := 4) sc_law.nd rfl (by first | exact Or.inl rfl | exact Or.inr rfl) (pe_slice sl_list (pv 2) po_none (po_some (pe_op op_add pe_int (pe_call G_law_draw hr_law_draw rfl d_law_draw.g d_law_draw.F.kp d_law_draw.b .nil pass0 (pa_cons (pv 1) (pa_cons pe_int pa_nil)))))))
 (pss_cons (ps_set (i := 5) sc_law.nd rfl (by first | exact Or.inl rfl | exact Or.inr rfl) (pe_call G_law_word hr_law_word rfl d_law_word.g d_law_word.F.kp d_law_word.b .nil pass0 (pa_cons (pv 1) (pa_cons (pv 2) pa_nil))))
 (pss_cons (ps_set (i := 6) sc_law.nd rfl (by first | exact Or.inl rfl | exact Or.inr rfl) (pe_call G_law_draw hr_law_draw rfl d_law_draw.g d_law_draw.F.kp d_law_draw.b .nil pass0 (pa_cons (pv 1) (pa_cons pe_int pa_nil))))
 (pss_cons (ps_set (i := 7) sc_law.nd rfl (by first | exact Or.inl rfl | exact Or.inr rfl) (pe_call G_law_objects hr_law_objects rfl d_law_objects.g d_law_objects.F.kp d_law_objects.b .nil pass0 (pa_cons (pv 1) (pa_cons (pv 3) (pa_cons (pv 6) pa_nil)))))
 (pss_cons (ps_cut (ps_set (i := 8) sc_law.nd rfl (by first | exact Or.inl rfl | exact Or.inr rfl) (pe_call G_law_names hr_law_names rfl d_law_names.g d_law_names.F.kp d_law_names.b .nil pass0 (pa_cons (pv 1) (pa_cons (pv 4) (pa_cons (pv 6) pa_nil))))))
 (pss_cons (ps_set (i := 9) sc_law.nd rfl (by first | exact Or.inl rfl | exact Or.inr rfl) pe_dnewK)
 (pss_cons (ps_cut (ps_for PassesOwn.never rfl (pi_list (pe_op op_cat (pv 2) (pe_lst (pa_cons (pv 5) pa_nil)))) (pg_name (i := 10) sc_law.nd rfl (by first | exact Or.inl rfl | exact Or.inr rfl)) (pss_one (ps_dput hu (pv 9) (pv 10) (pe_tup (pa_cons pe_str pa_nil)) rfl))))
 (pss_cons (ps_cut (ps_for PassesOwn.never rfl (pi_list (pv 4)) (pg_name (i := 11) sc_law.nd rfl (by first | exact Or.inl rfl | exact Or.inr rfl)) (pss_one (ps_if (pt_cmpR op_notN (pe_dget hu (pv 8) (pv 11) (fun _ _ => rfl)) pe_non (nomark _)) (pss_one (ps_dput hu (pv 9) (pv 11) (pe_tup (pa_cons pe_str (pa_cons (pe_dget hu (pv 8) (pv 11) (fun _ _ => rfl)) pa_nil))) rfl)) pss_nil))))
 (pss_cons (ps_set (i := 12) sc_law.nd rfl (by first | exact Or.inl rfl | exact Or.inr rfl) (pe_lst pa_nil))
 (pss_cons (ps_set (i := 13) sc_law.nd rfl (by first | exact Or.inl rfl | exact Or.inr rfl) pe_int)
 (pss_cons (ps_cut (ps_for PassesOwn.never rfl (pi_range1 (by rfl) B.m_range (pa_cons (pe_callB call_len_seq (by rfl) B.m_len PySem.boot_len (pa_cons (pe_slice sl_list (pv 0) po_none (po_some pe_int)) pa_nil)) pa_nil)) (pg_name (i := 14) sc_law.nd rfl (by first | exact Or.inl rfl | exact Or.inr rfl)) (pss_cons (ps_set (i := 15) sc_law.nd rfl (by first | exact Or.inl rfl | exact Or.inr rfl) (pe_call G_law_draw hr_law_draw rfl d_law_draw.g d_law_draw.F.kp d_law_draw.b .nil pass0 (pa_cons (pv 1) (pa_cons pe_int pa_nil))))
 (pss_cons (ps_set (i := 16) sc_law.nd rfl (by first | exact Or.inl rfl | exact Or.inr rfl) (pe_call G_law_pick hr_law_pick rfl d_law_pick.g d_law_pick.F.kp d_law_pick.b .nil pass0 (pa_cons (pv 1) (pa_cons (pv 2) pa_nil))))
 (pss_cons (ps_set (i := 17) sc_law.nd rfl (by first | exact Or.inl rfl | exact Or.inr rfl) (pe_call G_law_pick hr_law_pick rfl d_law_pick.g d_law_pick.F.kp d_law_pick.b .nil pass0 (pa_cons (pv 1) (pa_cons (pv 2) pa_nil))))
 (pss_cons (ps_if (pt_cmpR op_lt (pv 15) pe_int (nomark _)) (pss_cons (ps_expr (pe_bm PySem.F.plainAttrs_list PySem.F.slot_list_append PySem.F.type_list_append mt_append (pv 12) (pa_cons (pe_tup (pa_cons pe_str (pa_cons (pv 16) (pa_cons (pv 17) pa_nil)))) pa_nil)))
 (pss_one (ps_dput hu (pv 9) (pv 16) (pe_dget hu (pv 9) (pv 17) (fun _ _ => rfl)) rfl))) pss_nil)
 (pss_cons (ps_if (pt_cmpR op_eq (pv 15) pe_int (nomark _)) (pss_cons (ps_expr (pe_bm PySem.F.plainAttrs_list PySem.F.slot_list_append PySem.F.type_list_append mt_append (pv 12) (pa_cons (pe_tup (pa_cons pe_str (pa_cons (pv 16) pa_nil))) pa_nil)))
 (pss_one (ps_dput hu (pv 9) (pv 16) (pe_tup (pa_cons pe_str pa_nil)) rfl))) pss_nil)
 (pss_one (ps_if (pt_cmpR op_eq (pv 15) pe_int (nomark _)) (pss_cons (ps_expr (pe_bm PySem.F.plainAttrs_list PySem.F.slot_list_append PySem.F.type_list_append mt_append (pv 12) (pa_cons (pe_tup (pa_cons pe_str (pa_cons (pv 16) pa_nil))) pa_nil)))
 (pss_cons (ps_dput hu (pv 9) (pv 16) (pe_tup (pa_cons pe_str (pa_cons (pv 13) (pa_cons pe_bl pa_nil)))) rfl)
 (pss_one (ps_set (i := 13) sc_law.nd rfl (by first | exact Or.inl rfl | exact Or.inr rfl) (pe_op op_add (pv 13) pe_int))))) pss_nil)))))))))
 (pss_cons (ps_cut (ps_set (i := 18) sc_law.nd rfl (by first | exact Or.inl rfl | exact Or.inr rfl) (pe_make M_prog G_progi hr_progi rfl TP.g b_progi hdv pass0 (pa_cons (pv 4) (pa_cons (pv 3) (pa_cons (pv 12) pa_nil))))))
 (pss_cons (ps_cut (ps_set (i := 19) sc_law.nd rfl (by first | exact Or.inl rfl | exact Or.inr rfl) (pe_make M_run G_run hr_run rfl TR.g b_run .nil passL (pa_cons (pv 18) (pa_cons (pe_make M_heap G_heap hr_heap rfl TH.g b_heap .nil pass0 (pa_cons (pv 3) (pa_cons (pv 7) (pa_cons (pv 8) pa_nil)))) pa_nil)))))
 (pss_cons (ps_cut (ps_lock (ps_for PassesOwn.never rfl (pi_keys (pv 9)) (pg_name (i := 10) sc_law.nd rfl (by first | exact Or.inl rfl | exact Or.inr rfl)) (pss_one (ps_if (pt_not (pt_val (pe_callG G_law_exact hg hr_law_exact rfl d_law_exact.g d_law_exact.F.kp d_law_exact.b .nil pass0 (pa_cons (pe_meth (pv 19) TR.cl M_rvalue G_rvalue hr_rvalue b_rvalue .nil passL (pa_cons (pv 10) pa_nil)) (pa_cons (pe_dget hu (pv 9) (pv 10) (fun _ _ => rfl)) pa_nil))))) (pss_one (ps_ret pe_bl)) pss_nil)))))
 (pss_cons (ps_cut (ps_if (pt_not (pt_val (pe_call G_law_refusals hr_law_refusals rfl d_law_refusals.g d_law_refusals.F.kp d_law_refusals.b .nil pass0 (pa_cons (pv 18) (pa_cons (pv 19) (pa_cons (pv 7) (pa_cons (pv 8) pa_nil))))))) (pss_one (ps_ret pe_bl)) pss_nil))
 (pss_one (ps_ret (pe_callG G_law_exact hg hr_law_exact rfl d_law_exact.g d_law_exact.F.kp d_law_exact.b .nil pass0 (pa_cons (pe_lst (pa_cons (pe_meth0 (pv 19) TR.cl M_rend G_rend hr_rend b_rend .nil pass0) (pa_cons (pe_meth0 (pv 19) TR.cl M_rmade G_rmade hr_rmade b_rmade .nil pass0) (pa_cons (pe_meth0 (pv 19) TR.cl M_rlooks G_rlooks hr_rlooks b_rlooks .nil pass0) (pa_cons (pe_meth0 (pv 19) TR.cl M_rreached G_rreached hr_rreached b_rreached .nil pass0) pa_nil))))) (pa_cons (pe_lst (pa_cons (pe_tup (pa_cons pe_str (pa_cons pe_non pa_nil))) (pa_cons (pv 13) (pa_cons (pe_lst pa_nil) (pa_cons (pe_lst pa_nil) pa_nil))))) pa_nil))))))))))))))))))))))), ?_⟩
    obtain ⟨ms, hms, lms⟩ := cut_ints ns none (some 63)
    refine ⟨_, rfl, _, rfl, a, _, rfl, hS, fun q1 hq1 => ?_⟩
    rw [hms]
    refine ⟨q1, _, rfl, .inl (SqL.of upd_same), fun c hc => ⟨by show 3 ≤ sizeLine; decide, fun p hp => ?_⟩⟩
    let H0 : Hp := upd (upd (upd H q1 (.lst (ms.map V.int))) c (.lst (ms.map V.int))) p (.lst [.ref c, .int 0, .int 0])
    have cp : c ≠ p := ne_of_none upd_same hp
    have P0 : Pool p c H0 := ⟨cp.symm, ms, 0, 0, upd_same, (upd_ne cp).trans upd_same, by omega⟩
    have sH0 : Same H H0 := ((same_new hq1).trans (same_new hc)).trans (same_new hp)
    have hT0 : Tabs (TB1 Pt) H0 := Tabs.ext hTb sH0
    have hS0 : ScA K H0 a p c ns := ScA.of hS sH0 fun o e => ⟨ne_of_none (((same_new hq1).trans (same_new hc)) _ _ e) hp, ne_of_none (same_new hq1 _ _ e) hc⟩
    -- words
    refine ⟨_, rfl, p, c, 1, 6, rfl, P0, by decide, by decide, fun aW ws H2 nW hW wl1 wl2 wnd ww P2 f2 => ?_⟩
    obtain ⟨Wp, Wc⟩ := P0.np nW
    refine ⟨_, rfl, p, c, 1, 2, rfl, P2, by decide, by decide, fun aF fs H3 nF hF3 fl1 fl2 fnd fw P3 f3 => ?_⟩
    obtain ⟨Fp, Fc⟩ := P2.np nF
    have hW3 := f3 _ _ Wp Wc hW
    refine ⟨_, rfl, _, rfl, p, c, _, rfl, P3, by decide, by decide, fun j H4 j0 j1 P4 f4 => ?_⟩
    have hW4 := f4 _ _ Wp Wc hW3
    refine ⟨_, _, rfl, rfl, _, rfl, aW, _, rfl, SqL.of hW4, fun aI nI => ?_⟩
    obtain ⟨ji, rfl⟩ : ∃ n : Nat, j = (n : Int) := ⟨j.toNat, by omega⟩
    have ej : (1 : Int) + (ji : Int) = ((1 + ji : Nat) : Int) := by omega
    obtain ⟨is, ei, iw, inN, i1, i3, isub⟩ : ∃ is : List Str, cutV (ws.map V.str) none (some ((1 : Int) + (ji : Int))) = is.map V.str ∧ (∀ x ∈ is, IsW x) ∧ is.Nodup ∧ 1 ≤ is.length ∧ is.length ≤ 3 ∧ ∀ x ∈ is, x ∈ ws := by
      rw [ej]
      by_cases g : 1 + ji ≤ ws.length
      · refine ⟨ws.take (1 + ji), ?_, fun x m => ww x (List.mem_of_mem_take m), wnd.sublist (List.take_sublist _ _), ?_, ?_, fun x m => List.mem_of_mem_take m⟩
        · rw [cutV_to (by rw [List.length_map]; exact g), List.map_take]
        · rw [List.length_take]; omega
        · rw [List.length_take]; omega
      · refine ⟨ws, ?_, ww, wnd, wl1, by omega, fun x m => m⟩
        unfold cutV
        have e0 : HT.sIx (ws.map V.str).length 0 none = 0 := rfl
        have e1 : HT.sIx (ws.map V.str).length (ws.map V.str).length (some ((1 + ji : Nat) : Int)) = ws.length := by
          show (if (((1 + ji : Nat) : Int)) < 0 then ((((1 + ji : Nat) : Int)) + ((ws.map V.str).length : Int)).toNat else min (((1 + ji : Nat) : Int)).toNat (ws.map V.str).length) = _
          rw [if_neg (by omega), List.length_map]
          omega
        rw [e0, e1, List.drop_zero, Nat.sub_zero, List.take_of_length_le (by rw [List.length_map]; omega)]
    rw [ei]
    have sI := same_new (o := .lst (is.map V.str)) nI
    have P5 := P4.same sI
    have hW5 := sI _ _ hW4
    have hF5 := sI _ _ (f4 _ _ Fp Fc hF3)
    have hI5 : (upd H4 aI (.lst (is.map V.str))) aI = some (.lst (is.map V.str)) := upd_same
    obtain ⟨Ip, Ic⟩ := P4.np nI
    have T5 := Tabs.ext (TW.Tabs.fr (TW.Tabs.fr (TW.Tabs.fr hT0 P0 f2) P2 f3) P3 f4) sI
    have S5 := (((hS0.fr f2).fr f3).fr f4).same sI
    obtain ⟨H5, e5⟩ : ∃ H5 : Hp, H5 = upd H4 aI (.lst (is.map V.str)) := ⟨_, rfl⟩
    rw [← e5] at P5 hW5 hF5 hI5 T5 S5 ⊢
    clear e5 sI
    -- stranger, count, objects
    refine ⟨_, rfl, _, rfl, p, c, aW, ws, rfl, P5, ⟨Wp, Wc, .inl hW5⟩, fun st H6 sw sn P6 f6 => ?_⟩
    have sn' : st ∉ ws := sn (by omega)
    refine ⟨_, rfl, p, c, _, rfl, P6, by decide, by decide, fun cn H7 c0 c1 P7 f7 => ?_⟩
    obtain ⟨n, rfl⟩ : ∃ n : Nat, cn = (n : Int) := ⟨cn.toNat, by omega⟩
    have hn : n ≤ 11 := by omega
    have hF7 := f7 _ _ Fp Fc (f6 _ _ Fp Fc hF5)
    refine ⟨_, rfl, _, rfl, _, rfl, p, c, aF, fs, n, rfl, P7, ⟨Fp, Fc⟩, hF7, fnd, by omega, by omega, fun aO ds os H8 nO nds lo O8 P8 f8 => ?_⟩
    obtain ⟨Op, Oc⟩ := P7.np nO
    have oD : Off p c ds := fun d hd => P7.np (nds d hd).1
    have hI8 := f8 _ _ Ip Ic (f7 _ _ Ip Ic (f6 _ _ Ip Ic hI5))
    have hW8 := f8 _ _ Wp Wc (f7 _ _ Wp Wc (f6 _ _ Wp Wc hW5))
    have hF8 := f8 _ _ Fp Fc hF7
    have T8 := TW.Tabs.fr (TW.Tabs.fr (TW.Tabs.fr T5 P5 f6) P6 f7) P7 f8
    have S8 := ((S5.fr f6).fr f7).fr f8
    subst lo
    -- names
    refine ⟨fun σ G => ∃ (aN : Addr) (l : Ob), σ = [some (.ref a), some (.ref p), some (.ref aW), some (.ref aF), some (.ref aI), some (.str st), some (.int (os.length : Int)), some (.ref aO), some (.ref aN), none, none, none, none, none, none, none, none, none, none, none] ∧ S14 ws fs is st os l ∧ B14 Pt a p c aW aF aI aO aN ns ws fs is ds os l K G, ?_, ?_⟩
    · refine ⟨_, rfl, _, rfl, _, rfl, p, c, aI, is, os.length, rfl, P8, ⟨Ip, Ic⟩, hI8, inN, by omega, by omega, fun aN l H9 nN hN9 lw lk P9 f9 => ?_⟩
      obtain ⟨Np, Nc⟩ := P8.np nN
      have O9 := O8.fr ⟨Op, Oc⟩ oD f9
      have ll : l.length = is.length := by rw [← lw, List.length_map]
      have G : Good fs os l := ⟨fw, fnd, fl1, fl2, by omega, O9.ks, O9.ok, by rw [lw]; exact iw, by rw [lw]; exact inN, by omega, lk⟩
      exact ⟨aN, l, rfl, ⟨wnd, ww, wl1, wl2, isub, inN, i1, i3, sw, sn', G, lw, hn⟩, ⟨P9, TW.Tabs.fr T8 P8 f9, f9 _ _ Wp Wc hW8, f9 _ _ Fp Fc hF8, f9 _ _ Ip Ic hI8, O9, hN9, ⟨Wp, Wc⟩, ⟨Fp, Fc⟩, ⟨Ip, Ic⟩, ⟨Op, Oc⟩, ⟨Np, Nc⟩, oD, S8.fr f9⟩⟩
    clear O8 P8 S8 T8 hF8 hW8 hI8 hF7
    rintro σ G9 ⟨aN, l, rfl, S, BB⟩
    have wk : ∀ x ∈ ws ++ [st], IsW x := fun x m => (List.mem_append.mp m).elim (S.ww x) fun z => by rw [List.mem_singleton.mp z]; exact S.sw
    have kn : (ws ++ [st]).Nodup := List.nodup_append.mpr ⟨S.wn, List.nodup_cons.mpr ⟨(fun z => nomatch z), List.nodup_nil⟩, fun x hx y hy z => S.sn (by rw [List.mem_singleton.mp hy] at z; rw [← z]; exact hx)⟩
    have kl : (ws ++ [st]).length ≤ 7 := by rw [List.length_append, List.length_singleton]; have := S.w6; omega
    have iwk : ∀ x ∈ is, x ∈ ws ++ [st] := fun x m => List.mem_append_left _ (S.iw x m)
    -- held
    refine fun aH nH => ?_
    refine ⟨fun σ G => ∃ (z10 : Option V) (ad : Str → Addr), σ = [some (.ref a), some (.ref p), some (.ref aW), some (.ref aF), some (.ref aI), some (.str st), some (.int (os.length : Int)), some (.ref aO), some (.ref aN), some (.ref aH), z10, none, none, none, none, none, none, none, none, none] ∧ B14 Pt a p c aW aF aI aO aN ns ws fs is ds os l K G ∧ HK G aH p c aN ds os.length (ws ++ [st]) ad (fun _ => none), ?_, ?_⟩
    · have B9 := BB.same (same_new (o := .dK []) nH)
      have nds : aH ∉ ds := fun m => by
        obtain ⟨i, hi, e⟩ := List.getElem_of_mem m
        have hi2 : i < os.length := by rw [← BB.O.len]; exact hi
        have := BB.O.at' i ds[i] os[i] (List.getElem?_eq_getElem hi) (List.getElem?_eq_getElem hi2)
        rw [e, nH] at this
        cases this
      have hk0 : HK (upd G9 aH (.dK [])) aH p c aN ds os.length [] (fun _ => 0) (fun _ => none) := ⟨upd_same, BB.P.np nH, ne_of_none BB.N nH, nds, fun w m => nomatch m⟩
      refine ⟨_, rfl, _, rfl, by show 1 ≤ sizeLine; decide, fun q nq => ?_⟩
      have sq := same_new (o := .lst [V.str st]) nq
      refine ⟨aW, q, _, _, rfl, rfl, sq _ _ B9.W, upd_same, small1000 (by rw [List.length_map]; have := S.w6; show ws.length ≤ 1000; omega), fun q2 nq2 => ?_⟩
      have ecat : ws.map V.str ++ [V.str st] = (ws ++ [st]).map V.str := by rw [List.map_append]; rfl
      rw [ecat]
      have sq2 := sq.trans (same_new (o := .lst ((ws ++ [st]).map V.str)) nq2)
      refine ⟨q2, rfl, ⟨_, SqL.of upd_same⟩, for_list (xs := (ws ++ [st]).map V.str) (fun i σ G => ∃ (z10 : Option V) (ad : Str → Addr), σ = [some (.ref a), some (.ref p), some (.ref aW), some (.ref aF), some (.ref aI), some (.str st), some (.int (os.length : Int)), some (.ref aO), some (.ref aN), some (.ref aH), z10, none, none, none, none, none, none, none, none, none] ∧ B14 Pt a p c aW aF aI aO aN ns ws fs is ds os l K G ∧ HK G aH p c aN ds os.length ((ws ++ [st]).take i) ad (fun _ => none) ∧ G q2 = some (.lst ((ws ++ [st]).map V.str))) ?_ ?_ ?_ ?_⟩
      · exact ⟨_, _, rfl, B9.same sq2, hk0.same sq2, upd_same⟩
      · rintro i σ G hi ⟨z10, ad, rfl, b, hk, hq2⟩
        exact SqL.of hq2
      · rintro i x σ G hx ⟨z10, ad, rfl, b, hk, hq2⟩
        obtain ⟨z, hz, rfl⟩ := get_str hx
        have fresh : z ∉ (ws ++ [st]).take i := nodup_fresh kn hz
        refine ⟨by show 1 ≤ sizeLine; decide, fun t nt => ?_⟩
        have st1 := same_new (o := .tup [V.str "none"]) nt
        have hk1 := hk.same st1
        have b1 := b.same st1
        refine ⟨_, rfl, _, rfl, aH, _, rfl, DPut.k (k := (Sum.inr z : Key)) (v := V.ref t) hk1.h (hk1.len (by rw [List.length_take]; omega)), ?_⟩
        have hk2 := hk1.add (x := z) (t := t) (u := none) upd_same fresh
        rw [← take_next hz] at hk2
        have hk3 := hk2.eqf (g := fun _ => none) fun w _ => by
          show (if w = z then none else none) = none
          split <;> rfl
        have nq2 : q2 ≠ aH := fun e => by
          have := st1 _ _ hq2
          rw [e, hk1.h] at this
          cases this
        exact ⟨_, _, rfl, b1.put hk1 _, hk3, (upd_ne nq2).trans (st1 _ _ hq2)⟩
      · rintro σ G ⟨z10, ad, rfl, b, hk, hq2⟩
        rw [List.length_map, List.take_length] at hk
        exact ⟨_, _, rfl, b, hk⟩
    clear nH BB
    rintro σ G ⟨z10, ad0, rfl, BB, hk0⟩
    have ind : ∀ {w : Str}, w ∉ is → l.lookup w = none := fun {w} h => lookup_none (by rw [S.li]; exact h)
    -- the inputs
    refine ⟨fun σ G => ∃ (z10 z11 : Option V) (ad : Str → Addr), σ = [some (.ref a), some (.ref p), some (.ref aW), some (.ref aF), some (.ref aI), some (.str st), some (.int (os.length : Int)), some (.ref aO), some (.ref aN), some (.ref aH), z10, z11, none, none, none, none, none, none, none, none] ∧ B14 Pt a p c aW aF aI aO aN ns ws fs is ds os l K G ∧ HK G aH p c aN ds os.length (ws ++ [st]) ad (cur (l, 0)), ?_, ?_⟩
    · refine ⟨_, rfl, aI, rfl, ⟨_, SqL.of BB.I⟩, for_list (xs := is.map V.str) (fun i σ G => ∃ (z11 : Option V) (ad : Str → Addr), σ = [some (.ref a), some (.ref p), some (.ref aW), some (.ref aF), some (.ref aI), some (.str st), some (.int (os.length : Int)), some (.ref aO), some (.ref aN), some (.ref aH), z10, z11, none, none, none, none, none, none, none, none] ∧ B14 Pt a p c aW aF aI aO aN ns ws fs is ds os l K G ∧ HK G aH p c aN ds os.length (ws ++ [st]) ad (fun w => if w ∈ is.take i then cur (l, 0) w else none)) ?_ ?_ ?_ ?_⟩
      · exact ⟨_, _, rfl, BB, hk0⟩
      · rintro i σ G hi ⟨z11, ad, rfl, b, hk⟩
        exact SqL.of b.I
      · rintro i x σ G hx ⟨z11, ad, rfl, b, hk⟩
        obtain ⟨z, hz, rfl⟩ := get_str hx
        have zi : z ∈ is := List.mem_of_getElem? hz
        have dg := dget_dk (k := (Sum.inr z : Key)) b.N (nmv_val (l := l) (by rw [S.li]; exact zi))
        have ec : nmv l z = cur (l, 0) z := by
          show (l.lookup z).join = (l.lookup z).getD none
          cases l.lookup z <;> rfl
        rw [ec] at dg
        have okc : okv os.length (cur (l, 0) z) := by
          rw [← ec]
          exact okv_look S.g.lk z
        have memT : ∀ w, (w ∈ is.take (i + 1)) ↔ (w ∈ is.take i ∨ w = z) := fun w => by
          rw [take_next hz, List.mem_append, List.mem_singleton]
        refine ⟨_, rfl, _, rfl, aN, _, rfl, dg, rfl, _, rfl, ite_dec (fun hb => ?_) (fun hb => ?_)⟩
        · obtain ⟨n, en⟩ : ∃ n, cur (l, 0) z = some n := by
            cases h : cur (l, 0) z with
            | none => rw [h] at hb; simp [hv] at hb
            | some n => exact ⟨n, rfl⟩
          rw [en] at dg okc
          refine ⟨_, rfl, _, rfl, aN, _, rfl, dg, by show 2 ≤ sizeLine; decide, fun t nt => ?_⟩
          have st1 := same_new (o := .tup [V.str "start", hv (some n)]) nt
          have hk1 := hk.same st1
          have b1 := b.same st1
          refine ⟨_, rfl, _, rfl, aH, _, rfl, DPut.k (k := (Sum.inr z : Key)) (v := V.ref t) hk1.h (hk1.len (by omega)), ?_⟩
          have ht : (upd G t (.tup [V.str "start", hv (some n)])) t = some (.tup (valT os.length (some n))) := by
            rw [upd_same]
            show some (HO.tup [V.str "start", V.int (n : Int)]) = some (HO.tup (if n < os.length then [.str "start", .int (n : Int)] else _))
            rw [if_pos (show n < os.length from okc)]
          have hk2 := hk1.put (x := z) (t := t) (u := some n) ht (iwk z zi)
          refine ⟨_, _, rfl, b1.put hk1 _, hk2.eqf fun w _ => ?_⟩
          by_cases e : w = z
          · rw [if_pos e, if_pos ((memT w).mpr (.inr e)), e, en]
          · rw [if_neg e]
            by_cases m : w ∈ is.take i
            · rw [if_pos m, if_pos ((memT w).mpr (.inl m))]
            · rw [if_neg m, if_neg (fun z => ((memT w).mp z).elim m e)]
        · have en : cur (l, 0) z = none := by
            cases h : cur (l, 0) z with
            | none => rfl
            | some n => rw [h] at hb; simp [hv] at hb
          refine ⟨_, _, rfl, b, hk.eqf fun w _ => ?_⟩
          by_cases m : w ∈ is.take i
          · rw [if_pos m, if_pos ((memT w).mpr (.inl m))]
          · rw [if_neg m]
            by_cases e : w = z
            · rw [if_pos ((memT w).mpr (.inr e)), e, en]
            · rw [if_neg (fun z => ((memT w).mp z).elim m e)]
      · rintro σ G ⟨z11, ad, rfl, b, hk⟩
        rw [List.length_map, List.take_length] at hk
        refine ⟨_, _, _, rfl, b, hk.eqf fun w _ => ?_⟩
        by_cases m : w ∈ is
        · rw [if_pos m]
        · rw [if_neg m]
          show none = (l.lookup w).getD none
          rw [ind m]
          rfl
    clear BB hk0
    rintro σ G ⟨z10, z11, ad1, rfl, BB, hk0⟩
    -- rows
    refine ⟨by show 0 ≤ sizeLine; decide, fun aR nR => ?_⟩
    have sR := same_new (o := .lst []) nR
    have B1 := BB.same sR
    have hk1 := hk0.same sR
    have oR := BB.P.np nR
    have RA : AR K aR a p c aW aF aI aO ns := ⟨oR, ne_of_none BB.W nR, ne_of_none BB.F nR, ne_of_none BB.I nR, ne_of_none BB.O.ls nR, BB.sc.elim (fun ⟨z, _⟩ => .inl (z.elim (fun e => ne_of_none e nR) fun ⟨o, e⟩ => ne_of_none e nR)) .inr⟩
    refine ⟨fun σ G => ∃ (z10 z11 z14 z15 z16 z17 : Option V) (ad : Str → Addr) (prs : List PRow) (rs : List Addr), σ = [some (.ref a), some (.ref p), some (.ref aW), some (.ref aF), some (.ref aI), some (.str st), some (.int (os.length : Int)), some (.ref aO), some (.ref aN), some (.ref aH), z10, z11, some (.ref aR), some (.int ((foldS os.length (l, 0) prs).2 : Int)), z14, z15, z16, z17, none, none] ∧ B14 Pt a p c aW aF aI aO aN ns ws fs is ds os l K G ∧ HK G aH p c aN ds os.length (ws ++ [st]) ad (cur (foldS os.length (l, 0) prs)) ∧ RL G aR rs prs ∧ prs.length ≤ 20 ∧ (∀ d ∈ prs, d.ws ws), ?_, ?_⟩
    · obtain ⟨ms2, hms2, l20⟩ := cut_20 ns
      refine ⟨_, rfl, _, rfl, a, _, rfl, B1.sc.sq, fun q nq => ?_⟩
      rw [hms2]
      have sQ := same_new (o := .lst (ms2.map V.int)) nq
      have l62 : (((ms2.map V.int).length : Nat) : Int) < 2 ^ 62 := by
        rw [List.length_map]
        exact Int.lt_of_le_of_lt (show (ms2.length : Int) ≤ 20 by omega) (by decide)
      have l62' : -2 ^ 62 ≤ (((ms2.map V.int).length : Nat) : Int) := Int.le_trans (by decide) (Int.natCast_nonneg _)
      have en : (((ms2.map V.int).length : Nat) : Int).toNat = ms2.length := by rw [List.length_map]; omega
      refine ⟨q, _, rfl, .inl (SqL.of upd_same), _, rfl, l62', l62, for_range (n := (((ms2.map V.int).length : Nat) : Int).toNat) (fun i σ G => ∃ (z14 z15 z16 z17 : Option V) (ad : Str → Addr) (prs : List PRow) (rs : List Addr), σ = [some (.ref a), some (.ref p), some (.ref aW), some (.ref aF), some (.ref aI), some (.str st), some (.int (os.length : Int)), some (.ref aO), some (.ref aN), some (.ref aH), z10, z11, some (.ref aR), some (.int ((foldS os.length (l, 0) prs).2 : Int)), z14, z15, z16, z17, none, none] ∧ B14 Pt a p c aW aF aI aO aN ns ws fs is ds os l K G ∧ HK G aH p c aN ds os.length (ws ++ [st]) ad (cur (foldS os.length (l, 0) prs)) ∧ RL G aR rs prs ∧ prs.length = i ∧ (∀ d ∈ prs, d.ws ws)) ?_ ?_ ?_⟩
      · exact ⟨_, _, _, _, _, [], [], rfl, B1.same sQ, hk1.same sQ, ⟨sQ _ _ upd_same, rfl, fun j r d h => nomatch h⟩, rfl, fun d m => nomatch m⟩
      · rintro i σ G hi ⟨z14, z15, z16, z17, ad, prs, rs, rfl, b, hk, rl, li, hw⟩
        have i20 : i < 20 := by omega
        refine ⟨_, rfl, p, c, _, rfl, b.P, by decide, by decide, fun r G1 r0 r1 P1 f1 => ?_⟩
        have b1 := b.fr P1 f1
        have wne : ws.map V.str ≠ [] := fun z => absurd (congrArg List.length z) (by rw [List.length_map]; show ¬ ws.length = 0; have := S.w1; omega)
        refine ⟨_, rfl, _, rfl, p, c, aW, ws.map V.str, rfl, P1, ⟨b1.oW.1, b1.oW.2, .inl b1.W⟩, wne, by rw [List.length_map]; have := S.w6; omega, fun vx ix G2 hvx P2 f2 => ?_⟩
        obtain ⟨x, hx, rfl⟩ := get_str hvx
        have b2 := b1.fr P2 f2
        refine ⟨_, rfl, _, rfl, p, c, aW, ws.map V.str, rfl, P2, ⟨b2.oW.1, b2.oW.2, .inl b2.W⟩, wne, by rw [List.length_map]; have := S.w6; omega, fun vy iy G3 hvy P3 f3 => ?_⟩
        obtain ⟨y, hy, rfl⟩ := get_str hvy
        have b3 := b2.fr P3 f3
        have xw : x ∈ ws := List.mem_of_getElem? hx
        have yw : y ∈ ws := List.mem_of_getElem? hy
        have xk := List.mem_append_left [st] xw
        have yk := List.mem_append_left [st] yw
        have hk3 := ((hk.fr b.P f1).fr P1 f2).fr P2 f3
        have tp : ∀ {H H' : Hp} {b : Addr} {us : List V}, Pool p c H → Fr p c H H' → H b = some (.tup us) → H' b = some (.tup us) := fun {H H' b us} P f e => by
          obtain ⟨xs, i, j, h1, h2, _⟩ := P.ex
          exact f _ _ (fun z => by rw [z, h1] at e; cases e) (fun z => by rw [z, h2] at e; cases e) e
        have rl3 : RL G3 aR rs prs := rl.mono (fun e => tp P2 f3 (tp P1 f2 (tp b.P f1 e))) ((f3 _ _ oR.1 oR.2 (f2 _ _ oR.1 oR.2 (f1 _ _ oR.1 oR.2 rl.h))).trans rl.h.symm)
        have ne : aR ≠ aH := fun z => by have := rl3.h; rw [z, hk3.h] at this; cases this
        have rs1000 : (rs.map V.ref).length < sizeLine := by rw [List.length_map, rl.n, li]; exact small1000 (by omega)
        clear f1 f2 f3 b b1 b2 P1 P2 rl hk
        have fold1 : ∀ d : PRow, foldS os.length (l, 0) (prs ++ [d]) = stS os.length (foldS os.length (l, 0) prs) d := fun d => by
          unfold foldS
          rw [List.foldl_append]
          rfl
        have pl1 : ∀ d : PRow, (prs ++ [d]).length = i + 1 := fun d => by rw [List.length_append, li]; rfl
        have hw1 : ∀ {d : PRow}, d.ws ws → ∀ e ∈ prs ++ [d], e.ws ws := fun {d} h e m => (List.mem_append.mp m).elim (hw e) fun z => by rw [List.mem_singleton.mp z]; exact h
        have lenK : ∀ {G : Hp} {ad : Str → Addr} {f : Str → Option Nat}, HK G aH p c aN ds os.length (ws ++ [st]) ad f → (hkv (ws ++ [st]) ad).length < sizeLine := fun h => h.len (by omega)
        have cm : ∀ d : PRow, ((foldS os.length (l, 0) (prs ++ [d])).2 : Int) = ((stS os.length (foldS os.length (l, 0) prs) d).2 : Int) := fun d => by rw [fold1]
        obtain rfl | rfl | rfl | rfl : r = 0 ∨ r = 1 ∨ r = 2 ∨ r = 3 := by omega
        · refine ⟨_, rfl, _, _, rfl, rfl, _, rfl, ?_⟩
          rw [show decide ((0 : Int) < 2) = true from rfl]
          refine iteT ?_
          refine ⟨_, rfl, .inl ⟨rfl, _, SqL.of rl3.h⟩, ?_⟩
          refine ⟨_, rfl, _, rfl, by show 3 ≤ sizeLine; decide, fun t nt => ?_⟩
          have s4 := same_new (o := .tup (PRow.move x y).vs) nt
          have rl4 := rl3.mono (fun e => s4 _ _ e) ((s4 _ _ rl3.h).trans rl3.h.symm)
          have b4 := b3.same s4
          have hk4 := hk3.same s4
          have rl5 := rl4.add (t := t) (d := .move x y) upd_same
          refine ⟨aR, rs.map V.ref, _, rfl, rfl, rl4.h, rs1000, ?_⟩
          have b5 := b4.putL RA rl4.h (rs.map V.ref ++ [.ref t])
          have hk5 := hk4.putL rl4.h (.lst (rs.map V.ref ++ [.ref t]))
          change RL (upd (upd G3 t (.tup [V.str "move", V.str x, V.str y])) aR (.lst (rs.map V.ref ++ [.ref t]))) aR (rs ++ [t]) (prs ++ [.move x y]) at rl5
          change B14 Pt a p c aW aF aI aO aN ns ws fs is ds os l K (upd (upd G3 t (.tup [V.str "move", V.str x, V.str y])) aR (.lst (rs.map V.ref ++ [.ref t]))) at b5
          change HK (upd (upd G3 t (.tup [V.str "move", V.str x, V.str y])) aR (.lst (rs.map V.ref ++ [.ref t]))) aH p c aN ds os.length (ws ++ [st]) ad (cur (foldS os.length (l, 0) prs)) at hk5
          generalize upd (upd G3 t (.tup [V.str "move", V.str x, V.str y])) aR (.lst (rs.map V.ref ++ [.ref t])) = G5 at rl5 b5 hk5 ⊢
          refine ⟨_, rfl, _, rfl, aH, _, rfl, hk5.dget yk, _, rfl, _, rfl, aH, _, rfl, DPut.k (k := (Sum.inr x : Key)) (v := V.ref (ad y)) hk5.h (lenK hk5), ?_⟩
          have hk6 := hk5.put (x := x) (t := ad y) (u := cur (foldS os.length (l, 0) prs) y) (hk5.v y yk) xk
          have b6 := b5.put hk5 (putK (hkv (ws ++ [st]) ad) (Sum.inr x : Key) (.ref (ad y)))
          have rl6 := rl5.mono (G' := upd G5 aH (.dK (putK (hkv (ws ++ [st]) ad) (Sum.inr x : Key) (.ref (ad y))))) (fun e => (upd_ne fun z => by rw [z, hk5.h] at e; cases e).trans e) (upd_ne ne)
          refine ⟨_, rfl, rfl, _, rfl, ?_⟩
          rw [show decide (V.int 0 = V.int 2) = false by decide +kernel]
          refine iteF ?_
          refine ⟨_, rfl, rfl, _, rfl, ?_⟩
          rw [show decide (V.int 0 = V.int 3) = false by decide +kernel]
          refine iteF ?_
          refine ⟨_, _, _, _, _, prs ++ [.move x y], rs ++ [t], by rw [cm]; rfl, b6, hk6.eqf fun w _ => ?_, rl6, pl1 _, hw1 (d := .move x y) ⟨xw, yw⟩⟩
          rw [fold1, cur_stS]
        · refine ⟨_, rfl, _, _, rfl, rfl, _, rfl, ?_⟩
          rw [show decide ((1 : Int) < 2) = true from rfl]
          refine iteT ?_
          refine ⟨_, rfl, .inl ⟨rfl, _, SqL.of rl3.h⟩, ?_⟩
          refine ⟨_, rfl, _, rfl, by show 3 ≤ sizeLine; decide, fun t nt => ?_⟩
          have s4 := same_new (o := .tup (PRow.move x y).vs) nt
          have rl4 := rl3.mono (fun e => s4 _ _ e) ((s4 _ _ rl3.h).trans rl3.h.symm)
          have b4 := b3.same s4
          have hk4 := hk3.same s4
          have rl5 := rl4.add (t := t) (d := .move x y) upd_same
          refine ⟨aR, rs.map V.ref, _, rfl, rfl, rl4.h, rs1000, ?_⟩
          have b5 := b4.putL RA rl4.h (rs.map V.ref ++ [.ref t])
          have hk5 := hk4.putL rl4.h (.lst (rs.map V.ref ++ [.ref t]))
          change RL (upd (upd G3 t (.tup [V.str "move", V.str x, V.str y])) aR (.lst (rs.map V.ref ++ [.ref t]))) aR (rs ++ [t]) (prs ++ [.move x y]) at rl5
          change B14 Pt a p c aW aF aI aO aN ns ws fs is ds os l K (upd (upd G3 t (.tup [V.str "move", V.str x, V.str y])) aR (.lst (rs.map V.ref ++ [.ref t]))) at b5
          change HK (upd (upd G3 t (.tup [V.str "move", V.str x, V.str y])) aR (.lst (rs.map V.ref ++ [.ref t]))) aH p c aN ds os.length (ws ++ [st]) ad (cur (foldS os.length (l, 0) prs)) at hk5
          generalize upd (upd G3 t (.tup [V.str "move", V.str x, V.str y])) aR (.lst (rs.map V.ref ++ [.ref t])) = G5 at rl5 b5 hk5 ⊢
          refine ⟨_, rfl, _, rfl, aH, _, rfl, hk5.dget yk, _, rfl, _, rfl, aH, _, rfl, DPut.k (k := (Sum.inr x : Key)) (v := V.ref (ad y)) hk5.h (lenK hk5), ?_⟩
          have hk6 := hk5.put (x := x) (t := ad y) (u := cur (foldS os.length (l, 0) prs) y) (hk5.v y yk) xk
          have b6 := b5.put hk5 (putK (hkv (ws ++ [st]) ad) (Sum.inr x : Key) (.ref (ad y)))
          have rl6 := rl5.mono (G' := upd G5 aH (.dK (putK (hkv (ws ++ [st]) ad) (Sum.inr x : Key) (.ref (ad y))))) (fun e => (upd_ne fun z => by rw [z, hk5.h] at e; cases e).trans e) (upd_ne ne)
          refine ⟨_, rfl, rfl, _, rfl, ?_⟩
          rw [show decide (V.int 1 = V.int 2) = false by decide +kernel]
          refine iteF ?_
          refine ⟨_, rfl, rfl, _, rfl, ?_⟩
          rw [show decide (V.int 1 = V.int 3) = false by decide +kernel]
          refine iteF ?_
          refine ⟨_, _, _, _, _, prs ++ [.move x y], rs ++ [t], by rw [cm]; rfl, b6, hk6.eqf fun w _ => ?_, rl6, pl1 _, hw1 (d := .move x y) ⟨xw, yw⟩⟩
          rw [fold1, cur_stS]
        · refine ⟨_, rfl, _, _, rfl, rfl, _, rfl, ?_⟩
          rw [show decide ((2 : Int) < 2) = false from rfl]
          refine iteF ?_
          refine ⟨_, rfl, rfl, _, rfl, ?_⟩
          rw [show decide (V.int 2 = V.int 2) = true by decide +kernel]
          refine iteT ?_
          refine ⟨_, rfl, .inl ⟨rfl, _, SqL.of rl3.h⟩, ?_⟩
          refine ⟨_, rfl, by show 2 ≤ sizeLine; decide, fun t nt => ?_⟩
          have s4 := same_new (o := .tup (PRow.non x).vs) nt
          have rl4 := rl3.mono (fun e => s4 _ _ e) ((s4 _ _ rl3.h).trans rl3.h.symm)
          have b4 := b3.same s4
          have hk4 := hk3.same s4
          have rl5 := rl4.add (t := t) (d := .non x) upd_same
          refine ⟨aR, rs.map V.ref, _, rfl, rfl, rl4.h, rs1000, ?_⟩
          have b5 := b4.putL RA rl4.h (rs.map V.ref ++ [.ref t])
          have hk5 := hk4.putL rl4.h (.lst (rs.map V.ref ++ [.ref t]))
          change RL (upd (upd G3 t (.tup [V.str "none", V.str x])) aR (.lst (rs.map V.ref ++ [.ref t]))) aR (rs ++ [t]) (prs ++ [.non x]) at rl5
          change B14 Pt a p c aW aF aI aO aN ns ws fs is ds os l K (upd (upd G3 t (.tup [V.str "none", V.str x])) aR (.lst (rs.map V.ref ++ [.ref t]))) at b5
          change HK (upd (upd G3 t (.tup [V.str "none", V.str x])) aR (.lst (rs.map V.ref ++ [.ref t]))) aH p c aN ds os.length (ws ++ [st]) ad (cur (foldS os.length (l, 0) prs)) at hk5
          generalize upd (upd G3 t (.tup [V.str "none", V.str x])) aR (.lst (rs.map V.ref ++ [.ref t])) = G5 at rl5 b5 hk5 ⊢
          refine ⟨by show 1 ≤ sizeLine; decide, fun t2 nt2 => ?_⟩
          have s6 := same_new (o := .tup [V.str "none"]) nt2
          have hk6 := hk5.same s6
          have b6 := b5.same s6
          have rl6 := rl5.mono (fun e => s6 _ _ e) ((s6 _ _ rl5.h).trans rl5.h.symm)
          refine ⟨_, rfl, _, rfl, aH, _, rfl, DPut.k (k := (Sum.inr x : Key)) (v := V.ref t2) hk6.h (lenK hk6), ?_⟩
          have hk7 := hk6.put (x := x) (t := t2) (u := none) upd_same xk
          have b7 := b6.put hk6 (putK (hkv (ws ++ [st]) ad) (Sum.inr x : Key) (.ref t2))
          have rl7 := rl6.mono (G' := upd (upd G5 t2 (.tup [V.str "none"])) aH (.dK (putK (hkv (ws ++ [st]) ad) (Sum.inr x : Key) (.ref t2)))) (fun e => (upd_ne fun z => by rw [z, hk6.h] at e; cases e).trans e) (upd_ne ne)
          refine ⟨_, rfl, rfl, _, rfl, ?_⟩
          rw [show decide (V.int 2 = V.int 3) = false by decide +kernel]
          refine iteF ?_
          refine ⟨_, _, _, _, _, prs ++ [.non x], rs ++ [t], by rw [cm]; rfl, b7, hk7.eqf fun w _ => ?_, rl7, pl1 _, hw1 (d := .non x) xw⟩
          rw [fold1, cur_stS]
        · refine ⟨_, rfl, _, _, rfl, rfl, _, rfl, ?_⟩
          rw [show decide ((3 : Int) < 2) = false from rfl]
          refine iteF ?_
          refine ⟨_, rfl, rfl, _, rfl, ?_⟩
          rw [show decide (V.int 3 = V.int 2) = false by decide +kernel]
          refine iteF ?_
          refine ⟨_, rfl, rfl, _, rfl, ?_⟩
          rw [show decide (V.int 3 = V.int 3) = true by decide +kernel]
          refine iteT ?_
          refine ⟨_, rfl, .inl ⟨rfl, _, SqL.of rl3.h⟩, ?_⟩
          refine ⟨_, rfl, by show 2 ≤ sizeLine; decide, fun t nt => ?_⟩
          have s4 := same_new (o := .tup (PRow.new x).vs) nt
          have rl4 := rl3.mono (fun e => s4 _ _ e) ((s4 _ _ rl3.h).trans rl3.h.symm)
          have b4 := b3.same s4
          have hk4 := hk3.same s4
          have rl5 := rl4.add (t := t) (d := .new x) upd_same
          refine ⟨aR, rs.map V.ref, _, rfl, rfl, rl4.h, rs1000, ?_⟩
          have b5 := b4.putL RA rl4.h (rs.map V.ref ++ [.ref t])
          have hk5 := hk4.putL rl4.h (.lst (rs.map V.ref ++ [.ref t]))
          change RL (upd (upd G3 t (.tup [V.str "new", V.str x])) aR (.lst (rs.map V.ref ++ [.ref t]))) aR (rs ++ [t]) (prs ++ [.new x]) at rl5
          change B14 Pt a p c aW aF aI aO aN ns ws fs is ds os l K (upd (upd G3 t (.tup [V.str "new", V.str x])) aR (.lst (rs.map V.ref ++ [.ref t]))) at b5
          change HK (upd (upd G3 t (.tup [V.str "new", V.str x])) aR (.lst (rs.map V.ref ++ [.ref t]))) aH p c aN ds os.length (ws ++ [st]) ad (cur (foldS os.length (l, 0) prs)) at hk5
          generalize upd (upd G3 t (.tup [V.str "new", V.str x])) aR (.lst (rs.map V.ref ++ [.ref t])) = G5 at rl5 b5 hk5 ⊢
          refine ⟨_, rfl, by show 3 ≤ sizeLine; decide, fun t2 nt2 => ?_⟩
          have s6 := same_new (o := .tup [V.str "own", V.int ((foldS os.length (l, 0) prs).2 : Int), V.bl false]) nt2
          have hk6 := hk5.same s6
          have b6 := b5.same s6
          have rl6 := rl5.mono (fun e => s6 _ _ e) ((s6 _ _ rl5.h).trans rl5.h.symm)
          refine ⟨_, rfl, _, rfl, aH, _, rfl, DPut.k (k := (Sum.inr x : Key)) (v := V.ref t2) hk6.h (lenK hk6), ?_⟩
          have ht2 : (upd G5 t2 (.tup [V.str "own", V.int ((foldS os.length (l, 0) prs).2 : Int), V.bl false])) t2 = some (.tup (valT os.length (some (os.length + (foldS os.length (l, 0) prs).2)))) := by
            rw [upd_same]
            show _ = some (HO.tup (if os.length + (foldS os.length (l, 0) prs).2 < os.length then _ else [.str "own", .int ((os.length + (foldS os.length (l, 0) prs).2 - os.length : Nat) : Int), .bl false]))
            rw [if_neg (by omega), Nat.add_sub_cancel_left]
          have hk7 := hk6.put (x := x) (t := t2) (u := some (os.length + (foldS os.length (l, 0) prs).2)) ht2 xk
          have b7 := b6.put hk6 (putK (hkv (ws ++ [st]) ad) (Sum.inr x : Key) (.ref t2))
          have rl7 := rl6.mono (G' := upd (upd G5 t2 (.tup [V.str "own", V.int ((foldS os.length (l, 0) prs).2 : Int), V.bl false])) aH (.dK (putK (hkv (ws ++ [st]) ad) (Sum.inr x : Key) (.ref t2)))) (fun e => (upd_ne fun z => by rw [z, hk6.h] at e; cases e).trans e) (upd_ne ne)
          refine ⟨_, rfl, _, _, rfl, rfl, ?_⟩
          refine ⟨_, _, _, _, _, prs ++ [.new x], rs ++ [t], by rw [cm]; rfl, b7, hk7.eqf fun w _ => ?_, rl7, pl1 _, hw1 (d := .new x) xw⟩
          rw [fold1, cur_stS]
      · rintro σ G ⟨z14, z15, z16, z17, ad, prs, rs, rfl, b, hk, rl, li, hw⟩
        exact ⟨_, _, _, _, _, _, ad, prs, rs, rfl, b, hk, rl, by omega, hw⟩
    clear BB hk0 B1 hk1 RA sR oR nR
    rintro σ G ⟨z10, z11, z14, z15, z16, z17, ad, prs, rs, rfl, b, hk, rl, l20, hw⟩
    have rdq := rl.dq
    have gp : GoodP is fs [] 0 (prs.map PRow.D) ws := good_plain S.iw S.iN S.i1 S.i3 S.g.fw S.g.fn S.g.f1 S.g.f2 S.ww S.w6 hw l20
    have l100 : (prs.map PRow.D).length ≤ 100 := by rw [List.length_map]; omega
    -- program
    refine ⟨fun σ G => ∃ (pr : Addr) (pp : PP), σ = [some (.ref a), some (.ref p), some (.ref aW), some (.ref aF), some (.ref aI), some (.str st), some (.int (os.length : Int)), some (.ref aO), some (.ref aN), some (.ref aH), z10, z11, some (.ref aR), some (.int ((foldS os.length (l, 0) prs).2 : Int)), z14, z15, z16, z17, some (.ref pr), none] ∧ B14 Pt a p c aW aF aI aO aN ns ws fs is ds os l K G ∧ HK G aH p c aN ds os.length (ws ++ [st]) ad (cur (foldS os.length (l, 0) prs)) ∧ ProgAt K CP G pr is fs [] 0 (prs.map PRow.D) ws pp, ?_, ?_⟩
    · refine ⟨_, rfl, _, rfl, _, rfl, fun h1 d1 n1 nd1 ne1 => ?_⟩
      have sM : Same G (upd (upd G d1 (.own h1)) h1 (.ins CP d1 [])) := fun b u e => (upd_ne (ne_of_none e n1)).trans ((upd_ne (ne_of_none e nd1)).trans e)
      refine ⟨h1, d1, aI, aF, aR, TE0, is, fs, [], 0, prs.map PRow.D, ws, _, rfl, upd_same, .inl (sM _ _ b.I), .inl (sM _ _ b.F), rdq.same sM, l100, .inr (.inr wE), gp, fun pp H' fr PA own => ⟨rfl, ?_⟩⟩
      have sG : Same G H' := fun b u e => fr _ _ (sM _ _ e) (ne_of_none e n1)
      exact ⟨h1, pp, rfl, b.same sG, hk.same sG, PA⟩
    clear b hk rl rdq
    rintro σ G ⟨pr, pp, rfl, b, hk, PA⟩
    -- run
    refine ⟨fun σ G => ∃ (r : Addr) (rp : RP) (wp : WP) (mp : MP) (ds' : List Addr) (m : MS), σ = [some (.ref a), some (.ref p), some (.ref aW), some (.ref aF), some (.ref aI), some (.str st), some (.int (os.length : Int)), some (.ref aO), some (.ref aN), some (.ref aH), z10, z11, some (.ref aR), some (.int ((foldS os.length (l, 0) prs).2 : Int)), z14, z15, z16, z17, some (.ref pr), some (.ref r)] ∧ B14 Pt a p c aW aF aI aO aN ns ws fs is ds os l K G ∧ HK G aH p c aN ds os.length (ws ++ [st]) ad (cur (foldS os.length (l, 0) prs)) ∧ G pr = some (.ins CP pp.dx (pfl pp)) ∧ RunAt CR CW CM G r rp wp mp fs m ∧ ds'.length = os.length ∧ Rns ⟨os.length, l, ds', [], []⟩ prs m ∧ aH ∉ mp.ds7, ?_, ?_⟩
    · refine ⟨_, rfl, _, rfl, _, rfl, _, rfl, fun h2 d2 n2 nd2 ne2 => ?_⟩
      have sM : Same G (upd (upd G d2 (.own h2)) h2 (.ins CH d2 [])) := fun b u e => (upd_ne (ne_of_none e n2)).trans ((upd_ne (ne_of_none e nd2)).trans e)
      have bM := b.same sM
      refine ⟨h2, d2, aF, aO, aN, fs, ds, os, l, rfl, bM.T, upd_same, .inl bM.F, bM.O, bM.N, S.g, fun hp H' keep free T' A new => ⟨rfl, ?_⟩⟩
      have sE : SamE G H' := ⟨fun b o e nt => keep _ _ (sM _ _ e) nt (ne_of_none e n2)⟩
      have bE := b.sameE sE T'
      have hE := hk.sameE sE
      have PE := PA.sameE sE
      refine fun r dr nr ndr ner => ?_
      have sR : Same H' (upd (upd H' dr (.own r)) r (.ins CR dr [])) := fun b u e => (upd_ne (ne_of_none e nr)).trans ((upd_ne (ne_of_none e ndr)).trans e)
      refine ⟨r, dr, pr, .ref h2, rfl, upd_same, .inr ⟨H', h2, is, fs, [], 0, prs, ws, pp, os, l, hp, rfl, nr, sR, PE, A, by rw [S.li], by have := S.o11; omega, by omega, fun H'' rp wp mp ds' m lds R RA s0 fresh => ⟨rfl, ?_⟩⟩⟩
      exact ⟨r, rp, wp, mp, ds', m, rfl, bE.same s0, hE.same s0, s0 _ _ PE.ob, RA, lds, R, fun z => by have := fresh _ z; rw [hE.h] at this; cases this⟩
    clear b hk PA
    rintro σ G ⟨r, rp, wp, mp, ds', m, rfl, b, hk, hpr, RA, lds, R, n7⟩
    have ag : Agr m os.length (foldS os.length (l, 0) prs) := agr_rns R ⟨rfl, rfl, rfl, lds⟩
    have made : (foldS os.length (l, 0) prs).2 ≤ 20 := by
      have := fold_made os.length prs (l, 0)
      have : (foldS os.length (l, 0) prs).2 ≤ 0 + prs.length := this
      omega
    have hO2 := b.O.ls
    have hN2 := b.N
    have cok : CurOk os.length (foldS os.length (l, 0) prs) := fold_ok os.length prs (l, 0) (cur0 S.g)
    -- held again
    refine ⟨fun σ G' => ∃ (z10 : Option V), σ = [some (.ref a), some (.ref p), some (.ref aW), some (.ref aF), some (.ref aI), some (.str st), some (.int (os.length : Int)), some (.ref aO), some (.ref aN), some (.ref aH), z10, z11, some (.ref aR), some (.int ((foldS os.length (l, 0) prs).2 : Int)), z14, z15, z16, z17, some (.ref pr), some (.ref r)] ∧ Same G G', ?_, ?_⟩
    · refine ⟨aH, _, hk.h, True.intro, fun od => ?_⟩
      have R1 : RunAt CR CW CM (upd G aH (.frz od (.dK (hkv (ws ++ [st]) ad)))) r rp wp mp fs m := RA.put hk.h n7
      have v1 : ∀ w ∈ ws ++ [st], (upd G aH (.frz od (.dK (hkv (ws ++ [st]) ad)))) (ad w) = some (.tup (valT os.length (cur (foldS os.length (l, 0) prs) w))) := fun w mw => (upd_ne fun z => by have := hk.v w mw; rw [z, hk.h] at this; cases this).trans (hk.v w mw)
      refine ⟨_, rfl, aH, od, rfl, .inl ⟨_, upd_same, for_keysL (d := aH) (o := od) (kvs := hkv (ws ++ [st]) ad) (fun i σ H2 => ∃ (z10 : Option V), σ = [some (.ref a), some (.ref p), some (.ref aW), some (.ref aF), some (.ref aI), some (.str st), some (.int (os.length : Int)), some (.ref aO), some (.ref aN), some (.ref aH), z10, z11, some (.ref aR), some (.int ((foldS os.length (l, 0) prs).2 : Int)), z14, z15, z16, z17, some (.ref pr), some (.ref r)] ∧ Same (upd G aH (.frz od (.dK (hkv (ws ++ [st]) ad)))) H2) ⟨_, rfl, Same.refl _⟩ (fun i σ H2 ⟨_, _, s2⟩ => s2 _ _ upd_same) ?_ ?_⟩⟩
      · rintro i ⟨key, v⟩ σ H2 hkey ⟨z10, rfl, s2⟩
        obtain ⟨x, hx, rfl, rfl⟩ : ∃ x : Str, x ∈ ws ++ [st] ∧ key = (Sum.inr x : Key) ∧ v = .ref (ad x) := by
          have mm := List.mem_of_getElem? hkey
          obtain ⟨x, hx, e⟩ := List.mem_map.mp mm
          exact ⟨x, hx, (Prod.mk.inj e).1.symm, (Prod.mk.inj e).2.symm⟩
        have xw := wk x hx
        have eh : heldV m x = cur (foldS os.length (l, 0) prs) x := by
          show (m.vars.lookup x).getD none = _
          rw [ag.v]
          rfl
        have R2 := R1.same s2
        have g2 := s2 _ _ (upd_same (H := G) (a := aH) (o := HO.frz od (.dK (hkv (ws ++ [st]) ad))))
        have X := shw_val (cok x) S.o11 made
        refine ⟨_, rfl, r, _, _, rfl, R2.ob, rnl_none rp (by decide +kernel) (by decide +kernel) (by decide +kernel), _, rfl, r, .str x, "str", rp, wp, mp, fs, m, rfl, R2, kdW (by have := xw.2.1; omega), .inr ⟨x, rfl, decide_eq_true xw, by rw [ag.c, eh]; exact cok x, fun t H' s3 dt => ?_⟩⟩
        rw [eh, agr_val ag] at dt
        have gd : DGet H' aH (.str x) (some (.ref (ad x))) := .inl ⟨hkv (ws ++ [st]) ad, (Sum.inr x : Key), .inr ⟨od, s3 _ _ g2⟩, rfl, (hkv_get ad hx).symm⟩
        refine ⟨_, rfl, _, rfl, aH, _, rfl, gd, ?_⟩
        refine ⟨t, ad x, valL os.length (cur (foldS os.length (l, 0) prs) x), rfl, dt, dp_val (s3 _ _ (s2 _ _ (v1 x hx))), X.sS, X.sH, Nat.le_trans X.sD (by decide), X.fits (by decide), _, rfl, iteF ?_⟩
        exact ⟨_, rfl, s2.trans s3⟩
      · rintro σ H2 ⟨z10, rfl, s2⟩
        exact ⟨s2 _ _ upd_same, _, rfl, same_unlock hk.h s2⟩
    clear b
    rintro σ G2 ⟨z10, rfl, s2⟩
    -- refusals
    refine ⟨fun σ G' => σ = [some (.ref a), some (.ref p), some (.ref aW), some (.ref aF), some (.ref aI), some (.str st), some (.int (os.length : Int)), some (.ref aO), some (.ref aN), some (.ref aH), z10, z11, some (.ref aR), some (.int ((foldS os.length (l, 0) prs).2 : Int)), z14, z15, z16, z17, some (.ref pr), some (.ref r)] ∧ Same G G', ?_, ?_⟩
    · refine ⟨_, rfl, _, rfl, _, rfl, _, rfl, pr, r, aO, aN, _, _, _, _, rp, wp, mp, fs, m, rfl, s2 _ _ hpr, s2 _ _ hO2, s2 _ _ hN2, RA.same s2, fun H' s3 => ⟨_, rfl, iteF ?_⟩⟩
      exact ⟨rfl, s2.trans s3⟩
    rintro σ G3 ⟨rfl, s3⟩
    have R3 := RA.same s3
    have ef : m.frz.length = (foldS os.length (l, 0) prs).2 := by rw [ag.f, List.length_replicate]
    refine ⟨_, rfl, r, _, _, rfl, R3.ob, rnl_none rp (by decide +kernel) (by decide +kernel) (by decide +kernel), r, rp, wp, mp, fs, m, rfl, R3, ?_⟩
    refine ⟨_, rfl, r, _, _, rfl, R3.ob, rnl_none rp (by decide +kernel) (by decide +kernel) (by decide +kernel), r, rp, wp, mp, fs, m, rfl, R3, ?_⟩
    refine ⟨_, rfl, r, _, _, rfl, R3.ob, rnl_none rp (by decide +kernel) (by decide +kernel) (by decide +kernel), r, rp, wp, mp, fs, m, rfl, R3, fun q1 G4 s4 h1 => ?_⟩
    have R4 := R3.same s4
    refine ⟨_, rfl, r, _, _, rfl, R4.ob, rnl_none rp (by decide +kernel) (by decide +kernel) (by decide +kernel), r, rp, wp, mp, fs, m, rfl, R4, fun q2 G5 s5 h2 => ?_⟩
    have R5 := R4.same s5
    have h1 := s5 _ _ h1
    rw [ef]
    refine ⟨by show 4 ≤ sizeLine; decide, fun t1 nt1 => ?_⟩
    refine ⟨by show 2 ≤ sizeLine; decide, fun t2 nt2 => ⟨_, rfl, by show 0 ≤ sizeLine; decide, fun t3 nt3 => ⟨by show 0 ≤ sizeLine; decide, fun t4 nt4 => ⟨by show 4 ≤ sizeLine; decide, fun t5 nt5 => ?_⟩⟩⟩⟩
    have u1 := same_new (o := .lst [V.ref wp.tE, V.int ((foldS os.length (l, 0) prs).2 : Int), V.ref q1, V.ref q2]) nt1
    have f1 : (upd G5 t1 (.lst [V.ref wp.tE, V.int ((foldS os.length (l, 0) prs).2 : Int), V.ref q1, V.ref q2])) t1 = some (.lst [V.ref wp.tE, V.int ((foldS os.length (l, 0) prs).2 : Int), V.ref q1, V.ref q2]) := upd_same
    have g1 := u1 _ _ R5.e
    have g2 := u1 _ _ h1
    have g3 := u1 _ _ h2
    generalize upd G5 t1 (.lst [V.ref wp.tE, V.int ((foldS os.length (l, 0) prs).2 : Int), V.ref q1, V.ref q2]) = G6 at *
    have u2 := same_new (o := .tup [V.str "done", V.non]) nt2
    have f2 : (upd G6 t2 (.tup [V.str "done", V.non])) t2 = some (.tup [V.str "done", V.non]) := upd_same
    generalize upd G6 t2 (.tup [V.str "done", V.non]) = G7 at *
    have u3 := same_new (o := .lst []) nt3
    have f3 : (upd G7 t3 (.lst [])) t3 = some (.lst []) := upd_same
    generalize upd G7 t3 (.lst []) = G8 at *
    have u4 := same_new (o := .lst []) nt4
    have f4 : (upd G8 t4 (.lst [])) t4 = some (.lst []) := upd_same
    generalize upd G8 t4 (.lst []) = G9 at *
    have u5 := same_new (o := .lst [V.ref t2, V.int ((foldS os.length (l, 0) prs).2 : Int), V.ref t3, V.ref t4]) nt5
    have f5 : (upd G9 t5 (.lst [V.ref t2, V.int ((foldS os.length (l, 0) prs).2 : Int), V.ref t3, V.ref t4])) t5 = some (.lst [V.ref t2, V.int ((foldS os.length (l, 0) prs).2 : Int), V.ref t3, V.ref t4]) := upd_same
    generalize upd G9 t5 (.lst [V.ref t2, V.int ((foldS os.length (l, 0) prs).2 : Int), V.ref t3, V.ref t4]) = G10 at *
    have w6 := ((u2.trans u3).trans u4).trans u5
    have w7 := (u3.trans u4).trans u5
    have w8 := u4.trans u5
    have X := shw_end made
    refine ⟨t1, t5, endD (foldS os.length (l, 0) prs).2, rfl, ?_, ?_, X.sS, X.sH, Nat.le_trans X.sD (by decide), X.fits (by decide), k _⟩
    · exact .lst (SqL.of (w6 _ _ f1)) (.cons (.tup (SqT.of (w6 _ _ g1)) (.cons (.str _) (.cons .non .nil))) (.cons (.int _) (.cons (.lst (SqL.of (w6 _ _ g2)) .nil) (.cons (.lst (SqL.of (w6 _ _ g3)) .nil) .nil))))
    · exact .lst (SqL.of f5) (.cons (.tup (SqT.of (w7 _ _ f2)) (.cons (.str _) (.cons .non .nil))) (.cons (.int _) (.cons (.lst (SqL.of (w8 _ _ f3)) .nil) (.cons (.lst (SqL.of (u5 _ _ f4)) .nil) .nil))))
end
end TW
set_option Elab.async false
set_option linter.all false
set_option maxRecDepth 100000
set_option maxHeartbeats 2000000
/-! the law's own def, from the top, with one table, where no repr is under way -/
namespace L2
open PySem PySem.Spec PyProof.Rows LamX
section
variable {P : Program} {w : World} {K : PySem.W.Frag} {mg mb : Str → Option Value} {CX : CXT} {k : Nat} {fa a Cn Pt : Addr} {fd : FuncData} {x : Str} {sp : Sp} {t : Shared} {vs : List Value} {ns : List Int}
/-- what the heap of the law's start may hold: the script, and the empty table -/
structure Only1 (H : Hp) (a Pt : Addr) : Prop where
  tab : H Pt = some (.tbl #[])
  oth : ∀ b, b ≠ Pt → H b = none ∨ (b = a ∧ ∃ o xs, H b = some (.frz o (.lst xs)))
theorem Only1.off {H : Hp} (h : Only1 H a Pt) {b : Addr} (ha : b ≠ a) (hp : b ≠ Pt) : H b = none := (h.oth b hp).resolve_right fun z => ha z.1
theorem stillT_from {H : Hp} (kin : K.In t.heap) (gl : t.heap.Ns mainGlobals mg) (bl : t.heap.Ns builtinsNs mb) (bb : ∀ x : Str, x ≠ "__name__" → mb x = bootBuiltins x) (nolim : t.heap.NoLimit) (gen : t.gens = #[])
    (hT : t.heap.get? Pt = some { cls := .none, data := .fields #[] }) (nT : K.lookup Pt = none) (C : PySem.W.CodeHd t.heap Cn Pt)
    (bm : ∃ (b : Addr) (ob : Obj), mg "__builtins__" = some (.ref b) ∧ b ≠ builtinsNs ∧ t.heap.get? b = some ob ∧ ob.cls = .type "module" ∧ ob.dict = some builtinsNs ∧ ob.data = .plain)
    (ha : t.heap.get? a = some { cls := .type "list", data := .seq vs.toArray }) (hr : Room k callerA)
    (F : ∀ base : Heap, K.In base → base.Ns mainGlobals mg → TabB base mg Cn Pt → FnG P w K mg base CX k fa fd [x] sp) (bind : ∀ (s : Shared) (u : Value), BindsTo s fd ⟨[u], []⟩ [(x, u)]) (low : ∀ H e s', CX [] H t (fun _ _ _ => False) e s' → False)
    (hO : Only1 H a Pt) (hs : sp [.ref a] H (fun v _ => v = .bl true) fun _ _ _ => False) (ok : HOk P w H t.heap) (offK : H a ≠ none → K.lookup a = none) :
    codeAny (model P w) callerA (.call (.ref fa) ⟨[.ref a], []⟩) (fun r s' => r = .ok (.ret (.bool true)) ∧ OldK t.heap s'.heap ∧ s'.os = t.os ∧ AllBare s'.gens) t := by
  have away : ∀ {b : Addr} {o : Obj}, t.heap.get? b = some o → o.data ≠ .seq vs.toArray → o.data ≠ .fields #[] → H b = none := fun {b o} g n1 n2 => hO.off (fun e => by
    rw [e, ha] at g
    cases g
    exact n1 rfl) fun e => by
    rw [e, hT] at g
    cases g
    exact n2 rfl
  have ns' : ∀ {b : Addr} {m : Str → Option Value}, t.heap.Ns b m → (hidT t.heap H).Ns b m := fun {b m} h => by
    obtain ⟨o, es, ep, g, d, r⟩ := h
    exact ⟨o, es, ep, hidT_get g (away g (by rw [d]; exact fun z => nomatch z) (by rw [d]; exact fun z => nomatch z)), d, r⟩
  have kin' : K.In (hidT t.heap H) := fun b o g => hidT_get (kin b o g) (Decidable.byContradiction fun z => by
    by_cases e : b = Pt
    · rw [e, nT] at g
      cases g
    · rcases hO.oth b e with h | ⟨h, _⟩
      · exact z h
      · subst h
        rw [offK z] at g
        cases g)
  have md : Mod K mg (hidT t.heap H) := by
    obtain ⟨mc, l1, l2⟩ := nolim
    exact ⟨kin', ns' gl, ⟨mb, ns' bl, bb⟩, mc, ns' l1, l2⟩
  have gP : mainGlobals ≠ Pt := fun z => by
    obtain ⟨o, es, ep, g, d, _⟩ := gl
    rw [z, hT] at g
    cases g
    cases d
  have tb : TabB (hidT t.heap H) mg Cn Pt := by
    refine ⟨?_, ?_, gP⟩
    · obtain ⟨o, us, f1, f2, f3, f4, f5, f6, f7, e1, e2, e3, e4, rest⟩ := C
      refine ⟨o, us, f1, f2, f3, f4, f5, f6, f7, hidT_get e1 (away e1 (by rw [e3]; exact fun z => nomatch z) ?_), e2, e3, e4, rest⟩
      rw [e3]
      intro z
      cases z
      simp at e4
    · obtain ⟨b, ob, b1, b2, b3, b4, b5, b6⟩ := bm
      refine ⟨b, ob, b1, b2, fun z => ?_, fun z => ?_, hidT_get b3 (away b3 (by rw [b6]; exact fun z => nomatch z) (by rw [b6]; exact fun z => nomatch z)), b4, b5, b6⟩
      · obtain ⟨o, es, ep, g, d, _⟩ := gl
        rw [z, g] at b3
        cases b3
        rw [d] at b6
        cases b6
      · rw [z, hT] at b3
        cases b3
        cases b6
  have e0 : Env0 P w K mg (hidT t.heap H) callerA [] t H := ⟨rfl, md, fun _ _ g => of_hidT g, Nat.le_of_eq (hidT_size _ _), trivial, fun b z => (nomatch z), ok, .of_eq gen⟩
  refine codeAny_mono ((F _ kin' (ns' gl) tb).go callerA still_top hr [] t H e0 ⟨[.ref a], []⟩ [.ref a] [.ref a] _ _ (bind t _) (.cons rfl .nil) hs) fun z s2 hz => ?_
  match z, hz with
  | .error er, hz => exact (low H er s2 hz).elim
  | .ok .next, hz => exact False.elim hz
  | .ok .brk, hz => exact False.elim hz
  | .ok .cont, hz => exact False.elim hz
  | .ok (.ret u), ⟨v, H2, os, bare, un, ok2, rv, ev⟩ =>
    have ev' : v = .bl true := ev
    subst ev'
    have eu : u = Value.bool true := rv
    subst eu
    have keep : ∀ b o, b ≠ Pt → t.heap.get? b = some o → s2.heap.get? b = some o := fun b o nb g => by
      rcases hO.oth b nb with n | ⟨_, ob, xs, e⟩
      · exact un.keep b o g n (fun z => (nomatch z)) (fun z => (nomatch z))
      · have g1 := (ok b _ e).1
        rw [g] at g1
        cases g1
        exact (ok2 b _ (un.frzs b _ _ e)).1
    obtain ⟨more, hm⟩ := un.tbls Pt #[] hO.tab
    have hm2 : s2.heap.get? Pt = some { cls := .none, data := .fields (#[] ++ more) } := ok2 Pt _ hm
    refine ⟨rfl, ⟨fun b o g => ?_, fun b o g => ?_⟩, os, bare⟩
    · by_cases e : b = Pt
      · subst e
        rw [hT] at g
        cases g
        exact .inr (.inl ⟨(C.tab hT).isCodeTable, rfl, #[], more, rfl, hm2⟩)
      · exact .inl (keep b o e g)
    · by_cases e : b = Pt
      · subst e
        exact ⟨_, hm2⟩
      · exact ⟨o, keep b o e g⟩
theorem lawT_still (kin : K.In t.heap) (gl : t.heap.Ns mainGlobals mg) (bl : t.heap.Ns builtinsNs mb) (bb : ∀ x : Str, x ≠ "__name__" → mb x = bootBuiltins x) (nolim : t.heap.NoLimit) (gen : t.gens = #[])
    (hT : t.heap.get? Pt = some { cls := .none, data := .fields #[] }) (nT : K.lookup Pt = none) (C : PySem.W.CodeHd t.heap Cn Pt)
    (bm : ∃ (b : Addr) (ob : Obj), mg "__builtins__" = some (.ref b) ∧ b ≠ builtinsNs ∧ t.heap.get? b = some ob ∧ ob.cls = .type "module" ∧ ob.dict = some builtinsNs ∧ ob.data = .plain)
    (ha : t.heap.get? a = some { cls := .type "list", data := .seq vs.toArray }) (hi : IntsAre vs ns) (hl : ns.length ≤ sizeLine) (hr : Room k callerA)
    (F : ∀ base : Heap, K.In base → base.Ns mainGlobals mg → TabB base mg Cn Pt → FnG P w K mg base CX k fa fd [x] sp) (bind : ∀ (s : Shared) (u : Value), BindsTo s fd ⟨[u], []⟩ [(x, u)]) (low : ∀ H e s', CX [] H t (fun _ _ _ => False) e s' → False)
    (hs : ∀ H : Hp, H Pt = some (.tbl #[]) → SqL K H a (ns.map V.int) → sp [.ref a] H (fun v _ => v = .bl true) fun _ _ _ => False) :
    codeAny (model P w) callerA (.call (.ref fa) ⟨[.ref a], []⟩) (fun r s' => r = .ok (.ret (.bool true)) ∧ OldK t.heap s'.heap ∧ s'.os = t.os ∧ AllBare s'.gens) t := by
  have rv := vals_ints hi
  have nl := hi.length
  have aP : a ≠ Pt := fun z => by
    rw [z, hT] at ha
    cases ha
  obtain ⟨ob, eo⟩ : ∃ ob : Obj, ob = { cls := .type "list", data := .seq vs.toArray } := ⟨_, rfl⟩
  cases hk : K.lookup a with
  | some o =>
    have g := kin a o hk
    rw [ha] at g
    cases g
    have h1 : (upd (fun _ => none) Pt (.tbl #[])) Pt = some (.tbl #[]) := upd_same
    have hO : Only1 (upd (fun _ => none) Pt (.tbl #[])) a Pt := ⟨h1, fun b n => .inl (upd_ne n)⟩
    refine stillT_from kin gl bl bb nolim gen hT nT C bm ha hr F bind low hO (hs _ h1 (.inr ⟨_, vs.toArray, _, hk, rfl, rfl, rfl, ?_, ?_⟩)) (fun b u z => ?_) (fun z => absurd (upd_ne aP) z)
    · rw [List.size_toArray, nl]
      exact hl
    · simpa using rv
    · by_cases e : b = Pt
      · subst e
        rw [upd_same] at z
        cases z
        exact hT
      · rw [upd_ne e] at z
        cases z
  | none =>
    have h1 : (upd (upd (fun _ => none) Pt (.tbl #[])) a (.frz ob (.lst (ns.map V.int)))) Pt = some (.tbl #[]) := (upd_ne aP.symm).trans upd_same
    have hO : Only1 (upd (upd (fun _ => none) Pt (.tbl #[])) a (.frz ob (.lst (ns.map V.int)))) a Pt := ⟨h1, fun b n => by
      by_cases e : b = a
      · subst e
        exact .inr ⟨rfl, _, _, upd_same⟩
      · exact .inl ((upd_ne e).trans (upd_ne n))⟩
    refine stillT_from kin gl bl bb nolim gen hT nT C bm ha hr F bind low hO (hs _ h1 (.inl (.inr ⟨ob, upd_same⟩))) (fun b u z => ?_) (fun _ => hk)
    by_cases e : b = a
    · subst e
      rw [upd_same] at z
      cases z
      subst eo
      exact ⟨ha, by rw [List.length_map]; exact hl, vs, _, rv, ha⟩
    · rw [upd_ne e] at z
      by_cases e2 : b = Pt
      · subst e2
        rw [upd_same] at z
        cases z
        exact hT
      · rw [upd_ne e2] at z
        cases z
end
/-- the def of a name, its code object and that one's table, which is empty -/
def DefTab (x : Str) (mg : Str → Option Value) (h : Heap) : Prop := ∃ (a : Addr) (o : Obj) (fd : FuncData) (c P : Addr), mg x = some (.ref a) ∧ h.get? a = some o ∧ o.data = .func fd ∧ fd.code = .ref c ∧ h.IsCode c P #[] ∧ h.TableAt c P #[]
/-- what k_head leaves, for a law that needs that no repr is under way and uses the table of the def y -/
theorem walk_stillT {l : PySem.W.OpenLaw} {n k : Nat} {q : Program} {loose : List Str} {XP : (Str → Option Value) → Heap → Prop} {YP : World → Heap → Prop} {d : DefRec} {K : Params → PySem.W.Frag} {x y : Str}
    (m1 : l.most = some n) (m2 : n ≤ sizeLine) (nd : d.params.defaults = []) (hr : Room k callerA) (hrec : ((recsOf q).any fun e => e.name == y) = true) (hY : ∀ (w : World) (h : Heap), YP w h → (K w.params).In h)
    (F : ∀ (w : World) (mg : Str → Option Value) (fa : Addr) (h : Heap), (K w.params).In h → h.Ns mainGlobals mg → mg d.name = some (.ref fa) → DefTab y mg h →
      ∃ (fd : FuncData) (Cn Pt : Addr) (sp : Sp), h.get? Pt = some { cls := .none, data := .fields #[] } ∧ (K w.params).lookup Pt = none ∧ PySem.W.CodeHd h Cn Pt ∧ (∀ (s : Shared) (u : Value), BindsTo s fd ⟨[u], []⟩ [(x, u)]) ∧
        (∀ (H : Hp) (a : Addr) (ns : List Int), ns.length ≤ n → H Pt = some (.tbl #[]) → SqL (K w.params) H a (ns.map V.int) → sp [.ref a] H (fun v _ => v = .bl true) fun _ _ _ => False) ∧
        ∀ base : Heap, (K w.params).In base → base.Ns mainGlobals mg → TabB base mg Cn Pt → FnG l.prog w (K w.params) mg base CX0 k fa fd [x] sp) :
    PySem.W.WalkO q loose XP YP l.row.toRowW d [] (fun f vs => PySem.call f vs) := by
  refine Att.attach_call m1 nd fun w s0 s1 mg mb fa o pm cd doc a vs ns G Y e1 e2 e3 e4 e5 e6 e7 e8 => ?_
  have kin := hY w _ Y
  have own : DefTab y mg s1.heap := by
    obtain ⟨dL, hm, hn1⟩ := List.any_eq_true.mp hrec
    have hn2 : dL.name = y := beq_iff_eq.mp hn1
    obtain ⟨a', o', fd', c', P', h1, h2, h3, h4, h5, h6⟩ := G.T.tab dL hm
    rw [hn2] at h1
    exact ⟨a', o', fd', c', P', h1, h2, h3, h4, h5, h6⟩
  obtain ⟨fd, Cn, Pt, sp, hT, nT, C, hb, hsp, hF⟩ := F w mg fa _ kin G.T.g e4 own
  exact lawT_still kin G.T.g G.T.b G.T.builtins G.T.nolimit e8 hT nT C G.T.bmain e5 e6 (Nat.le_trans e7 m2) hr hF hb (fun _ _ _ z => z) fun H hH hS => hsp H a ns e7 hH hS
end L2
set_option Elab.async false
set_option linter.all false
set_option maxRecDepth 100000
set_option maxHeartbeats 2000000
/-! the small head: from what the Hook tells to the rules' facts, and the law's end -/
namespace TW
open PySem PySem.Spec PyProof.Rows L2 TL LamX NdefX LamQ
theorem fun_of {K : PySem.W.Frag} {x qual : Str} {st : Stmt} {kws : List (Str × V)} {f : Addr} {fd : FuncData} (F : FunD K x qual (defArgs st) (defBody st) (defScope st) [] kws f fd) : Fun K x qual st f fd := by
  obtain ⟨oc, od, dV, kV, doc, pm, an, cdv, ct, osl, e, lk, hc, hD, hK⟩ := F.ex
  rcases hD with ⟨_, rfl⟩ | ⟨n, _⟩
  · exact ⟨⟨oc, od, kV, doc, pm, an, cdv, ct, osl, e, lk, hc⟩, F.kp⟩
  · exact absurd rfl n
theorem funC_of {K : PySem.W.Frag} {x qual : Str} {st : Stmt} {p : He.Defn} {f : Addr} {fd : FuncData} (F : Fun K x qual st f fd) (hf : f = He.fAd K p) : FunC K x qual st f fd (He.codeOf K p) := by
  obtain ⟨oc, od, kV, doc, pm, an, cdv, ct, osl, rfl, lk, hc⟩ := F.ex
  obtain ⟨c, rfl⟩ := He.codeIn_ref hc
  have e : He.codeOf K p = c := He.codeOf_eq (hf ▸ lk) rfl
  rw [e]
  exact ⟨⟨oc, od, kV, doc, pm, an, ct, osl, rfl, lk, hc⟩⟩
end TW
namespace L2
open PySem PySem.Spec PyProof.Rows LamX
/-- what the small head leaves, for a law that needs that no repr is under way and uses the table of a def -/
theorem walk_stillX {l : PySem.W.OpenLaw} {n k : Nat} {q : Program} {loose : List Str} {XP : (Str → Option Value) → Heap → Prop} {YP : World → Heap → Prop} {d : DefRec} {x : Str} {C : World → Heap → PySem.W.Frag → Prop}
    (m1 : l.most = some n) (m2 : n ≤ sizeLine) (nd : d.params.defaults = []) (hr : Room k callerA) (hY : ∀ (w : World) (h : Heap), YP w h → ∃ K : PySem.W.Frag, K.In h ∧ C w h K)
    (F : ∀ (w : World) (mg : Str → Option Value) (fa : Addr) (h : Heap) (K : PySem.W.Frag), K.In h → C w h K → h.Ns mainGlobals mg → mg d.name = some (.ref fa) →
      ∃ (fd : FuncData) (Cn Pt : Addr) (sp : Sp), h.get? Pt = some { cls := .none, data := .fields #[] } ∧ K.lookup Pt = none ∧ PySem.W.CodeHd h Cn Pt ∧ (∀ (s : Shared) (u : Value), BindsTo s fd ⟨[u], []⟩ [(x, u)]) ∧
        (∀ (H : Hp) (a : Addr) (ns : List Int), ns.length ≤ n → H Pt = some (.tbl #[]) → SqL K H a (ns.map V.int) → sp [.ref a] H (fun v _ => v = .bl true) fun _ _ _ => False) ∧
        ∀ base : Heap, K.In base → base.Ns mainGlobals mg → TabB base mg Cn Pt → FnG l.prog w K mg base CX0 k fa fd [x] sp) :
    PySem.W.WalkO q loose XP YP l.row.toRowW d [] (fun f vs => PySem.call f vs) := by
  refine Att.attach_call m1 nd fun w s0 s1 mg mb fa o pm cd doc a vs ns G Y e1 e2 e3 e4 e5 e6 e7 e8 => ?_
  obtain ⟨K, kin, c⟩ := hY w _ Y
  obtain ⟨fd, Cn, Pt, sp, hT, nT, Cd, hb, hsp, hF⟩ := F w mg fa _ K kin c G.T.g e4
  exact lawT_still kin G.T.g G.T.b G.T.builtins G.T.nolimit e8 hT nT Cd G.T.bmain e5 e6 (Nat.le_trans e7 m2) hr hF hb (fun _ _ _ z => z) fun H hH hS => hsp H a ns e7 hH hS
end L2
set_option Elab.async false
set_option linter.all false
set_option maxRecDepth 100000
namespace TW
open PySem PySem.Spec PyProof.Rows L2 TL LamX NdefX LamQ
/-- an error of the class at S is what a clause that names S takes -/
theorem exm_self {K : PySem.W.Frag} {S : Addr} (h1 : PySem.W.subIn K (.ref S) (.type "BaseException") = some true) (h2 : PySem.W.isClsIn K S = true) (h3 : PySem.W.typeIn K (.ref S) = some (.type "type")) (h4 : PySem.W.subIn K (.ref S) (.ref S) = some true) :
    PySem.W.exmOne K (.ref S) (.ref S) = some true := by
  have e1 : (PySem.W.subIn K (.ref S) (.type "BaseException") == some true) = true := by rw [h1] <;> rfl
  have e2 : ((PySem.W.clsIn K S).isSome && PySem.W.typeIn K (.ref S) == some (.type "type")) = true := by
    have h2' : (PySem.W.clsIn K S).isSome = true := h2
    rw [h2', h3] <;> rfl
  show (if (PySem.W.subIn K (.ref S) (.type "BaseException") == some true) = true then (if ((PySem.W.clsIn K S).isSome && PySem.W.typeIn K (.ref S) == some (.type "type")) = true then PySem.W.subIn K (.ref S) (.ref S) else none) else none) = some true
  rw [if_pos e1, if_pos e2]
  exact h4
/-- no instance of the class at C -/
theorem kit_no {K : PySem.W.Frag} {C : Addr} {v : Value} (iC : PySem.W.isClsIn K C = true) (tC : PySem.W.typeIn K (.ref C) = some (.type "type")) (ne : (v == Value.ref C) = false) (h : PySem.W.subIn K v (.ref C) = some false) : PySem.W.kitOne K v (.ref C) = some false := by
  have e1 : ((PySem.W.clsIn K C).isSome && PySem.W.typeIn K (.ref C) == some (.type "type")) = true := by
    have h2 : (PySem.W.clsIn K C).isSome = true := iC
    rw [h2, tC] <;> rfl
  show (if (v == Value.ref C) = true then some true else (if ((PySem.W.clsIn K C).isSome && PySem.W.typeIn K (.ref C) == some (.type "type")) = true then PySem.W.subIn K v (.ref C) else none)) = some false
  rw [if_neg (by rw [ne]; exact Bool.false_ne_true), if_pos e1]
  exact h
theorem ne_ty {T : String} {C : Addr} : (Value.type T == Value.ref C) = false := by
  cases e : (Value.type T == Value.ref C) with
  | false => rfl
  | true => exact nomatch (eq_of_beq e)
theorem ne_ref {A C : Addr} (n : A ≠ C) : (Value.ref A == Value.ref C) = false := by
  cases e : (Value.ref A == Value.ref C) with
  | false => rfl
  | true =>
    have := eq_of_beq e
    cases this
    exact absurd rfl n
set_option maxHeartbeats 8000000 in
theorem all_x {l : PySem.W.OpenLaw} {w : World} {K : PySem.W.Frag} {h : Heap} {mg : Str → Option Value} {CH CP CM CW CR Cn Pt TE DF DK CE fI f_is_integer f_is_between f_is_word f_is_one_of f_are_words f_are_fields f_has_form f_has_names f_is_right f_is_depth f_row_variables f_branches f_with_branches f_copied_rows f_copied_row f_placed_rows f_inner_rows f_checked_rows f_check_row f_all_variables f_check_many f_check_objects f_check_names f_is_object f_is_held f_normal_form f_new_numbers f_steps_of f_fits f_law_draw f_law_pick f_law_word f_law_words f_law_value f_law_objects f_law_names f_law_exact f_law_refused f_law_no_heap f_law_refusals f_law h_init h_len h_objects h_names m_init m_rows m_variables x_init x_held x_made x_looks x_write x_nothing x_value x_reached x_make x_do wk_init wk_do_steps wk_pairs r_init r_value r_end r_made r_looks r_reached : Addr} {fd_f_is_integer fd_f_is_between fd_f_is_word fd_f_is_one_of fd_f_are_words fd_f_are_fields fd_f_has_form fd_f_has_names fd_f_is_right fd_f_is_depth fd_f_row_variables fd_f_branches fd_f_with_branches fd_f_copied_rows fd_f_copied_row fd_f_placed_rows fd_f_inner_rows fd_f_checked_rows fd_f_check_row fd_f_all_variables fd_f_check_many fd_f_check_objects fd_f_check_names fd_f_is_object fd_f_is_held fd_f_normal_form fd_f_new_numbers fd_f_steps_of fd_f_fits fd_f_law_draw fd_f_law_pick fd_f_law_word fd_f_law_words fd_f_law_value fd_f_law_objects fd_f_law_names fd_f_law_exact fd_f_law_refused fd_f_law_no_heap fd_f_law_refusals fd_f_law fd_h_init fd_h_len fd_h_objects fd_h_names fd_m_init fd_m_rows fd_m_variables fd_x_init fd_x_held fd_x_made fd_x_looks fd_x_write fd_x_nothing fd_x_value fd_x_reached fd_x_make fd_x_do fd_wk_init fd_wk_do_steps fd_wk_pairs fd_r_init fd_r_value fd_r_end fd_r_made fd_r_looks fd_r_reached : FuncData} {t8 t2 tD tI tO tR tV tC tW tL tMO tMN tMS : Tok} {es : Array DictEntry} {nE : Nat}
    (D_f_is_integer : FunD K "is_integer" "is_integer" (defArgs S_is_integer) (defBody S_is_integer) (defScope S_is_integer) [] [] f_is_integer fd_f_is_integer)
    (a_f_is_integer : mg "is_integer" = some (.ref f_is_integer))
    (D_f_is_between : FunD K "is_between" "is_between" (defArgs S_is_between) (defBody S_is_between) (defScope S_is_between) [] [] f_is_between fd_f_is_between)
    (a_f_is_between : mg "is_between" = some (.ref f_is_between))
    (D_f_is_word : FunD K "is_word" "is_word" (defArgs S_is_word) (defBody S_is_word) (defScope S_is_word) [] [] f_is_word fd_f_is_word)
    (a_f_is_word : mg "is_word" = some (.ref f_is_word))
    (D_f_is_one_of : FunD K "is_one_of" "is_one_of" (defArgs S_is_one_of) (defBody S_is_one_of) (defScope S_is_one_of) [] [] f_is_one_of fd_f_is_one_of)
    (a_f_is_one_of : mg "is_one_of" = some (.ref f_is_one_of))
    (D_f_are_words : FunD K "are_words" "are_words" (defArgs S_are_words) (defBody S_are_words) (defScope S_are_words) [] [] f_are_words fd_f_are_words)
    (a_f_are_words : mg "are_words" = some (.ref f_are_words))
    (D_f_are_fields : FunD K "are_fields" "are_fields" (defArgs S_are_fields) (defBody S_are_fields) (defScope S_are_fields) [] [] f_are_fields fd_f_are_fields)
    (a_f_are_fields : mg "are_fields" = some (.ref f_are_fields))
    (D_f_has_form : FunD K "has_form" "has_form" (defArgs S_has_form) (defBody S_has_form) (defScope S_has_form) [] [] f_has_form fd_f_has_form)
    (a_f_has_form : mg "has_form" = some (.ref f_has_form))
    (D_f_has_names : FunD K "has_names" "has_names" (defArgs S_has_names) (defBody S_has_names) (defScope S_has_names) [] [] f_has_names fd_f_has_names)
    (a_f_has_names : mg "has_names" = some (.ref f_has_names))
    (D_f_is_right : FunD K "is_right" "is_right" (defArgs S_is_right) (defBody S_is_right) (defScope S_is_right) [] [] f_is_right fd_f_is_right)
    (a_f_is_right : mg "is_right" = some (.ref f_is_right))
    (D_f_is_depth : FunD K "is_depth" "is_depth" (defArgs S_is_depth) (defBody S_is_depth) (defScope S_is_depth) [] [] f_is_depth fd_f_is_depth)
    (a_f_is_depth : mg "is_depth" = some (.ref f_is_depth))
    (D_f_row_variables : FunD K "row_variables" "row_variables" (defArgs S_row_variables) (defBody S_row_variables) (defScope S_row_variables) [] [] f_row_variables fd_f_row_variables)
    (a_f_row_variables : mg "row_variables" = some (.ref f_row_variables))
    (D_f_branches : FunD K "branches" "branches" (defArgs S_branches) (defBody S_branches) (defScope S_branches) [] [] f_branches fd_f_branches)
    (a_f_branches : mg "branches" = some (.ref f_branches))
    (D_f_with_branches : FunD K "with_branches" "with_branches" (defArgs S_with_branches) (defBody S_with_branches) (defScope S_with_branches) [] [] f_with_branches fd_f_with_branches)
    (a_f_with_branches : mg "with_branches" = some (.ref f_with_branches))
    (D_f_copied_rows : FunD K "copied_rows" "copied_rows" (defArgs S_copied_rows) (defBody S_copied_rows) (defScope S_copied_rows) [] [] f_copied_rows fd_f_copied_rows)
    (a_f_copied_rows : mg "copied_rows" = some (.ref f_copied_rows))
    (D_f_copied_row : FunD K "copied_row" "copied_row" (defArgs S_copied_row) (defBody S_copied_row) (defScope S_copied_row) [] [] f_copied_row fd_f_copied_row)
    (a_f_copied_row : mg "copied_row" = some (.ref f_copied_row))
    (D_f_placed_rows : FunD K "placed_rows" "placed_rows" (defArgs S_placed_rows) (defBody S_placed_rows) (defScope S_placed_rows) [] [] f_placed_rows fd_f_placed_rows)
    (a_f_placed_rows : mg "placed_rows" = some (.ref f_placed_rows))
    (D_f_inner_rows : FunD K "inner_rows" "inner_rows" (defArgs S_inner_rows) (defBody S_inner_rows) (defScope S_inner_rows) [] [] f_inner_rows fd_f_inner_rows)
    (a_f_inner_rows : mg "inner_rows" = some (.ref f_inner_rows))
    (D_f_checked_rows : FunD K "checked_rows" "checked_rows" (defArgs S_checked_rows) (defBody S_checked_rows) (defScope S_checked_rows) [] [] f_checked_rows fd_f_checked_rows)
    (a_f_checked_rows : mg "checked_rows" = some (.ref f_checked_rows))
    (D_f_check_row : FunD K "check_row" "check_row" (defArgs S_check_row) (defBody S_check_row) (defScope S_check_row) [] [] f_check_row fd_f_check_row)
    (a_f_check_row : mg "check_row" = some (.ref f_check_row))
    (D_f_all_variables : FunD K "all_variables" "all_variables" (defArgs S_all_variables) (defBody S_all_variables) (defScope S_all_variables) [] [] f_all_variables fd_f_all_variables)
    (a_f_all_variables : mg "all_variables" = some (.ref f_all_variables))
    (D_f_check_many : FunD K "check_many" "check_many" (defArgs S_check_many) (defBody S_check_many) (defScope S_check_many) [] [] f_check_many fd_f_check_many)
    (a_f_check_many : mg "check_many" = some (.ref f_check_many))
    (D_f_check_objects : FunD K "check_objects" "check_objects" (defArgs S_check_objects) (defBody S_check_objects) (defScope S_check_objects) [] [] f_check_objects fd_f_check_objects)
    (a_f_check_objects : mg "check_objects" = some (.ref f_check_objects))
    (D_f_check_names : FunD K "check_names" "check_names" (defArgs S_check_names) (defBody S_check_names) (defScope S_check_names) [] [] f_check_names fd_f_check_names)
    (a_f_check_names : mg "check_names" = some (.ref f_check_names))
    (D_f_is_object : FunD K "is_object" "is_object" (defArgs S_is_object) (defBody S_is_object) (defScope S_is_object) [] [] f_is_object fd_f_is_object)
    (a_f_is_object : mg "is_object" = some (.ref f_is_object))
    (D_f_is_held : FunD K "is_held" "is_held" (defArgs S_is_held) (defBody S_is_held) (defScope S_is_held) [] [] f_is_held fd_f_is_held)
    (a_f_is_held : mg "is_held" = some (.ref f_is_held))
    (D_f_normal_form : FunD K "normal_form" "normal_form" (defArgs S_normal_form) (defBody S_normal_form) (defScope S_normal_form) [] [] f_normal_form fd_f_normal_form)
    (a_f_normal_form : mg "normal_form" = some (.ref f_normal_form))
    (D_f_new_numbers : FunD K "new_numbers" "new_numbers" (defArgs S_new_numbers) (defBody S_new_numbers) (defScope S_new_numbers) [] [] f_new_numbers fd_f_new_numbers)
    (a_f_new_numbers : mg "new_numbers" = some (.ref f_new_numbers))
    (D_f_steps_of : FunD K "steps_of" "steps_of" (defArgs S_steps_of) (defBody S_steps_of) (defScope S_steps_of) [] [] f_steps_of fd_f_steps_of)
    (a_f_steps_of : mg "steps_of" = some (.ref f_steps_of))
    (D_f_fits : FunD K "fits" "fits" (defArgs S_fits) (defBody S_fits) (defScope S_fits) [] [] f_fits fd_f_fits)
    (a_f_fits : mg "fits" = some (.ref f_fits))
    (D_f_law_draw : FunD K "_law_draw" "_law_draw" (defArgs S_law_draw) (defBody S_law_draw) (defScope S_law_draw) [] [] f_law_draw fd_f_law_draw)
    (a_f_law_draw : mg "_law_draw" = some (.ref f_law_draw))
    (D_f_law_pick : FunD K "_law_pick" "_law_pick" (defArgs S_law_pick) (defBody S_law_pick) (defScope S_law_pick) [] [] f_law_pick fd_f_law_pick)
    (a_f_law_pick : mg "_law_pick" = some (.ref f_law_pick))
    (D_f_law_word : FunD K "_law_word" "_law_word" (defArgs S_law_word) (defBody S_law_word) (defScope S_law_word) [] [] f_law_word fd_f_law_word)
    (a_f_law_word : mg "_law_word" = some (.ref f_law_word))
    (D_f_law_words : FunD K "_law_words" "_law_words" (defArgs S_law_words) (defBody S_law_words) (defScope S_law_words) [] [] f_law_words fd_f_law_words)
    (a_f_law_words : mg "_law_words" = some (.ref f_law_words))
    (D_f_law_value : FunD K "_law_value" "_law_value" (defArgs S_law_value) (defBody S_law_value) (defScope S_law_value) [] [] f_law_value fd_f_law_value)
    (a_f_law_value : mg "_law_value" = some (.ref f_law_value))
    (D_f_law_objects : FunD K "_law_objects" "_law_objects" (defArgs S_law_objects) (defBody S_law_objects) (defScope S_law_objects) [] [] f_law_objects fd_f_law_objects)
    (a_f_law_objects : mg "_law_objects" = some (.ref f_law_objects))
    (D_f_law_names : FunD K "_law_names" "_law_names" (defArgs S_law_names) (defBody S_law_names) (defScope S_law_names) [] [] f_law_names fd_f_law_names)
    (a_f_law_names : mg "_law_names" = some (.ref f_law_names))
    (D_f_law_exact : FunD K "_law_exact" "_law_exact" (defArgs S_law_exact) (defBody S_law_exact) (defScope S_law_exact) [] [] f_law_exact fd_f_law_exact)
    (a_f_law_exact : mg "_law_exact" = some (.ref f_law_exact))
    (D_f_law_refused : FunD K "_law_refused" "_law_refused" (defArgs S_law_refused) (defBody S_law_refused) (defScope S_law_refused) [] [] f_law_refused fd_f_law_refused)
    (a_f_law_refused : mg "_law_refused" = some (.ref f_law_refused))
    (D_f_law_no_heap : FunD K "_law_no_heap" "_law_no_heap" (defArgs S_law_no_heap) (defBody S_law_no_heap) (defScope S_law_no_heap) [] [] f_law_no_heap fd_f_law_no_heap)
    (a_f_law_no_heap : mg "_law_no_heap" = some (.ref f_law_no_heap))
    (D_f_law_refusals : FunD K "_law_refusals" "_law_refusals" (defArgs S_law_refusals) (defBody S_law_refusals) (defScope S_law_refusals) [] [] f_law_refusals fd_f_law_refusals)
    (a_f_law_refusals : mg "_law_refusals" = some (.ref f_law_refusals))
    (D_f_law : FunD K "law" "law" (defArgs S_law) (defBody S_law) (defScope S_law) [] [] f_law fd_f_law)
    (a_f_law : mg "law" = some (.ref f_law))
    (D_h_init : FunD K "__init__" "Heap.__init__" (defArgs S_Heap___init__) (defBody S_Heap___init__) (defScope S_Heap___init__) [] [] h_init fd_h_init)
    (M_h_init : Meth K CH "__init__" h_init)
    (D_h_len : FunD K "__len__" "Heap.__len__" (defArgs S_Heap___len__) (defBody S_Heap___len__) (defScope S_Heap___len__) [] [] h_len fd_h_len)
    (M_h_len : Meth K CH "__len__" h_len)
    (D_h_objects : FunD K "objects" "Heap.objects" (defArgs S_Heap_objects) (defBody S_Heap_objects) (defScope S_Heap_objects) [] [] h_objects fd_h_objects)
    (M_h_objects : Meth K CH "objects" h_objects)
    (D_h_names : FunD K "names" "Heap.names" (defArgs S_Heap_names) (defBody S_Heap_names) (defScope S_Heap_names) [] [] h_names fd_h_names)
    (M_h_names : Meth K CH "names" h_names)
    (D_m_init : FunD K "__init__" "Program.__init__" (defArgs S_Program___init__) (defBody S_Program___init__) (defScope S_Program___init__) [] [(("outputs" : Str), V.ref TE)] m_init fd_m_init)
    (M_m_init : Meth K CP "__init__" m_init)
    (D_m_rows : FunD K "rows" "Program.rows" (defArgs S_Program_rows) (defBody S_Program_rows) (defScope S_Program_rows) [] [] m_rows fd_m_rows)
    (M_m_rows : Meth K CP "rows" m_rows)
    (D_m_variables : FunD K "variables" "Program.variables" (defArgs S_Program_variables) (defBody S_Program_variables) (defScope S_Program_variables) [] [] m_variables fd_m_variables)
    (M_m_variables : Meth K CP "variables" m_variables)
    (D_x_init : FunD K "__init__" "Machine.__init__" (defArgs S_Machine___init__) (defBody S_Machine___init__) (defScope S_Machine___init__) [] [] x_init fd_x_init)
    (M_x_init : Meth K CM "__init__" x_init)
    (D_x_held : FunD K "held" "Machine.held" (defArgs S_Machine_held) (defBody S_Machine_held) (defScope S_Machine_held) [] [] x_held fd_x_held)
    (M_x_held : Meth K CM "held" x_held)
    (D_x_made : FunD K "made" "Machine.made" (defArgs S_Machine_made) (defBody S_Machine_made) (defScope S_Machine_made) [] [] x_made fd_x_made)
    (M_x_made : Meth K CM "made" x_made)
    (D_x_looks : FunD K "looks" "Machine.looks" (defArgs S_Machine_looks) (defBody S_Machine_looks) (defScope S_Machine_looks) [] [] x_looks fd_x_looks)
    (M_x_looks : Meth K CM "looks" x_looks)
    (D_x_write : FunD K "_write" "Machine._write" (defArgs S_Machine__write) (defBody S_Machine__write) (defScope S_Machine__write) [] [] x_write fd_x_write)
    (M_x_write : Meth K CM "_write" x_write)
    (D_x_nothing : FunD K "_nothing" "Machine._nothing" (defArgs S_Machine__nothing) (defBody S_Machine__nothing) (defScope S_Machine__nothing) [] [] x_nothing fd_x_nothing)
    (M_x_nothing : Meth K CM "_nothing" x_nothing)
    (D_x_value : FunD K "value" "Machine.value" (defArgs S_Machine_value) (defBody S_Machine_value) (defScope S_Machine_value) [] [] x_value fd_x_value)
    (M_x_value : Meth K CM "value" x_value)
    (D_x_reached : FunD K "reached" "Machine.reached" (defArgs S_Machine_reached) (defBody S_Machine_reached) (defScope S_Machine_reached) [] [] x_reached fd_x_reached)
    (M_x_reached : Meth K CM "reached" x_reached)
    (D_x_make : FunD K "_make" "Machine._make" (defArgs S_Machine__make) (defBody S_Machine__make) (defScope S_Machine__make) [] [] x_make fd_x_make)
    (M_x_make : Meth K CM "_make" x_make)
    (D_x_do : FunD K "do" "Machine.do" (defArgs S_Machine_do) (defBody S_Machine_do) (defScope S_Machine_do) [] [] x_do fd_x_do)
    (M_x_do : Meth K CM "do" x_do)
    (D_wk_init : FunD K "__init__" "Walk.__init__" (defArgs S_Walk___init__) (defBody S_Walk___init__) (defScope S_Walk___init__) [] [] wk_init fd_wk_init)
    (M_wk_init : Meth K CW "__init__" wk_init)
    (D_wk_do_steps : FunD K "_do_steps" "Walk._do_steps" (defArgs S_Walk__do_steps) (defBody S_Walk__do_steps) (defScope S_Walk__do_steps) [] [] wk_do_steps fd_wk_do_steps)
    (M_wk_do_steps : Meth K CW "_do_steps" wk_do_steps)
    (D_wk_pairs : FunD K "pairs" "Walk.pairs" (defArgs S_Walk_pairs) (defBody S_Walk_pairs) (defScope S_Walk_pairs) [] [] wk_pairs fd_wk_pairs)
    (M_wk_pairs : Meth K CW "pairs" wk_pairs)
    (D_r_init : FunD K "__init__" "Run.__init__" (defArgs S_Run___init__) (defBody S_Run___init__) (defScope S_Run___init__) [] [] r_init fd_r_init)
    (M_r_init : Meth K CR "__init__" r_init)
    (D_r_value : FunD K "value" "Run.value" (defArgs S_Run_value) (defBody S_Run_value) (defScope S_Run_value) [] [] r_value fd_r_value)
    (M_r_value : Meth K CR "value" r_value)
    (D_r_end : FunD K "end" "Run.end" (defArgs S_Run_end) (defBody S_Run_end) (defScope S_Run_end) [] [] r_end fd_r_end)
    (M_r_end : Meth K CR "end" r_end)
    (D_r_made : FunD K "made" "Run.made" (defArgs S_Run_made) (defBody S_Run_made) (defScope S_Run_made) [] [] r_made fd_r_made)
    (M_r_made : Meth K CR "made" r_made)
    (D_r_looks : FunD K "looks" "Run.looks" (defArgs S_Run_looks) (defBody S_Run_looks) (defScope S_Run_looks) [] [] r_looks fd_r_looks)
    (M_r_looks : Meth K CR "looks" r_looks)
    (D_r_reached : FunD K "reached" "Run.reached" (defArgs S_Run_reached) (defBody S_Run_reached) (defScope S_Run_reached) [] [] r_reached fd_r_reached)
    (M_r_reached : Meth K CR "reached" r_reached)
    (mg_CH : mg "Heap" = some (.ref CH))
    (cl_CH : Cls K CH)
    (no_CH_fields : PySem.W.findIn K (.ref CH) "fields" = some none)
    (no_CH_objects : PySem.W.findIn K (.ref CH) "_objects" = some none)
    (no_CH_names : PySem.W.findIn K (.ref CH) "_names" = some none)
    (no_CH_form : PySem.W.findIn K (.ref CH) "_form" = some none)
    (no_CH_rows : PySem.W.findIn K (.ref CH) "rows" = some none)
    (MK_CH : Mk K CH h_init)
    (mg_CP : mg "Program" = some (.ref CP))
    (cl_CP : Cls K CP)
    (no_CP_inputs : PySem.W.findIn K (.ref CP) "inputs" = some none)
    (no_CP_fields : PySem.W.findIn K (.ref CP) "fields" = some none)
    (no_CP_outputs : PySem.W.findIn K (.ref CP) "outputs" = some none)
    (no_CP_rows : PySem.W.findIn K (.ref CP) "_rows" = some none)
    (no_CP_table : PySem.W.findIn K (.ref CP) "_table" = some none)
    (no_CP_variables : PySem.W.findIn K (.ref CP) "_variables" = some none)
    (MK_CP : Mk K CP m_init)
    (mg_CM : mg "Machine" = some (.ref CM))
    (cl_CM : Cls K CM)
    (no_CM_fields : PySem.W.findIn K (.ref CM) "fields" = some none)
    (no_CM_starts : PySem.W.findIn K (.ref CM) "_starts" = some none)
    (no_CM_variables : PySem.W.findIn K (.ref CM) "_variables" = some none)
    (no_CM_cells : PySem.W.findIn K (.ref CM) "_cells" = some none)
    (no_CM_sources : PySem.W.findIn K (.ref CM) "_sources" = some none)
    (no_CM_frozen : PySem.W.findIn K (.ref CM) "_frozen" = some none)
    (no_CM_readers : PySem.W.findIn K (.ref CM) "_readers" = some none)
    (no_CM_looks : PySem.W.findIn K (.ref CM) "_looks" = some none)
    (no_CM_copies : PySem.W.findIn K (.ref CM) "_copies" = some none)
    (no_CM_puts : PySem.W.findIn K (.ref CM) "_puts" = some none)
    (no_CM_reached : PySem.W.findIn K (.ref CM) "_reached" = some none)
    (no_CM_views : PySem.W.findIn K (.ref CM) "_views" = some none)
    (no_CM_kept_copies : PySem.W.findIn K (.ref CM) "_kept_copies" = some none)
    (no_CM_kept_puts : PySem.W.findIn K (.ref CM) "_kept_puts" = some none)
    (no_CM_log : PySem.W.findIn K (.ref CM) "_log" = some none)
    (no_CM_before : PySem.W.findIn K (.ref CM) "_before" = some none)
    (MK_CM : Mk K CM x_init)
    (mg_CW : mg "Walk" = some (.ref CW))
    (cl_CW : Cls K CW)
    (no_CW_machine : PySem.W.findIn K (.ref CW) "machine" = some none)
    (no_CW_written : PySem.W.findIn K (.ref CW) "written" = some none)
    (no_CW_ending : PySem.W.findIn K (.ref CW) "ending" = some none)
    (MK_CW : Mk K CW wk_init)
    (mg_CR : mg "Run" = some (.ref CR))
    (cl_CR : Cls K CR)
    (no_CR_variables : PySem.W.findIn K (.ref CR) "_variables" = some none)
    (no_CR_machine : PySem.W.findIn K (.ref CR) "_machine" = some none)
    (no_CR_walk : PySem.W.findIn K (.ref CR) "_walk" = some none)
    (MK_CR : Mk K CR r_init)
    (B : Bl mg)
    (v_MOST_LETTERS : mg "MOST_LETTERS" = some (.int 8 t8))
    (v_MOST_FIELDS : mg "MOST_FIELDS" = some (.int 2 t2))
    (v_MOST_DEPTH : mg "MOST_DEPTH" = some (.int 4 tD))
    (v_MOST_INPUTS : mg "MOST_INPUTS" = some (.int 3 tI))
    (v_MOST_OUTPUTS : mg "MOST_OUTPUTS" = some (.int 3 tO))
    (v_MOST_ROWS : mg "MOST_ROWS" = some (.int 20 tR))
    (v_MOST_VARIABLES : mg "MOST_VARIABLES" = some (.int 6 tV))
    (v_MOST_COPIES : mg "MOST_COPIES" = some (.int 4 tC))
    (v_MOST_WATCHES : mg "MOST_WATCHES" = some (.int 3 tW))
    (v_LONGEST_PLACE : mg "LONGEST_PLACE" = some (.int 7 tL))
    (v_MOST_OBJECTS : mg "MOST_OBJECTS" = some (.int 200 tMO))
    (v_MOST_NAMES : mg "MOST_NAMES" = some (.int 6 tMN))
    (v_MOST_STARTS : mg "MOST_STARTS" = some (.int 100 tMS))
    (hi_hn : PySem.W.specialIn K (.builtin "object.__class__") "__get__" = some (some (.builtin "getset_descriptor.__get__")))
    (hi_ht : PySem.W.takesIn K (.builtin "object.__class__") = some true)
    (ha_CH : PySem.W.findIn K (.ref CH) "__class__" = some (some (.builtin "object.__class__")))
    (hm_CH : PySem.W.mroIn K CH (.type "object") = some true)
    (ic_CH : PySem.W.isClsIn K CH = true)
    (tc_CH : PySem.W.typeIn K (.ref CH) = some (.type "type"))
    (ha_CP : PySem.W.findIn K (.ref CP) "__class__" = some (some (.builtin "object.__class__")))
    (hm_CP : PySem.W.mroIn K CP (.type "object") = some true)
    (s_NoneType : PySem.W.subIn K (.type "NoneType") (.ref CH) = some false)
    (s_int : PySem.W.subIn K (.type "int") (.ref CH) = some false)
    (s_str : PySem.W.subIn K (.type "str") (.ref CH) = some false)
    (s_list : PySem.W.subIn K (.type "list") (.ref CH) = some false)
    (s_dict : PySem.W.subIn K (.type "dict") (.ref CH) = some false)
    (s_P : PySem.W.subIn K (.ref CP) (.ref CH) = some false)
    (q_TE : ∀ H, SqT K H TE ((([] : List Str)).map V.str))
    (q_DK : ∀ H, SqT K H DK ((["freeze", "thaw"] : List PySem.Str).map V.str))
    (s_f_move : ∃ T, PySem.W.nsIn K DF "move" = some (some (.ref T)) ∧ ∀ H, SqT K H T ((["variable", "variable"] : List PySem.Str).map V.str))
    (s_f_none : ∃ T, PySem.W.nsIn K DF "none" = some (some (.ref T)) ∧ ∀ H, SqT K H T ((["variable"] : List PySem.Str).map V.str))
    (s_f_new : ∃ T, PySem.W.nsIn K DF "new" = some (some (.ref T)) ∧ ∀ H, SqT K H T ((["variable"] : List PySem.Str).map V.str))
    (s_f_look : ∃ T, PySem.W.nsIn K DF "look" = some (some (.ref T)) ∧ ∀ H, SqT K H T ((["variable", "variable", "field"] : List PySem.Str).map V.str))
    (s_f_put : ∃ T, PySem.W.nsIn K DF "put" = some (some (.ref T)) ∧ ∀ H, SqT K H T ((["variable", "field", "variable"] : List PySem.Str).map V.str))
    (s_f_copy : ∃ T, PySem.W.nsIn K DF "copy" = some (some (.ref T)) ∧ ∀ H, SqT K H T ((["variable", "variable", "kind", "depth"] : List PySem.Str).map V.str))
    (s_f_watch : ∃ T, PySem.W.nsIn K DF "watch" = some (some (.ref T)) ∧ ∀ H, SqT K H T ((["reader", "variable", "depth"] : List PySem.Str).map V.str))
    (s_f_same : ∃ T, PySem.W.nsIn K DF "same" = some (some (.ref T)) ∧ ∀ H, SqT K H T ((["variable", "variable", "rows", "rows"] : List PySem.Str).map V.str))
    (s_f_empty : ∃ T, PySem.W.nsIn K DF "empty" = some (some (.ref T)) ∧ ∀ H, SqT K H T ((["variable", "rows", "rows"] : List PySem.Str).map V.str))
    (aKI : mg "KINDS" = some (.ref DK))
    (aFM : mg "FORMS" = some (.ref DF))
    (kdF : KDict K w DF es nE)
    (TX : PySem.ErrX.ErrTxt l.prog K mg "InvalidArgument" "wrong argument: " CE fI)
    (FC : FunC K "normal_form" "normal_form" S_normal_form f_normal_form fd_f_normal_form Cn)
    (hT : h.get? Pt = some { cls := .none, data := .fields #[] })
    (nT : K.lookup Pt = none)
    (hCo : PySem.W.CodeHd h Cn Pt) :
    ∃ (sp : Sp), (∀ (s : Shared) (u : Value), BindsTo s fd_f_law ⟨[u], []⟩ [("_law_script", u)]) ∧
      (∀ (H : Hp) (a : Addr) (ns : List Int), ns.length ≤ 63 → H Pt = some (.tbl #[]) → SqL K H a (ns.map V.int) → sp [.ref a] H (fun v _ => v = .bl true) fun _ _ _ => False) ∧
      ∀ base : Heap, K.In base → base.Ns mainGlobals mg → TabB base mg Cn Pt → FnG l.prog w K mg base CX0 15 f_law fd_f_law ["_law_script"] sp := by
  have F_f_is_integer : Fun K "is_integer" "is_integer" S_is_integer f_is_integer fd_f_is_integer := fun_of D_f_is_integer
  have b_f_is_integer := F_f_is_integer.binds (ps := P_is_integer) fun _ _ _ _ _ _ us hl => match us, hl with | [_], _ => rfl
  have d_f_is_integer : Df K mg "is_integer" S_is_integer f_is_integer _ P_is_integer := ⟨F_f_is_integer, a_f_is_integer, b_f_is_integer⟩
  have F_f_is_between : Fun K "is_between" "is_between" S_is_between f_is_between fd_f_is_between := fun_of D_f_is_between
  have b_f_is_between := F_f_is_between.binds (ps := P_is_between) fun _ _ _ _ _ _ us hl => match us, hl with | [_, _, _], _ => rfl
  have d_f_is_between : Df K mg "is_between" S_is_between f_is_between _ P_is_between := ⟨F_f_is_between, a_f_is_between, b_f_is_between⟩
  have F_f_is_word : Fun K "is_word" "is_word" S_is_word f_is_word fd_f_is_word := fun_of D_f_is_word
  have b_f_is_word := F_f_is_word.binds (ps := P_is_word) fun _ _ _ _ _ _ us hl => match us, hl with | [_], _ => rfl
  have d_f_is_word : Df K mg "is_word" S_is_word f_is_word _ P_is_word := ⟨F_f_is_word, a_f_is_word, b_f_is_word⟩
  have F_f_is_one_of : Fun K "is_one_of" "is_one_of" S_is_one_of f_is_one_of fd_f_is_one_of := fun_of D_f_is_one_of
  have b_f_is_one_of := F_f_is_one_of.binds (ps := P_is_one_of) fun _ _ _ _ _ _ us hl => match us, hl with | [_, _], _ => rfl
  have d_f_is_one_of : Df K mg "is_one_of" S_is_one_of f_is_one_of _ P_is_one_of := ⟨F_f_is_one_of, a_f_is_one_of, b_f_is_one_of⟩
  have F_f_are_words : Fun K "are_words" "are_words" S_are_words f_are_words fd_f_are_words := fun_of D_f_are_words
  have b_f_are_words := F_f_are_words.binds (ps := P_are_words) fun _ _ _ _ _ _ us hl => match us, hl with | [_, _, _], _ => rfl
  have d_f_are_words : Df K mg "are_words" S_are_words f_are_words _ P_are_words := ⟨F_f_are_words, a_f_are_words, b_f_are_words⟩
  have F_f_are_fields : Fun K "are_fields" "are_fields" S_are_fields f_are_fields fd_f_are_fields := fun_of D_f_are_fields
  have b_f_are_fields := F_f_are_fields.binds (ps := P_are_fields) fun _ _ _ _ _ _ us hl => match us, hl with | [_], _ => rfl
  have d_f_are_fields : Df K mg "are_fields" S_are_fields f_are_fields _ P_are_fields := ⟨F_f_are_fields, a_f_are_fields, b_f_are_fields⟩
  have F_f_has_form : Fun K "has_form" "has_form" S_has_form f_has_form fd_f_has_form := fun_of D_f_has_form
  have b_f_has_form := F_f_has_form.binds (ps := P_has_form) fun _ _ _ _ _ _ us hl => match us, hl with | [_], _ => rfl
  have d_f_has_form : Df K mg "has_form" S_has_form f_has_form _ P_has_form := ⟨F_f_has_form, a_f_has_form, b_f_has_form⟩
  have F_f_has_names : Fun K "has_names" "has_names" S_has_names f_has_names fd_f_has_names := fun_of D_f_has_names
  have b_f_has_names := F_f_has_names.binds (ps := P_has_names) fun _ _ _ _ _ _ us hl => match us, hl with | [_, _], _ => rfl
  have d_f_has_names : Df K mg "has_names" S_has_names f_has_names _ P_has_names := ⟨F_f_has_names, a_f_has_names, b_f_has_names⟩
  have F_f_is_right : Fun K "is_right" "is_right" S_is_right f_is_right fd_f_is_right := fun_of D_f_is_right
  have b_f_is_right := F_f_is_right.binds (ps := P_is_right) fun _ _ _ _ _ _ us hl => match us, hl with | [_, _, _], _ => rfl
  have d_f_is_right : Df K mg "is_right" S_is_right f_is_right _ P_is_right := ⟨F_f_is_right, a_f_is_right, b_f_is_right⟩
  have F_f_is_depth : Fun K "is_depth" "is_depth" S_is_depth f_is_depth fd_f_is_depth := fun_of D_f_is_depth
  have b_f_is_depth := F_f_is_depth.binds (ps := P_is_depth) fun _ _ _ _ _ _ us hl => match us, hl with | [_], _ => rfl
  have d_f_is_depth : Df K mg "is_depth" S_is_depth f_is_depth _ P_is_depth := ⟨F_f_is_depth, a_f_is_depth, b_f_is_depth⟩
  have F_f_row_variables : Fun K "row_variables" "row_variables" S_row_variables f_row_variables fd_f_row_variables := fun_of D_f_row_variables
  have b_f_row_variables := F_f_row_variables.binds (ps := P_row_variables) fun _ _ _ _ _ _ us hl => match us, hl with | [_], _ => rfl
  have d_f_row_variables : Df K mg "row_variables" S_row_variables f_row_variables _ P_row_variables := ⟨F_f_row_variables, a_f_row_variables, b_f_row_variables⟩
  have F_f_branches : Fun K "branches" "branches" S_branches f_branches fd_f_branches := fun_of D_f_branches
  have b_f_branches := F_f_branches.binds (ps := P_branches) fun _ _ _ _ _ _ us hl => match us, hl with | [_], _ => rfl
  have d_f_branches : Df K mg "branches" S_branches f_branches _ P_branches := ⟨F_f_branches, a_f_branches, b_f_branches⟩
  have F_f_with_branches : Fun K "with_branches" "with_branches" S_with_branches f_with_branches fd_f_with_branches := fun_of D_f_with_branches
  have b_f_with_branches := F_f_with_branches.binds (ps := P_with_branches) fun _ _ _ _ _ _ us hl => match us, hl with | [_, _], _ => rfl
  have d_f_with_branches : Df K mg "with_branches" S_with_branches f_with_branches _ P_with_branches := ⟨F_f_with_branches, a_f_with_branches, b_f_with_branches⟩
  have F_f_copied_rows : Fun K "copied_rows" "copied_rows" S_copied_rows f_copied_rows fd_f_copied_rows := fun_of D_f_copied_rows
  have b_f_copied_rows := F_f_copied_rows.binds (ps := P_copied_rows) fun _ _ _ _ _ _ us hl => match us, hl with | [_], _ => rfl
  have d_f_copied_rows : Df K mg "copied_rows" S_copied_rows f_copied_rows _ P_copied_rows := ⟨F_f_copied_rows, a_f_copied_rows, b_f_copied_rows⟩
  have F_f_copied_row : Fun K "copied_row" "copied_row" S_copied_row f_copied_row fd_f_copied_row := fun_of D_f_copied_row
  have b_f_copied_row := F_f_copied_row.binds (ps := P_copied_row) fun _ _ _ _ _ _ us hl => match us, hl with | [_], _ => rfl
  have d_f_copied_row : Df K mg "copied_row" S_copied_row f_copied_row _ P_copied_row := ⟨F_f_copied_row, a_f_copied_row, b_f_copied_row⟩
  have F_f_placed_rows : Fun K "placed_rows" "placed_rows" S_placed_rows f_placed_rows fd_f_placed_rows := fun_of D_f_placed_rows
  have b_f_placed_rows := F_f_placed_rows.binds (ps := P_placed_rows) fun _ _ _ _ _ _ us hl => match us, hl with | [_, _], _ => rfl
  have d_f_placed_rows : Df K mg "placed_rows" S_placed_rows f_placed_rows _ P_placed_rows := ⟨F_f_placed_rows, a_f_placed_rows, b_f_placed_rows⟩
  have F_f_inner_rows : Fun K "inner_rows" "inner_rows" S_inner_rows f_inner_rows fd_f_inner_rows := fun_of D_f_inner_rows
  have b_f_inner_rows := F_f_inner_rows.binds (ps := P_inner_rows) fun _ _ _ _ _ _ us hl => match us, hl with | [_, _], _ => rfl
  have d_f_inner_rows : Df K mg "inner_rows" S_inner_rows f_inner_rows _ P_inner_rows := ⟨F_f_inner_rows, a_f_inner_rows, b_f_inner_rows⟩
  have F_f_checked_rows : Fun K "checked_rows" "checked_rows" S_checked_rows f_checked_rows fd_f_checked_rows := fun_of D_f_checked_rows
  have b_f_checked_rows := F_f_checked_rows.binds (ps := P_checked_rows) fun _ _ _ _ _ _ us hl => match us, hl with | [_, _], _ => rfl
  have d_f_checked_rows : Df K mg "checked_rows" S_checked_rows f_checked_rows _ P_checked_rows := ⟨F_f_checked_rows, a_f_checked_rows, b_f_checked_rows⟩
  have F_f_check_row : Fun K "check_row" "check_row" S_check_row f_check_row fd_f_check_row := fun_of D_f_check_row
  have b_f_check_row := F_f_check_row.binds (ps := P_check_row) fun _ _ _ _ _ _ us hl => match us, hl with | [_, _, _, _], _ => rfl
  have d_f_check_row : Df K mg "check_row" S_check_row f_check_row _ P_check_row := ⟨F_f_check_row, a_f_check_row, b_f_check_row⟩
  have F_f_all_variables : Fun K "all_variables" "all_variables" S_all_variables f_all_variables fd_f_all_variables := fun_of D_f_all_variables
  have b_f_all_variables := F_f_all_variables.binds (ps := P_all_variables) fun _ _ _ _ _ _ us hl => match us, hl with | [_, _, _], _ => rfl
  have d_f_all_variables : Df K mg "all_variables" S_all_variables f_all_variables _ P_all_variables := ⟨F_f_all_variables, a_f_all_variables, b_f_all_variables⟩
  have F_f_check_many : Fun K "check_many" "check_many" S_check_many f_check_many fd_f_check_many := fun_of D_f_check_many
  have b_f_check_many := F_f_check_many.binds (ps := P_check_many) fun _ _ _ _ _ _ us hl => match us, hl with | [_, _], _ => rfl
  have d_f_check_many : Df K mg "check_many" S_check_many f_check_many _ P_check_many := ⟨F_f_check_many, a_f_check_many, b_f_check_many⟩
  have F_f_check_objects : Fun K "check_objects" "check_objects" S_check_objects f_check_objects fd_f_check_objects := fun_of D_f_check_objects
  have b_f_check_objects := F_f_check_objects.binds (ps := P_check_objects) fun _ _ _ _ _ _ us hl => match us, hl with | [_, _], _ => rfl
  have d_f_check_objects : Df K mg "check_objects" S_check_objects f_check_objects _ P_check_objects := ⟨F_f_check_objects, a_f_check_objects, b_f_check_objects⟩
  have F_f_check_names : Fun K "check_names" "check_names" S_check_names f_check_names fd_f_check_names := fun_of D_f_check_names
  have b_f_check_names := F_f_check_names.binds (ps := P_check_names) fun _ _ _ _ _ _ us hl => match us, hl with | [_, _], _ => rfl
  have d_f_check_names : Df K mg "check_names" S_check_names f_check_names _ P_check_names := ⟨F_f_check_names, a_f_check_names, b_f_check_names⟩
  have F_f_is_object : Fun K "is_object" "is_object" S_is_object f_is_object fd_f_is_object := fun_of D_f_is_object
  have b_f_is_object := F_f_is_object.binds (ps := P_is_object) fun _ _ _ _ _ _ us hl => match us, hl with | [_, _, _], _ => rfl
  have d_f_is_object : Df K mg "is_object" S_is_object f_is_object _ P_is_object := ⟨F_f_is_object, a_f_is_object, b_f_is_object⟩
  have F_f_is_held : Fun K "is_held" "is_held" S_is_held f_is_held fd_f_is_held := fun_of D_f_is_held
  have b_f_is_held := F_f_is_held.binds (ps := P_is_held) fun _ _ _ _ _ _ us hl => match us, hl with | [_, _], _ => rfl
  have d_f_is_held : Df K mg "is_held" S_is_held f_is_held _ P_is_held := ⟨F_f_is_held, a_f_is_held, b_f_is_held⟩
  have F_f_normal_form : Fun K "normal_form" "normal_form" S_normal_form f_normal_form fd_f_normal_form := fun_of D_f_normal_form
  have b_f_normal_form := F_f_normal_form.binds (ps := P_normal_form) fun _ _ _ _ _ _ us hl => match us, hl with | [_, _, _], _ => rfl
  have d_f_normal_form : Df K mg "normal_form" S_normal_form f_normal_form _ P_normal_form := ⟨F_f_normal_form, a_f_normal_form, b_f_normal_form⟩
  have F_f_new_numbers : Fun K "new_numbers" "new_numbers" S_new_numbers f_new_numbers fd_f_new_numbers := fun_of D_f_new_numbers
  have b_f_new_numbers := F_f_new_numbers.binds (ps := P_new_numbers) fun _ _ _ _ _ _ us hl => match us, hl with | [_, _], _ => rfl
  have d_f_new_numbers : Df K mg "new_numbers" S_new_numbers f_new_numbers _ P_new_numbers := ⟨F_f_new_numbers, a_f_new_numbers, b_f_new_numbers⟩
  have F_f_steps_of : Fun K "steps_of" "steps_of" S_steps_of f_steps_of fd_f_steps_of := fun_of D_f_steps_of
  have b_f_steps_of := F_f_steps_of.binds (ps := P_steps_of) fun _ _ _ _ _ _ us hl => match us, hl with | [_, _], _ => rfl
  have d_f_steps_of : Df K mg "steps_of" S_steps_of f_steps_of _ P_steps_of := ⟨F_f_steps_of, a_f_steps_of, b_f_steps_of⟩
  have F_f_fits : Fun K "fits" "fits" S_fits f_fits fd_f_fits := fun_of D_f_fits
  have b_f_fits := F_f_fits.binds (ps := P_fits) fun _ _ _ _ _ _ us hl => match us, hl with | [_, _], _ => rfl
  have d_f_fits : Df K mg "fits" S_fits f_fits _ P_fits := ⟨F_f_fits, a_f_fits, b_f_fits⟩
  have F_f_law_draw : Fun K "_law_draw" "_law_draw" S_law_draw f_law_draw fd_f_law_draw := fun_of D_f_law_draw
  have b_f_law_draw := F_f_law_draw.binds (ps := P_law_draw) fun _ _ _ _ _ _ us hl => match us, hl with | [_, _], _ => rfl
  have d_f_law_draw : Df K mg "_law_draw" S_law_draw f_law_draw _ P_law_draw := ⟨F_f_law_draw, a_f_law_draw, b_f_law_draw⟩
  have F_f_law_pick : Fun K "_law_pick" "_law_pick" S_law_pick f_law_pick fd_f_law_pick := fun_of D_f_law_pick
  have b_f_law_pick := F_f_law_pick.binds (ps := P_law_pick) fun _ _ _ _ _ _ us hl => match us, hl with | [_, _], _ => rfl
  have d_f_law_pick : Df K mg "_law_pick" S_law_pick f_law_pick _ P_law_pick := ⟨F_f_law_pick, a_f_law_pick, b_f_law_pick⟩
  have F_f_law_word : Fun K "_law_word" "_law_word" S_law_word f_law_word fd_f_law_word := fun_of D_f_law_word
  have b_f_law_word := F_f_law_word.binds (ps := P_law_word) fun _ _ _ _ _ _ us hl => match us, hl with | [_, _], _ => rfl
  have d_f_law_word : Df K mg "_law_word" S_law_word f_law_word _ P_law_word := ⟨F_f_law_word, a_f_law_word, b_f_law_word⟩
  have F_f_law_words : Fun K "_law_words" "_law_words" S_law_words f_law_words fd_f_law_words := fun_of D_f_law_words
  have b_f_law_words := F_f_law_words.binds (ps := P_law_words) fun _ _ _ _ _ _ us hl => match us, hl with | [_, _, _], _ => rfl
  have d_f_law_words : Df K mg "_law_words" S_law_words f_law_words _ P_law_words := ⟨F_f_law_words, a_f_law_words, b_f_law_words⟩
  have F_f_law_value : Fun K "_law_value" "_law_value" S_law_value f_law_value fd_f_law_value := fun_of D_f_law_value
  have b_f_law_value := F_f_law_value.binds (ps := P_law_value) fun _ _ _ _ _ _ us hl => match us, hl with | [_, _], _ => rfl
  have d_f_law_value : Df K mg "_law_value" S_law_value f_law_value _ P_law_value := ⟨F_f_law_value, a_f_law_value, b_f_law_value⟩
  have F_f_law_objects : Fun K "_law_objects" "_law_objects" S_law_objects f_law_objects fd_f_law_objects := fun_of D_f_law_objects
  have b_f_law_objects := F_f_law_objects.binds (ps := P_law_objects) fun _ _ _ _ _ _ us hl => match us, hl with | [_, _, _], _ => rfl
  have d_f_law_objects : Df K mg "_law_objects" S_law_objects f_law_objects _ P_law_objects := ⟨F_f_law_objects, a_f_law_objects, b_f_law_objects⟩
  have F_f_law_names : Fun K "_law_names" "_law_names" S_law_names f_law_names fd_f_law_names := fun_of D_f_law_names
  have b_f_law_names := F_f_law_names.binds (ps := P_law_names) fun _ _ _ _ _ _ us hl => match us, hl with | [_, _, _], _ => rfl
  have d_f_law_names : Df K mg "_law_names" S_law_names f_law_names _ P_law_names := ⟨F_f_law_names, a_f_law_names, b_f_law_names⟩
  have F_f_law_exact : Fun K "_law_exact" "_law_exact" S_law_exact f_law_exact fd_f_law_exact := fun_of D_f_law_exact
  have b_f_law_exact := F_f_law_exact.binds (ps := P_law_exact) fun _ _ _ _ _ _ us hl => match us, hl with | [_, _], _ => rfl
  have d_f_law_exact : Df K mg "_law_exact" S_law_exact f_law_exact _ P_law_exact := ⟨F_f_law_exact, a_f_law_exact, b_f_law_exact⟩
  have F_f_law_refused : Fun K "_law_refused" "_law_refused" S_law_refused f_law_refused fd_f_law_refused := fun_of D_f_law_refused
  have b_f_law_refused := F_f_law_refused.binds (ps := P_law_refused) fun _ _ _ _ _ _ us hl => match us, hl with | [_, _], _ => rfl
  have d_f_law_refused : Df K mg "_law_refused" S_law_refused f_law_refused _ P_law_refused := ⟨F_f_law_refused, a_f_law_refused, b_f_law_refused⟩
  have F_f_law_no_heap : Fun K "_law_no_heap" "_law_no_heap" S_law_no_heap f_law_no_heap fd_f_law_no_heap := fun_of D_f_law_no_heap
  have b_f_law_no_heap := F_f_law_no_heap.binds (ps := P_law_no_heap) fun _ _ _ _ _ _ us hl => match us, hl with | [_, _], _ => rfl
  have d_f_law_no_heap : Df K mg "_law_no_heap" S_law_no_heap f_law_no_heap _ P_law_no_heap := ⟨F_f_law_no_heap, a_f_law_no_heap, b_f_law_no_heap⟩
  have F_f_law_refusals : Fun K "_law_refusals" "_law_refusals" S_law_refusals f_law_refusals fd_f_law_refusals := fun_of D_f_law_refusals
  have b_f_law_refusals := F_f_law_refusals.binds (ps := P_law_refusals) fun _ _ _ _ _ _ us hl => match us, hl with | [_, _, _, _], _ => rfl
  have d_f_law_refusals : Df K mg "_law_refusals" S_law_refusals f_law_refusals _ P_law_refusals := ⟨F_f_law_refusals, a_f_law_refusals, b_f_law_refusals⟩
  have F_f_law : Fun K "law" "law" S_law f_law fd_f_law := fun_of D_f_law
  have b_f_law := F_f_law.binds (ps := P_law) fun _ _ _ _ _ _ us hl => match us, hl with | [_], _ => rfl
  have F_h_init : Fun K "__init__" "Heap.__init__" S_Heap___init__ h_init fd_h_init := fun_of D_h_init
  have b_h_init := F_h_init.binds (ps := P_Heap___init__) fun _ _ _ _ _ _ us hl => match us, hl with | [_, _, _, _], _ => rfl
  have ⟨a_h_init, i_h_init, k_h_init⟩ := M_h_init
  have F_h_len : Fun K "__len__" "Heap.__len__" S_Heap___len__ h_len fd_h_len := fun_of D_h_len
  have b_h_len := F_h_len.binds (ps := P_Heap___len__) fun _ _ _ _ _ _ us hl => match us, hl with | [_], _ => rfl
  have ⟨a_h_len, i_h_len, k_h_len⟩ := M_h_len
  have F_h_objects : Fun K "objects" "Heap.objects" S_Heap_objects h_objects fd_h_objects := fun_of D_h_objects
  have b_h_objects := F_h_objects.binds (ps := P_Heap_objects) fun _ _ _ _ _ _ us hl => match us, hl with | [_], _ => rfl
  have ⟨a_h_objects, i_h_objects, k_h_objects⟩ := M_h_objects
  have F_h_names : Fun K "names" "Heap.names" S_Heap_names h_names fd_h_names := fun_of D_h_names
  have b_h_names := F_h_names.binds (ps := P_Heap_names) fun _ _ _ _ _ _ us hl => match us, hl with | [_], _ => rfl
  have ⟨a_h_names, i_h_names, k_h_names⟩ := M_h_names
  have F_m_init := D_m_init
  obtain ⟨dsI, hdvI, bI⟩ := F_m_init.binds0 (ps := P_Program___init__) 4 (fun z => nomatch z) rfl (fun D doc pm an cdv ct us ks l1 l2 => match us, ks, l1, l2 with | [_, _, _, _], [_], _, _ => ⟨_, _, _, _, _, _, rfl, rfl, rfl⟩)
  have ⟨a_m_init, i_m_init, k_m_init⟩ := M_m_init
  have F_m_rows : Fun K "rows" "Program.rows" S_Program_rows m_rows fd_m_rows := fun_of D_m_rows
  have b_m_rows := F_m_rows.binds (ps := P_Program_rows) fun _ _ _ _ _ _ us hl => match us, hl with | [_], _ => rfl
  have ⟨a_m_rows, i_m_rows, k_m_rows⟩ := M_m_rows
  have F_m_variables : Fun K "variables" "Program.variables" S_Program_variables m_variables fd_m_variables := fun_of D_m_variables
  have b_m_variables := F_m_variables.binds (ps := P_Program_variables) fun _ _ _ _ _ _ us hl => match us, hl with | [_], _ => rfl
  have ⟨a_m_variables, i_m_variables, k_m_variables⟩ := M_m_variables
  have F_x_init : Fun K "__init__" "Machine.__init__" S_Machine___init__ x_init fd_x_init := fun_of D_x_init
  have b_x_init := F_x_init.binds (ps := P_Machine___init__) fun _ _ _ _ _ _ us hl => match us, hl with | [_, _, _, _], _ => rfl
  have ⟨a_x_init, i_x_init, k_x_init⟩ := M_x_init
  have F_x_held : Fun K "held" "Machine.held" S_Machine_held x_held fd_x_held := fun_of D_x_held
  have b_x_held := F_x_held.binds (ps := P_Machine_held) fun _ _ _ _ _ _ us hl => match us, hl with | [_, _], _ => rfl
  have ⟨a_x_held, i_x_held, k_x_held⟩ := M_x_held
  have F_x_made : Fun K "made" "Machine.made" S_Machine_made x_made fd_x_made := fun_of D_x_made
  have b_x_made := F_x_made.binds (ps := P_Machine_made) fun _ _ _ _ _ _ us hl => match us, hl with | [_], _ => rfl
  have ⟨a_x_made, i_x_made, k_x_made⟩ := M_x_made
  have F_x_looks : Fun K "looks" "Machine.looks" S_Machine_looks x_looks fd_x_looks := fun_of D_x_looks
  have b_x_looks := F_x_looks.binds (ps := P_Machine_looks) fun _ _ _ _ _ _ us hl => match us, hl with | [_], _ => rfl
  have ⟨a_x_looks, i_x_looks, k_x_looks⟩ := M_x_looks
  have F_x_write : Fun K "_write" "Machine._write" S_Machine__write x_write fd_x_write := fun_of D_x_write
  have b_x_write := F_x_write.binds (ps := P_Machine__write) fun _ _ _ _ _ _ us hl => match us, hl with | [_, _, _, _], _ => rfl
  have ⟨a_x_write, i_x_write, k_x_write⟩ := M_x_write
  have F_x_nothing : Fun K "_nothing" "Machine._nothing" S_Machine__nothing x_nothing fd_x_nothing := fun_of D_x_nothing
  have b_x_nothing := F_x_nothing.binds (ps := P_Machine__nothing) fun _ _ _ _ _ _ us hl => match us, hl with | [_], _ => rfl
  have ⟨a_x_nothing, i_x_nothing, k_x_nothing⟩ := M_x_nothing
  have F_x_value : Fun K "value" "Machine.value" S_Machine_value x_value fd_x_value := fun_of D_x_value
  have b_x_value := F_x_value.binds (ps := P_Machine_value) fun _ _ _ _ _ _ us hl => match us, hl with | [_, _], _ => rfl
  have ⟨a_x_value, i_x_value, k_x_value⟩ := M_x_value
  have F_x_reached : Fun K "reached" "Machine.reached" S_Machine_reached x_reached fd_x_reached := fun_of D_x_reached
  have b_x_reached := F_x_reached.binds (ps := P_Machine_reached) fun _ _ _ _ _ _ us hl => match us, hl with | [_], _ => rfl
  have ⟨a_x_reached, i_x_reached, k_x_reached⟩ := M_x_reached
  have F_x_make : Fun K "_make" "Machine._make" S_Machine__make x_make fd_x_make := fun_of D_x_make
  have b_x_make := F_x_make.binds (ps := P_Machine__make) fun _ _ _ _ _ _ us hl => match us, hl with | [_, _, _, _], _ => rfl
  have ⟨a_x_make, i_x_make, k_x_make⟩ := M_x_make
  have F_x_do : Fun K "do" "Machine.do" S_Machine_do x_do fd_x_do := fun_of D_x_do
  have b_x_do := F_x_do.binds (ps := P_Machine_do) fun _ _ _ _ _ _ us hl => match us, hl with | [_, _], _ => rfl
  have ⟨a_x_do, i_x_do, k_x_do⟩ := M_x_do
  have F_wk_init : Fun K "__init__" "Walk.__init__" S_Walk___init__ wk_init fd_wk_init := fun_of D_wk_init
  have b_wk_init := F_wk_init.binds (ps := P_Walk___init__) fun _ _ _ _ _ _ us hl => match us, hl with | [_, _, _], _ => rfl
  have ⟨a_wk_init, i_wk_init, k_wk_init⟩ := M_wk_init
  have F_wk_do_steps : Fun K "_do_steps" "Walk._do_steps" S_Walk__do_steps wk_do_steps fd_wk_do_steps := fun_of D_wk_do_steps
  have b_wk_do_steps := F_wk_do_steps.binds (ps := P_Walk__do_steps) fun _ _ _ _ _ _ us hl => match us, hl with | [_, _], _ => rfl
  have ⟨a_wk_do_steps, i_wk_do_steps, k_wk_do_steps⟩ := M_wk_do_steps
  have F_wk_pairs : Fun K "pairs" "Walk.pairs" S_Walk_pairs wk_pairs fd_wk_pairs := fun_of D_wk_pairs
  have b_wk_pairs := F_wk_pairs.binds (ps := P_Walk_pairs) fun _ _ _ _ _ _ us hl => match us, hl with | [_], _ => rfl
  have ⟨a_wk_pairs, i_wk_pairs, k_wk_pairs⟩ := M_wk_pairs
  have F_r_init : Fun K "__init__" "Run.__init__" S_Run___init__ r_init fd_r_init := fun_of D_r_init
  have b_r_init := F_r_init.binds (ps := P_Run___init__) fun _ _ _ _ _ _ us hl => match us, hl with | [_, _, _], _ => rfl
  have ⟨a_r_init, i_r_init, k_r_init⟩ := M_r_init
  have F_r_value : Fun K "value" "Run.value" S_Run_value r_value fd_r_value := fun_of D_r_value
  have b_r_value := F_r_value.binds (ps := P_Run_value) fun _ _ _ _ _ _ us hl => match us, hl with | [_, _], _ => rfl
  have ⟨a_r_value, i_r_value, k_r_value⟩ := M_r_value
  have F_r_end : Fun K "end" "Run.end" S_Run_end r_end fd_r_end := fun_of D_r_end
  have b_r_end := F_r_end.binds (ps := P_Run_end) fun _ _ _ _ _ _ us hl => match us, hl with | [_], _ => rfl
  have ⟨a_r_end, i_r_end, k_r_end⟩ := M_r_end
  have F_r_made : Fun K "made" "Run.made" S_Run_made r_made fd_r_made := fun_of D_r_made
  have b_r_made := F_r_made.binds (ps := P_Run_made) fun _ _ _ _ _ _ us hl => match us, hl with | [_], _ => rfl
  have ⟨a_r_made, i_r_made, k_r_made⟩ := M_r_made
  have F_r_looks : Fun K "looks" "Run.looks" S_Run_looks r_looks fd_r_looks := fun_of D_r_looks
  have b_r_looks := F_r_looks.binds (ps := P_Run_looks) fun _ _ _ _ _ _ us hl => match us, hl with | [_], _ => rfl
  have ⟨a_r_looks, i_r_looks, k_r_looks⟩ := M_r_looks
  have F_r_reached : Fun K "reached" "Run.reached" S_Run_reached r_reached fd_r_reached := fun_of D_r_reached
  have b_r_reached := F_r_reached.binds (ps := P_Run_reached) fun _ _ _ _ _ _ us hl => match us, hl with | [_], _ => rfl
  have ⟨a_r_reached, i_r_reached, k_r_reached⟩ := M_r_reached
  have bA : ∀ (s : Shared) (u : Value), BindsTo s fd_f_law ⟨[u], []⟩ [("_law_script", u)] := fun s u => FunD.bindsA (ps := ["_law_script"]) D_f_law (fun _ _ _ _ _ _ us hl => match us, hl with | [_], _ => rfl) s [u] rfl
  have TH : HC K mg CH := ⟨cl_CH, no_CH_fields, no_CH_objects, no_CH_names, no_CH_form, mg_CH⟩
  have TP : HCP K mg CP := ⟨cl_CP, no_CP_inputs, no_CP_fields, no_CP_outputs, no_CP_rows, no_CP_table, no_CP_variables, mg_CP⟩
  have TM : HCM K mg CM := ⟨cl_CM, mg_CM, no_CM_fields, no_CM_starts, no_CM_variables, no_CM_cells, no_CM_sources, no_CM_frozen, no_CM_readers, no_CM_looks, no_CM_copies, no_CM_puts, no_CM_reached, no_CM_views, no_CM_kept_copies, no_CM_kept_puts, no_CM_log, no_CM_before⟩
  have TW : HCW K mg CW := ⟨cl_CW, mg_CW, no_CW_machine, no_CW_written, no_CW_ending⟩
  have TR : HCR K mg CR := ⟨cl_CR, mg_CR, no_CR_variables, no_CR_machine, no_CR_walk⟩
  have IH : HCi K CH := ⟨ha_CH, hi_hn, hi_ht, hm_CH⟩
  have IP : HCi K CP := ⟨ha_CP, hi_hn, hi_ht, hm_CP⟩
  have nPH : CP ≠ CH := fun e => by
    rw [e, no_CH_rows] at a_m_rows
    cases a_m_rows
  have KH : KitH K CH CP := ⟨kit_no ic_CH tc_CH ne_ty s_NoneType, kit_no ic_CH tc_CH ne_ty s_int, kit_no ic_CH tc_CH ne_ty s_str, kit_no ic_CH tc_CH ne_ty s_list, kit_no ic_CH tc_CH ne_ty s_dict, kit_no ic_CH tc_CH (ne_ref nPH) s_P⟩
  have FM : FormsK K w mg DF es nE := ⟨aFM, kdF, fun {k rs} h => by
    rcases forms_cases h with ⟨rfl, rfl⟩ | ⟨rfl, rfl⟩ | ⟨rfl, rfl⟩ | ⟨rfl, rfl⟩ | ⟨rfl, rfl⟩ | ⟨rfl, rfl⟩ | ⟨rfl, rfl⟩ | ⟨rfl, rfl⟩ | ⟨rfl, rfl⟩
    · exact s_f_move
    · exact s_f_none
    · exact s_f_new
    · exact s_f_look
    · exact s_f_put
    · exact s_f_copy
    · exact s_f_watch
    · exact s_f_same
    · exact s_f_empty⟩
  refine ⟨spLaw K Pt, bA, fun H a ns hl hH hS => ⟨a, ns, rfl, (fun p hp => by rw [List.mem_singleton.mp hp]; exact TabS.nil hH), hS, hl, fun _ => rfl⟩, fun base _ _ TB => ?_⟩
  have G_f_is_integer := ok_is_integer (P := l.prog) (w := w) (mg := mg) (base := base) F_f_is_integer B
  have G_f_is_between := ok_is_between (P := l.prog) (w := w) (mg := mg) (base := base) F_f_is_between B d_f_is_integer G_f_is_integer
  have G_f_is_word := ok_is_word (P := l.prog) (w := w) (mg := mg) (base := base) F_f_is_word B v_MOST_LETTERS
  have G_f_is_one_of := ok_is_one_of (P := l.prog) (w := w) (mg := mg) (base := base) F_f_is_one_of B
  have G_f_are_words := ok_are_words (P := l.prog) (w := w) (mg := mg) (base := base) F_f_are_words B d_f_is_word G_f_is_word
  have G_f_are_fields := ok_are_fields (P := l.prog) (w := w) (mg := mg) (base := base) F_f_are_fields v_MOST_FIELDS d_f_are_words G_f_are_words
  have G_f_is_depth := ok_is_depth (P := l.prog) (w := w) (mg := mg) (base := base) F_f_is_depth d_f_is_between G_f_is_between v_MOST_DEPTH
  have G_f_branches := ok_branches (P := l.prog) (w := w) (mg := mg) (base := base) F_f_branches B FM
  have G_f_row_variables := ok_row_variables (P := l.prog) (w := w) (mg := mg) (base := base) F_f_row_variables B FM
  have G_f_with_branches := ok_with_branches (P := l.prog) (w := w) (mg := mg) (base := base) F_f_with_branches B
  have G_f_placed_rows := ok_placed_rows (P := l.prog) (w := w) (mg := mg) (base := base) F_f_placed_rows B
  have G_cps : ∀ (ws fs : List Str) (n : Nat), FnOk l.prog w K mg base CX0 (2 * n + 2) f_copied_row _ P_copied_row (spCopyR ws fs n) ∧ FnOk l.prog w K mg base CX0 (2 * n + 3) f_copied_rows _ P_copied_rows (spCopies ws fs n) := fun ws fs n => ok_copies (ws := ws) (fs := fs) F_f_copied_row F_f_copied_rows B d_f_branches G_f_branches d_f_with_branches G_f_with_branches d_f_copied_row d_f_copied_rows n
  have G_chk : ∀ ws fs : List Str, FnOk l.prog w K mg base CX0 7 f_checked_rows _ P_checked_rows (spChecked K ws fs) := fun ws fs => ok_checked_rows F_f_checked_rows B d_f_check_row (ok_check_row (ws := ws) (fs := fs) F_f_check_row B v_LONGEST_PLACE d_f_has_form (ok_has_form (ws := ws) (fs := fs) F_f_has_form B FM) d_f_has_names (ok_has_names F_f_has_names B FM d_f_is_right (ok_is_right (ws := ws) (fs := fs) F_f_is_right d_f_is_one_of G_f_is_one_of d_f_is_depth G_f_is_depth d_f_is_word G_f_is_word aKI q_DK))) d_f_placed_rows G_f_placed_rows d_f_inner_rows (ok_inner_rows (ws := ws) (fs := fs) F_f_inner_rows B d_f_branches G_f_branches d_f_placed_rows G_f_placed_rows)
  have G_m_init := ok_progI F_m_init B TP v_MOST_INPUTS v_MOST_OUTPUTS d_f_are_words G_f_are_words d_f_are_fields G_f_are_fields d_f_checked_rows G_chk d_f_all_variables (fun ws fs => ok_all_variables (ws := ws) (fs := fs) F_f_all_variables B d_f_row_variables G_f_row_variables) d_f_check_many (fun ws fs => ok_check_many (P := l.prog) (w := w) (mg := mg) (base := base) (ws := ws) (fs := fs) F_f_check_many B v_MOST_ROWS v_MOST_VARIABLES v_MOST_COPIES v_MOST_WATCHES) d_f_copied_rows d_f_copied_row G_cps
  have G_m_rows := ok_prows (P := l.prog) (w := w) (mg := mg) (base := base) F_m_rows TP d_f_copied_rows (fun ws fs n => (G_cps ws fs n).2)
  have G_m_variables := ok_pvars (P := l.prog) (w := w) (mg := mg) (base := base) F_m_variables B TP
  have G_f_is_held := ok_is_held (P := l.prog) (w := w) (mg := mg) (base := base) F_f_is_held d_f_is_between G_f_is_between
  have G_f_is_object := ok_is_object (P := l.prog) (w := w) (mg := mg) (base := base) F_f_is_object B d_f_is_held G_f_is_held
  have G_f_check_objects := ok_check_objects (P := l.prog) (w := w) (mg := mg) (base := base) F_f_check_objects B v_MOST_OBJECTS d_f_is_object G_f_is_object
  have G_f_check_names := ok_check_names (P := l.prog) (w := w) (mg := mg) (base := base) F_f_check_names B v_MOST_NAMES d_f_is_held G_f_is_held d_f_is_word G_f_is_word
  have G_f_normal_form : FnOk l.prog w K mg base CX0 3 f_normal_form _ P_normal_form (spNF K Pt) := ok_normal_form FC TB B d_f_new_numbers
  have G_h_init : FnOk l.prog w K mg base CX0 6 h_init _ P_Heap___init__ (spInit K CH Pt) := ok_init F_h_init B TH d_f_are_fields G_f_are_fields d_f_check_objects G_f_check_objects d_f_check_names G_f_check_names d_f_normal_form G_f_normal_form
  have G_h_len := ok_lenH (P := l.prog) (w := w) (mg := mg) (base := base) F_h_len B TH
  have G_h_names := ok_nms (P := l.prog) (w := w) (mg := mg) (base := base) F_h_names B TH
  have G_h_objects := ok_obs (P := l.prog) (w := w) (mg := mg) (base := base) F_h_objects B TH
  have G_x_init := ok_mach (P := l.prog) (w := w) (mg := mg) (base := base) F_x_init B TM
  have G_x_held := ok_held (P := l.prog) (w := w) (mg := mg) (base := base) F_x_held TM
  have G_x_made := ok_made (P := l.prog) (w := w) (mg := mg) (base := base) F_x_made B TM
  have G_x_looks := ok_looksM (P := l.prog) (w := w) (mg := mg) (base := base) F_x_looks B TM
  have G_x_write := ok_writeM (P := l.prog) (w := w) (mg := mg) (base := base) F_x_write TM
  have G_x_nothing := ok_nothing (P := l.prog) (w := w) (mg := mg) (base := base) F_x_nothing TM
  have G_x_value := ok_valueM (P := l.prog) (w := w) (mg := mg) (base := base) F_x_value TM
  have G_x_reached := ok_reachedM (P := l.prog) (w := w) (mg := mg) (base := base) F_x_reached B TM
  have G_x_make := ok_make (P := l.prog) (w := w) (mg := mg) (base := base) F_x_make B TM M_x_write G_x_write b_x_write
  have G_x_do := ok_do (P := l.prog) (w := w) (mg := mg) (base := base) F_x_do B TM M_x_write G_x_write b_x_write M_x_held G_x_held b_x_held M_x_nothing G_x_nothing b_x_nothing M_x_make G_x_make b_x_make
  have G_f_steps_of := ok_steps (P := l.prog) (w := w) (mg := mg) (base := base) F_f_steps_of B d_f_placed_rows G_f_placed_rows d_f_branches G_f_branches d_f_steps_of ⟨fun _ _ _ _ h => False.elim h, fun _ _ _ _ _ _ _ _ _ _ _ _ _ h => False.elim h⟩
  have G_wk_do_steps := ok_do_steps (P := l.prog) (w := w) (mg := mg) (base := base) F_wk_do_steps TW TM M_x_do G_x_do b_x_do
  have G_wk_init := ok_walkI (P := l.prog) (w := w) (mg := mg) (base := base) F_wk_init TW M_wk_do_steps G_wk_do_steps b_wk_do_steps
  have G_wk_pairs := ok_pairs (P := l.prog) (w := w) (mg := mg) (base := base) F_wk_pairs B TW TM M_x_reached G_x_reached b_x_reached
  have G_f_fits := ok_fits (P := l.prog) (w := w) (mg := mg) (base := base) F_f_fits B TH IH TP v_MOST_STARTS G_h_len a_h_len i_h_len b_h_len M_h_names G_h_names b_h_names
  have G_r_init := ok_runI (P := l.prog) (w := w) (mg := mg) (base := base) F_r_init B TR TP TH TM TW TX d_f_fits G_f_fits M_m_variables G_m_variables b_m_variables M_m_rows G_m_rows b_m_rows M_h_objects G_h_objects b_h_objects M_h_names G_h_names b_h_names MK_CM G_x_init b_x_init MK_CW G_wk_init b_wk_init d_f_steps_of G_f_steps_of
  have G_r_value := ok_rvalue (P := l.prog) (w := w) (mg := mg) (base := base) (CW := CW) F_r_value B TR TM TX d_f_is_word G_f_is_word M_x_value G_x_value b_x_value M_x_held G_x_held b_x_held
  have G_r_end := ok_rend (P := l.prog) (w := w) (mg := mg) (base := base) (CM := CM) F_r_end TR TW
  have G_r_made := ok_rmade (P := l.prog) (w := w) (mg := mg) (base := base) (CW := CW) F_r_made TR TM M_x_made G_x_made b_x_made
  have G_r_looks := ok_rlooks (P := l.prog) (w := w) (mg := mg) (base := base) (CW := CW) F_r_looks TR TM M_x_looks G_x_looks b_x_looks
  have G_r_reached := ok_rreached (P := l.prog) (w := w) (mg := mg) (base := base) (CM := CM) F_r_reached TR TW M_wk_pairs G_wk_pairs b_wk_pairs
  have G_f_law_draw := ok_draw (P := l.prog) (w := w) (mg := mg) (base := base) F_f_law_draw B
  have G_f_law_pick := ok_pick (P := l.prog) (w := w) (mg := mg) (base := base) F_f_law_pick B d_f_law_draw G_f_law_draw
  have G_f_law_word := ok_word (P := l.prog) (w := w) (mg := mg) (base := base) F_f_law_word B d_f_law_draw G_f_law_draw
  have G_f_law_words := ok_words (P := l.prog) (w := w) (mg := mg) (base := base) F_f_law_words B d_f_law_draw G_f_law_draw d_f_law_word G_f_law_word
  have G_f_law_value := ok_value (P := l.prog) (w := w) (mg := mg) (base := base) F_f_law_value B d_f_law_draw G_f_law_draw
  have G_f_law_objects := ok_objects (P := l.prog) (w := w) (mg := mg) (base := base) F_f_law_objects B d_f_law_value G_f_law_value
  have G_f_law_names := ok_names (P := l.prog) (w := w) (mg := mg) (base := base) F_f_law_names B d_f_law_draw G_f_law_draw
  have G_f_law_exact := ok_exact (P := l.prog) (w := w) (mg := mg) (base := base) F_f_law_exact B
  have G_f_law_refused := ok_refusedR (P := l.prog) (w := w) (mg := mg) (base := base) F_f_law_refused TR TX M_r_value G_r_value b_r_value
  have G_f_law_no_heap := ok_no_heap (P := l.prog) (w := w) (mg := mg) (base := base) F_f_law_no_heap TR TX MK_CR G_r_init b_r_init
  have G_f_law_refusals := ok_refusals (P := l.prog) (w := w) (mg := mg) (base := base) F_f_law_refusals KH IP cl_CP d_f_law_refused G_f_law_refused d_f_law_no_heap G_f_law_no_heap
  exact ok_law F_f_law B TP TH TR d_f_law_draw G_f_law_draw d_f_law_pick G_f_law_pick d_f_law_word G_f_law_word d_f_law_words G_f_law_words d_f_law_objects G_f_law_objects d_f_law_names G_f_law_names d_f_law_exact G_f_law_exact d_f_law_refusals G_f_law_refusals MK_CP G_m_init bI hdvI q_TE MK_CH G_h_init b_h_init MK_CR G_r_init b_r_init M_r_value G_r_value b_r_value M_r_end G_r_end b_r_end M_r_made G_r_made b_r_made M_r_looks G_r_looks b_r_looks M_r_reached G_r_reached b_r_reached
/-- the same, of what the run tells -/
theorem facts_x {l : PySem.W.OpenLaw} {w : World} {K : PySem.W.Frag} {h : Heap} {mg : Str → Option Value} {fa : Addr} (X : K.In h) (G : h.Ns mainGlobals mg) (hfa' : mg "law" = some (.ref fa)) (c : SaysY [] hfn [] [] exT [] [] w h K ∧ SaysY hfa [] hts htf hex her hev w h K)
    (htop : (l.prog.main.scope.names.lookup ("super" : Str)).isSome = false) (hfile : ((l.prog.main.file : Str) == ("/claim/cut.py" : Str)) = true) :
    ∃ (fd : FuncData) (Cn Pt : Addr) (sp : Sp), h.get? Pt = some { cls := .none, data := .fields #[] } ∧ K.lookup Pt = none ∧ PySem.W.CodeHd h Cn Pt ∧ (∀ (s : Shared) (u : Value), BindsTo s fd ⟨[u], []⟩ [("_law_script", u)]) ∧
      (∀ (H : Hp) (a : Addr) (ns : List Int), ns.length ≤ 63 → H Pt = some (.tbl #[]) → SqL K H a (ns.map V.int) → sp [.ref a] H (fun v _ => v = .bl true) fun _ _ _ => False) ∧
      ∀ base : Heap, K.In base → base.Ns mainGlobals mg → TabB base mg Cn Pt → FnG l.prog w K mg base CX0 15 fa fd ["_law_script"] sp := by
  have e0 := hfa'.symm.trans (He.glo_ok X G (c.2.1.t.d.fact 40 (f := He.Fa.glo "law") rfl))
  cases e0
  obtain ⟨fd_f_is_integer, E_f_is_integer⟩ : ∃ fd, FunD K "is_integer" "is_integer" (defArgs S_is_integer) (defBody S_is_integer) (defScope S_is_integer) [] [] (He.ga K "is_integer") fd := c.1.1.t.d.def_ 0 (d := dd_is_integer) rfl
  obtain ⟨fd_f_is_between, E_f_is_between⟩ : ∃ fd, FunD K "is_between" "is_between" (defArgs S_is_between) (defBody S_is_between) (defScope S_is_between) [] [] (He.ga K "is_between") fd := c.1.1.t.d.def_ 1 (d := dd_is_between) rfl
  obtain ⟨fd_f_is_word, E_f_is_word⟩ : ∃ fd, FunD K "is_word" "is_word" (defArgs S_is_word) (defBody S_is_word) (defScope S_is_word) [] [] (He.ga K "is_word") fd := c.1.1.t.d.def_ 2 (d := dd_is_word) rfl
  obtain ⟨fd_f_is_one_of, E_f_is_one_of⟩ : ∃ fd, FunD K "is_one_of" "is_one_of" (defArgs S_is_one_of) (defBody S_is_one_of) (defScope S_is_one_of) [] [] (He.ga K "is_one_of") fd := c.1.1.t.d.def_ 3 (d := dd_is_one_of) rfl
  obtain ⟨fd_f_are_words, E_f_are_words⟩ : ∃ fd, FunD K "are_words" "are_words" (defArgs S_are_words) (defBody S_are_words) (defScope S_are_words) [] [] (He.ga K "are_words") fd := c.1.1.t.d.def_ 4 (d := dd_are_words) rfl
  obtain ⟨fd_f_are_fields, E_f_are_fields⟩ : ∃ fd, FunD K "are_fields" "are_fields" (defArgs S_are_fields) (defBody S_are_fields) (defScope S_are_fields) [] [] (He.ga K "are_fields") fd := c.1.1.t.d.def_ 5 (d := dd_are_fields) rfl
  obtain ⟨fd_f_has_form, E_f_has_form⟩ : ∃ fd, FunD K "has_form" "has_form" (defArgs S_has_form) (defBody S_has_form) (defScope S_has_form) [] [] (He.ga K "has_form") fd := c.1.1.t.d.def_ 6 (d := dd_has_form) rfl
  obtain ⟨fd_f_has_names, E_f_has_names⟩ : ∃ fd, FunD K "has_names" "has_names" (defArgs S_has_names) (defBody S_has_names) (defScope S_has_names) [] [] (He.ga K "has_names") fd := c.1.1.t.d.def_ 7 (d := dd_has_names) rfl
  obtain ⟨fd_f_is_right, E_f_is_right⟩ : ∃ fd, FunD K "is_right" "is_right" (defArgs S_is_right) (defBody S_is_right) (defScope S_is_right) [] [] (He.ga K "is_right") fd := c.1.1.t.d.def_ 8 (d := dd_is_right) rfl
  obtain ⟨fd_f_is_depth, E_f_is_depth⟩ : ∃ fd, FunD K "is_depth" "is_depth" (defArgs S_is_depth) (defBody S_is_depth) (defScope S_is_depth) [] [] (He.ga K "is_depth") fd := c.1.1.t.d.def_ 9 (d := dd_is_depth) rfl
  obtain ⟨fd_f_row_variables, E_f_row_variables⟩ : ∃ fd, FunD K "row_variables" "row_variables" (defArgs S_row_variables) (defBody S_row_variables) (defScope S_row_variables) [] [] (He.ga K "row_variables") fd := c.1.1.t.d.def_ 10 (d := dd_row_variables) rfl
  obtain ⟨fd_f_branches, E_f_branches⟩ : ∃ fd, FunD K "branches" "branches" (defArgs S_branches) (defBody S_branches) (defScope S_branches) [] [] (He.ga K "branches") fd := c.1.1.t.d.def_ 11 (d := dd_branches) rfl
  obtain ⟨fd_f_with_branches, E_f_with_branches⟩ : ∃ fd, FunD K "with_branches" "with_branches" (defArgs S_with_branches) (defBody S_with_branches) (defScope S_with_branches) [] [] (He.ga K "with_branches") fd := c.1.1.t.d.def_ 12 (d := dd_with_branches) rfl
  obtain ⟨fd_f_copied_rows, E_f_copied_rows⟩ : ∃ fd, FunD K "copied_rows" "copied_rows" (defArgs S_copied_rows) (defBody S_copied_rows) (defScope S_copied_rows) [] [] (He.ga K "copied_rows") fd := c.1.1.t.d.def_ 13 (d := dd_copied_rows) rfl
  obtain ⟨fd_f_copied_row, E_f_copied_row⟩ : ∃ fd, FunD K "copied_row" "copied_row" (defArgs S_copied_row) (defBody S_copied_row) (defScope S_copied_row) [] [] (He.ga K "copied_row") fd := c.1.1.t.d.def_ 14 (d := dd_copied_row) rfl
  obtain ⟨fd_f_placed_rows, E_f_placed_rows⟩ : ∃ fd, FunD K "placed_rows" "placed_rows" (defArgs S_placed_rows) (defBody S_placed_rows) (defScope S_placed_rows) [] [] (He.ga K "placed_rows") fd := c.1.1.t.d.def_ 15 (d := dd_placed_rows) rfl
  obtain ⟨fd_f_inner_rows, E_f_inner_rows⟩ : ∃ fd, FunD K "inner_rows" "inner_rows" (defArgs S_inner_rows) (defBody S_inner_rows) (defScope S_inner_rows) [] [] (He.ga K "inner_rows") fd := c.1.1.t.d.def_ 16 (d := dd_inner_rows) rfl
  obtain ⟨fd_f_checked_rows, E_f_checked_rows⟩ : ∃ fd, FunD K "checked_rows" "checked_rows" (defArgs S_checked_rows) (defBody S_checked_rows) (defScope S_checked_rows) [] [] (He.ga K "checked_rows") fd := c.1.1.t.d.def_ 17 (d := dd_checked_rows) rfl
  obtain ⟨fd_f_check_row, E_f_check_row⟩ : ∃ fd, FunD K "check_row" "check_row" (defArgs S_check_row) (defBody S_check_row) (defScope S_check_row) [] [] (He.ga K "check_row") fd := c.1.1.t.d.def_ 18 (d := dd_check_row) rfl
  obtain ⟨fd_f_all_variables, E_f_all_variables⟩ : ∃ fd, FunD K "all_variables" "all_variables" (defArgs S_all_variables) (defBody S_all_variables) (defScope S_all_variables) [] [] (He.ga K "all_variables") fd := c.1.1.t.d.def_ 19 (d := dd_all_variables) rfl
  obtain ⟨fd_f_check_many, E_f_check_many⟩ : ∃ fd, FunD K "check_many" "check_many" (defArgs S_check_many) (defBody S_check_many) (defScope S_check_many) [] [] (He.ga K "check_many") fd := c.1.1.t.d.def_ 20 (d := dd_check_many) rfl
  obtain ⟨fd_f_check_objects, E_f_check_objects⟩ : ∃ fd, FunD K "check_objects" "check_objects" (defArgs S_check_objects) (defBody S_check_objects) (defScope S_check_objects) [] [] (He.ga K "check_objects") fd := c.1.1.t.d.def_ 21 (d := dd_check_objects) rfl
  obtain ⟨fd_f_check_names, E_f_check_names⟩ : ∃ fd, FunD K "check_names" "check_names" (defArgs S_check_names) (defBody S_check_names) (defScope S_check_names) [] [] (He.ga K "check_names") fd := c.1.1.t.d.def_ 22 (d := dd_check_names) rfl
  obtain ⟨fd_f_is_object, E_f_is_object⟩ : ∃ fd, FunD K "is_object" "is_object" (defArgs S_is_object) (defBody S_is_object) (defScope S_is_object) [] [] (He.ga K "is_object") fd := c.1.1.t.d.def_ 23 (d := dd_is_object) rfl
  obtain ⟨fd_f_is_held, E_f_is_held⟩ : ∃ fd, FunD K "is_held" "is_held" (defArgs S_is_held) (defBody S_is_held) (defScope S_is_held) [] [] (He.ga K "is_held") fd := c.1.1.t.d.def_ 24 (d := dd_is_held) rfl
  obtain ⟨fd_f_normal_form, E_f_normal_form⟩ : ∃ fd, FunD K "normal_form" "normal_form" (defArgs S_normal_form) (defBody S_normal_form) (defScope S_normal_form) [] [] (He.ga K "normal_form") fd := c.1.1.t.d.def_ 25 (d := dd_normal_form) rfl
  obtain ⟨fd_f_new_numbers, E_f_new_numbers⟩ : ∃ fd, FunD K "new_numbers" "new_numbers" (defArgs S_new_numbers) (defBody S_new_numbers) (defScope S_new_numbers) [] [] (He.ga K "new_numbers") fd := c.1.1.t.d.def_ 26 (d := dd_new_numbers) rfl
  obtain ⟨fd_f_steps_of, E_f_steps_of⟩ : ∃ fd, FunD K "steps_of" "steps_of" (defArgs S_steps_of) (defBody S_steps_of) (defScope S_steps_of) [] [] (He.ga K "steps_of") fd := c.1.1.t.d.def_ 27 (d := dd_steps_of) rfl
  obtain ⟨fd_f_fits, E_f_fits⟩ : ∃ fd, FunD K "fits" "fits" (defArgs S_fits) (defBody S_fits) (defScope S_fits) [] [] (He.ga K "fits") fd := c.1.1.t.d.def_ 28 (d := dd_fits) rfl
  obtain ⟨fd_f_law_draw, E_f_law_draw⟩ : ∃ fd, FunD K "_law_draw" "_law_draw" (defArgs S_law_draw) (defBody S_law_draw) (defScope S_law_draw) [] [] (He.ga K "_law_draw") fd := c.1.1.t.d.def_ 29 (d := dd_law_draw) rfl
  obtain ⟨fd_f_law_pick, E_f_law_pick⟩ : ∃ fd, FunD K "_law_pick" "_law_pick" (defArgs S_law_pick) (defBody S_law_pick) (defScope S_law_pick) [] [] (He.ga K "_law_pick") fd := c.1.1.t.d.def_ 30 (d := dd_law_pick) rfl
  obtain ⟨fd_f_law_word, E_f_law_word⟩ : ∃ fd, FunD K "_law_word" "_law_word" (defArgs S_law_word) (defBody S_law_word) (defScope S_law_word) [] [] (He.ga K "_law_word") fd := c.1.1.t.d.def_ 31 (d := dd_law_word) rfl
  obtain ⟨fd_f_law_words, E_f_law_words⟩ : ∃ fd, FunD K "_law_words" "_law_words" (defArgs S_law_words) (defBody S_law_words) (defScope S_law_words) [] [] (He.ga K "_law_words") fd := c.1.1.t.d.def_ 32 (d := dd_law_words) rfl
  obtain ⟨fd_f_law_value, E_f_law_value⟩ : ∃ fd, FunD K "_law_value" "_law_value" (defArgs S_law_value) (defBody S_law_value) (defScope S_law_value) [] [] (He.ga K "_law_value") fd := c.1.1.t.d.def_ 33 (d := dd_law_value) rfl
  obtain ⟨fd_f_law_objects, E_f_law_objects⟩ : ∃ fd, FunD K "_law_objects" "_law_objects" (defArgs S_law_objects) (defBody S_law_objects) (defScope S_law_objects) [] [] (He.ga K "_law_objects") fd := c.1.1.t.d.def_ 34 (d := dd_law_objects) rfl
  obtain ⟨fd_f_law_names, E_f_law_names⟩ : ∃ fd, FunD K "_law_names" "_law_names" (defArgs S_law_names) (defBody S_law_names) (defScope S_law_names) [] [] (He.ga K "_law_names") fd := c.1.1.t.d.def_ 35 (d := dd_law_names) rfl
  obtain ⟨fd_f_law_exact, E_f_law_exact⟩ : ∃ fd, FunD K "_law_exact" "_law_exact" (defArgs S_law_exact) (defBody S_law_exact) (defScope S_law_exact) [] [] (He.ga K "_law_exact") fd := c.1.1.t.d.def_ 36 (d := dd_law_exact) rfl
  obtain ⟨fd_f_law_refused, E_f_law_refused⟩ : ∃ fd, FunD K "_law_refused" "_law_refused" (defArgs S_law_refused) (defBody S_law_refused) (defScope S_law_refused) [] [] (He.ga K "_law_refused") fd := c.1.1.t.d.def_ 37 (d := dd_law_refused) rfl
  obtain ⟨fd_f_law_no_heap, E_f_law_no_heap⟩ : ∃ fd, FunD K "_law_no_heap" "_law_no_heap" (defArgs S_law_no_heap) (defBody S_law_no_heap) (defScope S_law_no_heap) [] [] (He.ga K "_law_no_heap") fd := c.1.1.t.d.def_ 38 (d := dd_law_no_heap) rfl
  obtain ⟨fd_f_law_refusals, E_f_law_refusals⟩ : ∃ fd, FunD K "_law_refusals" "_law_refusals" (defArgs S_law_refusals) (defBody S_law_refusals) (defScope S_law_refusals) [] [] (He.ga K "_law_refusals") fd := c.1.1.t.d.def_ 39 (d := dd_law_refusals) rfl
  obtain ⟨fd_f_law, E_f_law⟩ : ∃ fd, FunD K "law" "law" (defArgs S_law) (defBody S_law) (defScope S_law) [] [] (He.ga K "law") fd := c.1.1.t.d.def_ 40 (d := dd_law) rfl
  obtain ⟨fd_h_init, E_h_init⟩ : ∃ fd, FunD K "__init__" "Heap.__init__" (defArgs S_Heap___init__) (defBody S_Heap___init__) (defScope S_Heap___init__) [] [] (He.ma K (He.ga K "Heap") "__init__") fd := c.1.1.t.d.def_ 41 (d := dd_h_init) rfl
  obtain ⟨fd_h_len, E_h_len⟩ : ∃ fd, FunD K "__len__" "Heap.__len__" (defArgs S_Heap___len__) (defBody S_Heap___len__) (defScope S_Heap___len__) [] [] (He.ma K (He.ga K "Heap") "__len__") fd := c.1.1.t.d.def_ 42 (d := dd_h_len) rfl
  obtain ⟨fd_h_objects, E_h_objects⟩ : ∃ fd, FunD K "objects" "Heap.objects" (defArgs S_Heap_objects) (defBody S_Heap_objects) (defScope S_Heap_objects) [] [] (He.ma K (He.ga K "Heap") "objects") fd := c.1.1.t.d.def_ 43 (d := dd_h_objects) rfl
  obtain ⟨fd_h_names, E_h_names⟩ : ∃ fd, FunD K "names" "Heap.names" (defArgs S_Heap_names) (defBody S_Heap_names) (defScope S_Heap_names) [] [] (He.ma K (He.ga K "Heap") "names") fd := c.1.1.t.d.def_ 44 (d := dd_h_names) rfl
  obtain ⟨fd_m_init, E_m_init⟩ : ∃ fd, FunD K "__init__" "Program.__init__" (defArgs S_Program___init__) (defBody S_Program___init__) (defScope S_Program___init__) [] [(("outputs" : Str), V.ref (hTE K))] (He.ma K (He.ga K "Program") "__init__") fd := c.1.1.t.d.def_ 45 (d := dd_m_init) rfl
  obtain ⟨fd_m_rows, E_m_rows⟩ : ∃ fd, FunD K "rows" "Program.rows" (defArgs S_Program_rows) (defBody S_Program_rows) (defScope S_Program_rows) [] [] (He.ma K (He.ga K "Program") "rows") fd := c.1.1.t.d.def_ 46 (d := dd_m_rows) rfl
  obtain ⟨fd_m_variables, E_m_variables⟩ : ∃ fd, FunD K "variables" "Program.variables" (defArgs S_Program_variables) (defBody S_Program_variables) (defScope S_Program_variables) [] [] (He.ma K (He.ga K "Program") "variables") fd := c.1.1.t.d.def_ 47 (d := dd_m_variables) rfl
  obtain ⟨fd_x_init, E_x_init⟩ : ∃ fd, FunD K "__init__" "Machine.__init__" (defArgs S_Machine___init__) (defBody S_Machine___init__) (defScope S_Machine___init__) [] [] (He.ma K (He.ga K "Machine") "__init__") fd := c.1.1.t.d.def_ 48 (d := dd_x_init) rfl
  obtain ⟨fd_x_held, E_x_held⟩ : ∃ fd, FunD K "held" "Machine.held" (defArgs S_Machine_held) (defBody S_Machine_held) (defScope S_Machine_held) [] [] (He.ma K (He.ga K "Machine") "held") fd := c.1.1.t.d.def_ 49 (d := dd_x_held) rfl
  obtain ⟨fd_x_made, E_x_made⟩ : ∃ fd, FunD K "made" "Machine.made" (defArgs S_Machine_made) (defBody S_Machine_made) (defScope S_Machine_made) [] [] (He.ma K (He.ga K "Machine") "made") fd := c.1.1.t.d.def_ 50 (d := dd_x_made) rfl
  obtain ⟨fd_x_looks, E_x_looks⟩ : ∃ fd, FunD K "looks" "Machine.looks" (defArgs S_Machine_looks) (defBody S_Machine_looks) (defScope S_Machine_looks) [] [] (He.ma K (He.ga K "Machine") "looks") fd := c.1.1.t.d.def_ 51 (d := dd_x_looks) rfl
  obtain ⟨fd_x_write, E_x_write⟩ : ∃ fd, FunD K "_write" "Machine._write" (defArgs S_Machine__write) (defBody S_Machine__write) (defScope S_Machine__write) [] [] (He.ma K (He.ga K "Machine") "_write") fd := c.1.1.t.d.def_ 52 (d := dd_x_write) rfl
  obtain ⟨fd_x_nothing, E_x_nothing⟩ : ∃ fd, FunD K "_nothing" "Machine._nothing" (defArgs S_Machine__nothing) (defBody S_Machine__nothing) (defScope S_Machine__nothing) [] [] (He.ma K (He.ga K "Machine") "_nothing") fd := c.1.1.t.d.def_ 53 (d := dd_x_nothing) rfl
  obtain ⟨fd_x_value, E_x_value⟩ : ∃ fd, FunD K "value" "Machine.value" (defArgs S_Machine_value) (defBody S_Machine_value) (defScope S_Machine_value) [] [] (He.ma K (He.ga K "Machine") "value") fd := c.1.1.t.d.def_ 54 (d := dd_x_value) rfl
  obtain ⟨fd_x_reached, E_x_reached⟩ : ∃ fd, FunD K "reached" "Machine.reached" (defArgs S_Machine_reached) (defBody S_Machine_reached) (defScope S_Machine_reached) [] [] (He.ma K (He.ga K "Machine") "reached") fd := c.1.1.t.d.def_ 55 (d := dd_x_reached) rfl
  obtain ⟨fd_x_make, E_x_make⟩ : ∃ fd, FunD K "_make" "Machine._make" (defArgs S_Machine__make) (defBody S_Machine__make) (defScope S_Machine__make) [] [] (He.ma K (He.ga K "Machine") "_make") fd := c.1.1.t.d.def_ 56 (d := dd_x_make) rfl
  obtain ⟨fd_x_do, E_x_do⟩ : ∃ fd, FunD K "do" "Machine.do" (defArgs S_Machine_do) (defBody S_Machine_do) (defScope S_Machine_do) [] [] (He.ma K (He.ga K "Machine") "do") fd := c.1.1.t.d.def_ 57 (d := dd_x_do) rfl
  obtain ⟨fd_wk_init, E_wk_init⟩ : ∃ fd, FunD K "__init__" "Walk.__init__" (defArgs S_Walk___init__) (defBody S_Walk___init__) (defScope S_Walk___init__) [] [] (He.ma K (He.ga K "Walk") "__init__") fd := c.1.1.t.d.def_ 58 (d := dd_wk_init) rfl
  obtain ⟨fd_wk_do_steps, E_wk_do_steps⟩ : ∃ fd, FunD K "_do_steps" "Walk._do_steps" (defArgs S_Walk__do_steps) (defBody S_Walk__do_steps) (defScope S_Walk__do_steps) [] [] (He.ma K (He.ga K "Walk") "_do_steps") fd := c.1.1.t.d.def_ 59 (d := dd_wk_do_steps) rfl
  obtain ⟨fd_wk_pairs, E_wk_pairs⟩ : ∃ fd, FunD K "pairs" "Walk.pairs" (defArgs S_Walk_pairs) (defBody S_Walk_pairs) (defScope S_Walk_pairs) [] [] (He.ma K (He.ga K "Walk") "pairs") fd := c.1.1.t.d.def_ 60 (d := dd_wk_pairs) rfl
  obtain ⟨fd_r_init, E_r_init⟩ : ∃ fd, FunD K "__init__" "Run.__init__" (defArgs S_Run___init__) (defBody S_Run___init__) (defScope S_Run___init__) [] [] (He.ma K (He.ga K "Run") "__init__") fd := c.1.1.t.d.def_ 61 (d := dd_r_init) rfl
  obtain ⟨fd_r_value, E_r_value⟩ : ∃ fd, FunD K "value" "Run.value" (defArgs S_Run_value) (defBody S_Run_value) (defScope S_Run_value) [] [] (He.ma K (He.ga K "Run") "value") fd := c.1.1.t.d.def_ 62 (d := dd_r_value) rfl
  obtain ⟨fd_r_end, E_r_end⟩ : ∃ fd, FunD K "end" "Run.end" (defArgs S_Run_end) (defBody S_Run_end) (defScope S_Run_end) [] [] (He.ma K (He.ga K "Run") "end") fd := c.1.1.t.d.def_ 63 (d := dd_r_end) rfl
  obtain ⟨fd_r_made, E_r_made⟩ : ∃ fd, FunD K "made" "Run.made" (defArgs S_Run_made) (defBody S_Run_made) (defScope S_Run_made) [] [] (He.ma K (He.ga K "Run") "made") fd := c.1.1.t.d.def_ 64 (d := dd_r_made) rfl
  obtain ⟨fd_r_looks, E_r_looks⟩ : ∃ fd, FunD K "looks" "Run.looks" (defArgs S_Run_looks) (defBody S_Run_looks) (defScope S_Run_looks) [] [] (He.ma K (He.ga K "Run") "looks") fd := c.1.1.t.d.def_ 65 (d := dd_r_looks) rfl
  obtain ⟨fd_r_reached, E_r_reached⟩ : ∃ fd, FunD K "reached" "Run.reached" (defArgs S_Run_reached) (defBody S_Run_reached) (defScope S_Run_reached) [] [] (He.ma K (He.ga K "Run") "reached") fd := c.1.1.t.d.def_ 66 (d := dd_r_reached) rfl
  obtain ⟨t8, w_MOST_LETTERS⟩ := He.int_ok X G (c.2.1.t.d.fact 133 (f := He.Fa.int "MOST_LETTERS" 8) rfl)
  obtain ⟨t2, w_MOST_FIELDS⟩ := He.int_ok X G (c.2.1.t.d.fact 134 (f := He.Fa.int "MOST_FIELDS" 2) rfl)
  obtain ⟨tD, w_MOST_DEPTH⟩ := He.int_ok X G (c.2.1.t.d.fact 135 (f := He.Fa.int "MOST_DEPTH" 4) rfl)
  obtain ⟨tI, w_MOST_INPUTS⟩ := He.int_ok X G (c.2.1.t.d.fact 136 (f := He.Fa.int "MOST_INPUTS" 3) rfl)
  obtain ⟨tO, w_MOST_OUTPUTS⟩ := He.int_ok X G (c.2.1.t.d.fact 137 (f := He.Fa.int "MOST_OUTPUTS" 3) rfl)
  obtain ⟨tR, w_MOST_ROWS⟩ := He.int_ok X G (c.2.1.t.d.fact 138 (f := He.Fa.int "MOST_ROWS" 20) rfl)
  obtain ⟨tV, w_MOST_VARIABLES⟩ := He.int_ok X G (c.2.1.t.d.fact 139 (f := He.Fa.int "MOST_VARIABLES" 6) rfl)
  obtain ⟨tC, w_MOST_COPIES⟩ := He.int_ok X G (c.2.1.t.d.fact 140 (f := He.Fa.int "MOST_COPIES" 4) rfl)
  obtain ⟨tW, w_MOST_WATCHES⟩ := He.int_ok X G (c.2.1.t.d.fact 141 (f := He.Fa.int "MOST_WATCHES" 3) rfl)
  obtain ⟨tL, w_LONGEST_PLACE⟩ := He.int_ok X G (c.2.1.t.d.fact 142 (f := He.Fa.int "LONGEST_PLACE" 7) rfl)
  obtain ⟨tMO, w_MOST_OBJECTS⟩ := He.int_ok X G (c.2.1.t.d.fact 143 (f := He.Fa.int "MOST_OBJECTS" 200) rfl)
  obtain ⟨tMN, w_MOST_NAMES⟩ := He.int_ok X G (c.2.1.t.d.fact 144 (f := He.Fa.int "MOST_NAMES" 6) rfl)
  obtain ⟨tMS, w_MOST_STARTS⟩ := He.int_ok X G (c.2.1.t.d.fact 145 (f := He.Fa.int "MOST_STARTS" 100) rfl)
  obtain ⟨es, nE, kd⟩ := c.2.1.t.tab 0 (t := (fun K => He.ga K "FORMS", ["move", "none", "new", "look", "put", "copy", "watch", "same", "empty"])) rfl
  obtain ⟨sp, r1, r2, r3⟩ := all_x (l := l) (w := w) (h := h) (Cn := (He.cT K ("normal_form", none)).1) (Pt := (He.cT K ("normal_form", none)).2)
    (E_f_is_integer)
    (He.glo_ok X G (c.2.1.t.d.fact 0 (f := He.Fa.glo "is_integer") rfl))
    (E_f_is_between)
    (He.glo_ok X G (c.2.1.t.d.fact 1 (f := He.Fa.glo "is_between") rfl))
    (E_f_is_word)
    (He.glo_ok X G (c.2.1.t.d.fact 2 (f := He.Fa.glo "is_word") rfl))
    (E_f_is_one_of)
    (He.glo_ok X G (c.2.1.t.d.fact 3 (f := He.Fa.glo "is_one_of") rfl))
    (E_f_are_words)
    (He.glo_ok X G (c.2.1.t.d.fact 4 (f := He.Fa.glo "are_words") rfl))
    (E_f_are_fields)
    (He.glo_ok X G (c.2.1.t.d.fact 5 (f := He.Fa.glo "are_fields") rfl))
    (E_f_has_form)
    (He.glo_ok X G (c.2.1.t.d.fact 6 (f := He.Fa.glo "has_form") rfl))
    (E_f_has_names)
    (He.glo_ok X G (c.2.1.t.d.fact 7 (f := He.Fa.glo "has_names") rfl))
    (E_f_is_right)
    (He.glo_ok X G (c.2.1.t.d.fact 8 (f := He.Fa.glo "is_right") rfl))
    (E_f_is_depth)
    (He.glo_ok X G (c.2.1.t.d.fact 9 (f := He.Fa.glo "is_depth") rfl))
    (E_f_row_variables)
    (He.glo_ok X G (c.2.1.t.d.fact 10 (f := He.Fa.glo "row_variables") rfl))
    (E_f_branches)
    (He.glo_ok X G (c.2.1.t.d.fact 11 (f := He.Fa.glo "branches") rfl))
    (E_f_with_branches)
    (He.glo_ok X G (c.2.1.t.d.fact 12 (f := He.Fa.glo "with_branches") rfl))
    (E_f_copied_rows)
    (He.glo_ok X G (c.2.1.t.d.fact 13 (f := He.Fa.glo "copied_rows") rfl))
    (E_f_copied_row)
    (He.glo_ok X G (c.2.1.t.d.fact 14 (f := He.Fa.glo "copied_row") rfl))
    (E_f_placed_rows)
    (He.glo_ok X G (c.2.1.t.d.fact 15 (f := He.Fa.glo "placed_rows") rfl))
    (E_f_inner_rows)
    (He.glo_ok X G (c.2.1.t.d.fact 16 (f := He.Fa.glo "inner_rows") rfl))
    (E_f_checked_rows)
    (He.glo_ok X G (c.2.1.t.d.fact 17 (f := He.Fa.glo "checked_rows") rfl))
    (E_f_check_row)
    (He.glo_ok X G (c.2.1.t.d.fact 18 (f := He.Fa.glo "check_row") rfl))
    (E_f_all_variables)
    (He.glo_ok X G (c.2.1.t.d.fact 19 (f := He.Fa.glo "all_variables") rfl))
    (E_f_check_many)
    (He.glo_ok X G (c.2.1.t.d.fact 20 (f := He.Fa.glo "check_many") rfl))
    (E_f_check_objects)
    (He.glo_ok X G (c.2.1.t.d.fact 21 (f := He.Fa.glo "check_objects") rfl))
    (E_f_check_names)
    (He.glo_ok X G (c.2.1.t.d.fact 22 (f := He.Fa.glo "check_names") rfl))
    (E_f_is_object)
    (He.glo_ok X G (c.2.1.t.d.fact 23 (f := He.Fa.glo "is_object") rfl))
    (E_f_is_held)
    (He.glo_ok X G (c.2.1.t.d.fact 24 (f := He.Fa.glo "is_held") rfl))
    (E_f_normal_form)
    (He.glo_ok X G (c.2.1.t.d.fact 25 (f := He.Fa.glo "normal_form") rfl))
    (E_f_new_numbers)
    (He.glo_ok X G (c.2.1.t.d.fact 26 (f := He.Fa.glo "new_numbers") rfl))
    (E_f_steps_of)
    (He.glo_ok X G (c.2.1.t.d.fact 27 (f := He.Fa.glo "steps_of") rfl))
    (E_f_fits)
    (He.glo_ok X G (c.2.1.t.d.fact 28 (f := He.Fa.glo "fits") rfl))
    (E_f_law_draw)
    (He.glo_ok X G (c.2.1.t.d.fact 29 (f := He.Fa.glo "_law_draw") rfl))
    (E_f_law_pick)
    (He.glo_ok X G (c.2.1.t.d.fact 30 (f := He.Fa.glo "_law_pick") rfl))
    (E_f_law_word)
    (He.glo_ok X G (c.2.1.t.d.fact 31 (f := He.Fa.glo "_law_word") rfl))
    (E_f_law_words)
    (He.glo_ok X G (c.2.1.t.d.fact 32 (f := He.Fa.glo "_law_words") rfl))
    (E_f_law_value)
    (He.glo_ok X G (c.2.1.t.d.fact 33 (f := He.Fa.glo "_law_value") rfl))
    (E_f_law_objects)
    (He.glo_ok X G (c.2.1.t.d.fact 34 (f := He.Fa.glo "_law_objects") rfl))
    (E_f_law_names)
    (He.glo_ok X G (c.2.1.t.d.fact 35 (f := He.Fa.glo "_law_names") rfl))
    (E_f_law_exact)
    (He.glo_ok X G (c.2.1.t.d.fact 36 (f := He.Fa.glo "_law_exact") rfl))
    (E_f_law_refused)
    (He.glo_ok X G (c.2.1.t.d.fact 37 (f := He.Fa.glo "_law_refused") rfl))
    (E_f_law_no_heap)
    (He.glo_ok X G (c.2.1.t.d.fact 38 (f := He.Fa.glo "_law_no_heap") rfl))
    (E_f_law_refusals)
    (He.glo_ok X G (c.2.1.t.d.fact 39 (f := He.Fa.glo "_law_refusals") rfl))
    (E_f_law)
    (He.glo_ok X G (c.2.1.t.d.fact 40 (f := He.Fa.glo "law") rfl))
    (E_h_init)
    (He.meth_ok (c.2.1.t.d.fact 48 (f := He.Fa.meth "Heap" "__init__") rfl))
    (E_h_len)
    (He.meth_ok (c.2.1.t.d.fact 49 (f := He.Fa.meth "Heap" "__len__") rfl))
    (E_h_objects)
    (He.meth_ok (c.2.1.t.d.fact 50 (f := He.Fa.meth "Heap" "objects") rfl))
    (E_h_names)
    (He.meth_ok (c.2.1.t.d.fact 51 (f := He.Fa.meth "Heap" "names") rfl))
    (E_m_init)
    (He.meth_ok (c.2.1.t.d.fact 61 (f := He.Fa.meth "Program" "__init__") rfl))
    (E_m_rows)
    (He.meth_ok (c.2.1.t.d.fact 62 (f := He.Fa.meth "Program" "rows") rfl))
    (E_m_variables)
    (He.meth_ok (c.2.1.t.d.fact 63 (f := He.Fa.meth "Program" "variables") rfl))
    (E_x_init)
    (He.meth_ok (c.2.1.t.d.fact 83 (f := He.Fa.meth "Machine" "__init__") rfl))
    (E_x_held)
    (He.meth_ok (c.2.1.t.d.fact 84 (f := He.Fa.meth "Machine" "held") rfl))
    (E_x_made)
    (He.meth_ok (c.2.1.t.d.fact 85 (f := He.Fa.meth "Machine" "made") rfl))
    (E_x_looks)
    (He.meth_ok (c.2.1.t.d.fact 86 (f := He.Fa.meth "Machine" "looks") rfl))
    (E_x_write)
    (He.meth_ok (c.2.1.t.d.fact 87 (f := He.Fa.meth "Machine" "_write") rfl))
    (E_x_nothing)
    (He.meth_ok (c.2.1.t.d.fact 88 (f := He.Fa.meth "Machine" "_nothing") rfl))
    (E_x_value)
    (He.meth_ok (c.2.1.t.d.fact 89 (f := He.Fa.meth "Machine" "value") rfl))
    (E_x_reached)
    (He.meth_ok (c.2.1.t.d.fact 90 (f := He.Fa.meth "Machine" "reached") rfl))
    (E_x_make)
    (He.meth_ok (c.2.1.t.d.fact 91 (f := He.Fa.meth "Machine" "_make") rfl))
    (E_x_do)
    (He.meth_ok (c.2.1.t.d.fact 92 (f := He.Fa.meth "Machine" "do") rfl))
    (E_wk_init)
    (He.meth_ok (c.2.1.t.d.fact 99 (f := He.Fa.meth "Walk" "__init__") rfl))
    (E_wk_do_steps)
    (He.meth_ok (c.2.1.t.d.fact 100 (f := He.Fa.meth "Walk" "_do_steps") rfl))
    (E_wk_pairs)
    (He.meth_ok (c.2.1.t.d.fact 101 (f := He.Fa.meth "Walk" "pairs") rfl))
    (E_r_init)
    (He.meth_ok (c.2.1.t.d.fact 108 (f := He.Fa.meth "Run" "__init__") rfl))
    (E_r_value)
    (He.meth_ok (c.2.1.t.d.fact 109 (f := He.Fa.meth "Run" "value") rfl))
    (E_r_end)
    (He.meth_ok (c.2.1.t.d.fact 110 (f := He.Fa.meth "Run" "end") rfl))
    (E_r_made)
    (He.meth_ok (c.2.1.t.d.fact 111 (f := He.Fa.meth "Run" "made") rfl))
    (E_r_looks)
    (He.meth_ok (c.2.1.t.d.fact 112 (f := He.Fa.meth "Run" "looks") rfl))
    (E_r_reached)
    (He.meth_ok (c.2.1.t.d.fact 113 (f := He.Fa.meth "Run" "reached") rfl))
    (He.glo_ok X G (c.2.1.t.d.fact 41 (f := He.Fa.glo "Heap") rfl))
    (He.cls_ok (c.2.1.t.d.fact 42 (f := He.Fa.cls "Heap") rfl))
    (He.noat_ok (c.2.1.t.d.fact 43 (f := He.Fa.noat "Heap" "fields") rfl))
    (He.noat_ok (c.2.1.t.d.fact 44 (f := He.Fa.noat "Heap" "_objects") rfl))
    (He.noat_ok (c.2.1.t.d.fact 45 (f := He.Fa.noat "Heap" "_names") rfl))
    (He.noat_ok (c.2.1.t.d.fact 46 (f := He.Fa.noat "Heap" "_form") rfl))
    (He.noat_ok (c.2.1.t.d.fact 47 (f := He.Fa.noat "Heap" "rows") rfl))
    (He.mkr_ok (c.2.1.t.d.fact 52 (f := He.Fa.mkr "Heap") rfl))
    (He.glo_ok X G (c.2.1.t.d.fact 53 (f := He.Fa.glo "Program") rfl))
    (He.cls_ok (c.2.1.t.d.fact 54 (f := He.Fa.cls "Program") rfl))
    (He.noat_ok (c.2.1.t.d.fact 55 (f := He.Fa.noat "Program" "inputs") rfl))
    (He.noat_ok (c.2.1.t.d.fact 56 (f := He.Fa.noat "Program" "fields") rfl))
    (He.noat_ok (c.2.1.t.d.fact 57 (f := He.Fa.noat "Program" "outputs") rfl))
    (He.noat_ok (c.2.1.t.d.fact 58 (f := He.Fa.noat "Program" "_rows") rfl))
    (He.noat_ok (c.2.1.t.d.fact 59 (f := He.Fa.noat "Program" "_table") rfl))
    (He.noat_ok (c.2.1.t.d.fact 60 (f := He.Fa.noat "Program" "_variables") rfl))
    (He.mkr_ok (c.2.1.t.d.fact 64 (f := He.Fa.mkr "Program") rfl))
    (He.glo_ok X G (c.2.1.t.d.fact 65 (f := He.Fa.glo "Machine") rfl))
    (He.cls_ok (c.2.1.t.d.fact 66 (f := He.Fa.cls "Machine") rfl))
    (He.noat_ok (c.2.1.t.d.fact 67 (f := He.Fa.noat "Machine" "fields") rfl))
    (He.noat_ok (c.2.1.t.d.fact 68 (f := He.Fa.noat "Machine" "_starts") rfl))
    (He.noat_ok (c.2.1.t.d.fact 69 (f := He.Fa.noat "Machine" "_variables") rfl))
    (He.noat_ok (c.2.1.t.d.fact 70 (f := He.Fa.noat "Machine" "_cells") rfl))
    (He.noat_ok (c.2.1.t.d.fact 71 (f := He.Fa.noat "Machine" "_sources") rfl))
    (He.noat_ok (c.2.1.t.d.fact 72 (f := He.Fa.noat "Machine" "_frozen") rfl))
    (He.noat_ok (c.2.1.t.d.fact 73 (f := He.Fa.noat "Machine" "_readers") rfl))
    (He.noat_ok (c.2.1.t.d.fact 74 (f := He.Fa.noat "Machine" "_looks") rfl))
    (He.noat_ok (c.2.1.t.d.fact 75 (f := He.Fa.noat "Machine" "_copies") rfl))
    (He.noat_ok (c.2.1.t.d.fact 76 (f := He.Fa.noat "Machine" "_puts") rfl))
    (He.noat_ok (c.2.1.t.d.fact 77 (f := He.Fa.noat "Machine" "_reached") rfl))
    (He.noat_ok (c.2.1.t.d.fact 78 (f := He.Fa.noat "Machine" "_views") rfl))
    (He.noat_ok (c.2.1.t.d.fact 79 (f := He.Fa.noat "Machine" "_kept_copies") rfl))
    (He.noat_ok (c.2.1.t.d.fact 80 (f := He.Fa.noat "Machine" "_kept_puts") rfl))
    (He.noat_ok (c.2.1.t.d.fact 81 (f := He.Fa.noat "Machine" "_log") rfl))
    (He.noat_ok (c.2.1.t.d.fact 82 (f := He.Fa.noat "Machine" "_before") rfl))
    (He.mkr_ok (c.2.1.t.d.fact 93 (f := He.Fa.mkr "Machine") rfl))
    (He.glo_ok X G (c.2.1.t.d.fact 94 (f := He.Fa.glo "Walk") rfl))
    (He.cls_ok (c.2.1.t.d.fact 95 (f := He.Fa.cls "Walk") rfl))
    (He.noat_ok (c.2.1.t.d.fact 96 (f := He.Fa.noat "Walk" "machine") rfl))
    (He.noat_ok (c.2.1.t.d.fact 97 (f := He.Fa.noat "Walk" "written") rfl))
    (He.noat_ok (c.2.1.t.d.fact 98 (f := He.Fa.noat "Walk" "ending") rfl))
    (He.mkr_ok (c.2.1.t.d.fact 102 (f := He.Fa.mkr "Walk") rfl))
    (He.glo_ok X G (c.2.1.t.d.fact 103 (f := He.Fa.glo "Run") rfl))
    (He.cls_ok (c.2.1.t.d.fact 104 (f := He.Fa.cls "Run") rfl))
    (He.noat_ok (c.2.1.t.d.fact 105 (f := He.Fa.noat "Run" "_variables") rfl))
    (He.noat_ok (c.2.1.t.d.fact 106 (f := He.Fa.noat "Run" "_machine") rfl))
    (He.noat_ok (c.2.1.t.d.fact 107 (f := He.Fa.noat "Run" "_walk") rfl))
    (He.mkr_ok (c.2.1.t.d.fact 114 (f := He.Fa.mkr "Run") rfl))
    (⟨He.free_ok X G (c.2.1.t.d.fact 115 (f := He.Fa.free "len") rfl), He.free_ok X G (c.2.1.t.d.fact 116 (f := He.Fa.free "int") rfl), He.free_ok X G (c.2.1.t.d.fact 117 (f := He.Fa.free "list") rfl), He.free_ok X G (c.2.1.t.d.fact 118 (f := He.Fa.free "tuple") rfl), He.free_ok X G (c.2.1.t.d.fact 119 (f := He.Fa.free "dict") rfl), He.free_ok X G (c.2.1.t.d.fact 120 (f := He.Fa.free "set") rfl), He.free_ok X G (c.2.1.t.d.fact 121 (f := He.Fa.free "all") rfl), He.free_ok X G (c.2.1.t.d.fact 122 (f := He.Fa.free "range") rfl), He.free_ok X G (c.2.1.t.d.fact 123 (f := He.Fa.free "enumerate") rfl), He.free_ok X G (c.2.1.t.d.fact 124 (f := He.Fa.free "sorted") rfl), He.free_ok X G (c.2.1.t.d.fact 125 (f := He.Fa.free "min") rfl), He.free_ok X G (c.2.1.t.d.fact 126 (f := He.Fa.free "isinstance") rfl), He.free_ok X G (c.2.1.t.d.fact 127 (f := He.Fa.free "bool") rfl), He.free_ok X G (c.2.1.t.d.fact 128 (f := He.Fa.free "str") rfl), He.free_ok X G (c.2.1.t.d.fact 129 (f := He.Fa.free "zip") rfl), He.free_ok X G (c.2.1.t.d.fact 130 (f := He.Fa.free "ValueError") rfl), He.free_ok X G (c.2.1.t.d.fact 131 (f := He.Fa.free "super") rfl), He.free_ok X G (c.2.1.t.d.fact 132 (f := He.Fa.free "repr") rfl)⟩)
    (w_MOST_LETTERS)
    (w_MOST_FIELDS)
    (w_MOST_DEPTH)
    (w_MOST_INPUTS)
    (w_MOST_OUTPUTS)
    (w_MOST_ROWS)
    (w_MOST_VARIABLES)
    (w_MOST_COPIES)
    (w_MOST_WATCHES)
    (w_LONGEST_PLACE)
    (w_MOST_OBJECTS)
    (w_MOST_NAMES)
    (w_MOST_STARTS)
    ((objB_ok (hex_at c.2.1.more 0 (b := hx0) rfl)).1)
    ((objB_ok (hex_at c.2.1.more 0 (b := hx0) rfl)).2)
    ((hciB_ok (hex_at c.2.1.more 1 (b := hx1) rfl)).1)
    ((hciB_ok (hex_at c.2.1.more 1 (b := hx1) rfl)).2)
    ((clsB_ok (hex_at c.2.1.more 2 (b := hx2) rfl)).1)
    ((clsB_ok (hex_at c.2.1.more 2 (b := hx2) rfl)).2)
    ((hciB_ok (hex_at c.2.1.more 3 (b := hx3) rfl)).1)
    ((hciB_ok (hex_at c.2.1.more 3 (b := hx3) rfl)).2)
    (subB_ok (hex_at c.2.1.more 4 (b := hx4) rfl))
    (subB_ok (hex_at c.2.1.more 5 (b := hx5) rfl))
    (subB_ok (hex_at c.2.1.more 6 (b := hx6) rfl))
    (subB_ok (hex_at c.2.1.more 7 (b := hx7) rfl))
    (subB_ok (hex_at c.2.1.more 8 (b := hx8) rfl))
    (subB_ok (hex_at c.2.1.more 9 (b := hx9) rfl))
    (tupAt_ok (hex_at c.2.1.more 10 (b := hx10) rfl))
    (tupAt_ok (hex_at c.2.1.more 11 (b := hx11) rfl))
    (slotB_ok (hex_at c.2.1.more 12 (b := hx12) rfl))
    (slotB_ok (hex_at c.2.1.more 13 (b := hx13) rfl))
    (slotB_ok (hex_at c.2.1.more 14 (b := hx14) rfl))
    (slotB_ok (hex_at c.2.1.more 15 (b := hx15) rfl))
    (slotB_ok (hex_at c.2.1.more 16 (b := hx16) rfl))
    (slotB_ok (hex_at c.2.1.more 17 (b := hx17) rfl))
    (slotB_ok (hex_at c.2.1.more 18 (b := hx18) rfl))
    (slotB_ok (hex_at c.2.1.more 19 (b := hx19) rfl))
    (slotB_ok (hex_at c.2.1.more 20 (b := hx20) rfl))
    (He.glo_ok X G (c.2.1.t.d.fact 147 (f := He.Fa.glo "KINDS") rfl))
    (He.glo_ok X G (c.2.1.t.d.fact 146 (f := He.Fa.glo "FORMS") rfl))
    (kd)
    (errTxt_of (P := l.prog) (He.glo_ok X G (c.2.1.t.d.fact 148 (f := He.Fa.glo "InvalidArgument") rfl)) (hex_at c.2.1.more 21 (b := hx21) rfl) (List.cons.inj (show [erO K "InvalidArgument"] = hev from c.2.2)).1 htop hfile)
    (funC_of (p := ("normal_form", none)) (fun_of E_f_normal_form) rfl)
    (c.2.1.empty _ (List.mem_singleton.mpr rfl))
    (c.2.1.out _ (List.mem_singleton.mpr rfl))
    (PySem.W.codeHd_of_K X (c.2.1.hd _ (List.mem_singleton.mpr rfl)))
  exact ⟨_, _, _, sp, c.2.1.empty _ (List.mem_singleton.mpr rfl), c.2.1.out _ (List.mem_singleton.mpr rfl), PySem.W.codeHd_of_K X (c.2.1.hd _ (List.mem_singleton.mpr rfl)), r1, r2, r3⟩
end TW
set_option Elab.async false
set_option linter.all false
set_option maxRecDepth 100000
set_option maxHeartbeats 0
open PySem PySem.W PySem.Calls PyProof.Rows
theorem PySem.Challenge.cw_thawedwrites_k14_run_plain_values_holds : PySem.Challenge.rw_thawedwrites_k14_run_plain_values.Holds := by
  w_on; o_law
  refine HandSHeadRun.head_any (r := OpenLaw.row PySem.Challenge.rw_thawedwrites_k14_run_plain_values) (q := view (OpenLaw.row PySem.Challenge.rw_thawedwrites_k14_run_plain_values).prog [79]) (H := TW.hhk) (ob := TW.hob) (M := 6500) (loose := TW.hnames) (d := HandSHeadRun.topDef (OpenLaw.row PySem.Challenge.rw_thawedwrites_k14_run_plain_values).prog 79) (kwd := []) TW.hob_eq
    (by kernel_rfl) (fun s => by kernel_rfl) TW.hrun (by kernel_rfl) (by kernel_rfl) (by kernel_rfl) (by rfl) (by first | assumption | decide +kernel) (by decide +kernel) ⟨rfl, rfl, rfl, rfl, rfl, by decide +kernel⟩ ?hw ?hc
  case hw => w_witness2
  case hc =>
    refine L2.walk_stillX (l := PySem.Challenge.rw_thawedwrites_k14_run_plain_values) (n := 63) (k := 15) (x := "_law_script") (C := fun w h K => TW.SaysY [] TW.hfn [] [] TW.exT [] [] w h K ∧ TW.SaysY TW.hfa [] TW.hts TW.htf TW.hex TW.her TW.hev w h K) rfl (by decide) (by kernel_rfl) ⟨rfl, by decide, by decide⟩ (fun _ _ y => y) ?F
    intro w mg fa h K KX c G hmg0
    have hmg : mg ("law" : PySem.Str) = some (.ref fa) := by
      have e : (HandSHeadRun.topDef (OpenLaw.row PySem.Challenge.rw_thawedwrites_k14_run_plain_values).prog 79).name = ("law" : PySem.Str) := by kernel_rfl
      rw [← e]
      exact hmg0
    exact TW.facts_x (l := PySem.Challenge.rw_thawedwrites_k14_run_plain_values) KX G hmg c (by decide +kernel) (by decide +kernel)
#print axioms PySem.Challenge.cw_thawedwrites_k14_run_plain_values_holds
