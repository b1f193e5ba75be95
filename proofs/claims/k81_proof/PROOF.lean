import PyProof.Rows.All
import Wide.All
import OpenK.AllK
import Wide.FinOn
import HandS.Base
import HandS.Call
import HandS.List
import HandS.Comp
import HandS.Ends
import HandS.Dict
import HandS.Iter
import HandS.Text
import HandS.Words
import HandS.WordsList
import HandS.WordsDict
import HandS.Wide
import HandS.More
import HandS.IsInst
import HandS.Conv
import HandS.Strs
import HandS.StrMore
import PyProof.ReprRoads
import KE.KExcSuper
import HandS.FStr
import HandS.Exc
import HandS.ExcInit
import HandS.FStrTup
import HandS.ExcValue
import HandS.ExcField
import KE.KExcIs
import HandS.HeadHook3
import HandS.MakeKwOnly
import PySem.Challenge.RW_thawedwrites_k81_error_classes
set_option Elab.async false
set_option linter.all false
set_option maxRecDepth 100000
namespace TW
open PySem PySem.Spec PyProof.Rows L2
def topS (i : Nat) : Stmt := PySem.Challenge.pw_thawedwrites_k81_error_classes.main.body.getD i (.Pass ⟨0, 0, 0, 0⟩)
/-- the built-ins are the built-ins -/
structure Bl (mg : Str → Option Value) : Prop where
  m_len : mg "len" = none
  m_int : mg "int" = none
  m_list : mg "list" = none
  m_tuple : mg "tuple" = none
  m_dict : mg "dict" = none
  m_set : mg "set" = none
  m_all : mg "all" = none
  m_range : mg "range" = none
  m_enumerate : mg "enumerate" = none
  m_sorted : mg "sorted" = none
  m_min : mg "min" = none
  m_isinstance : mg "isinstance" = none
  m_bool : mg "bool" = none
  m_str : mg "str" = none
  m_zip : mg "zip" = none
  m_ValueError : mg "ValueError" = none
  m_super : mg "super" = none
  m_repr : mg "repr" = none
/-- a def of the text, at its name -/
structure Df (K : PySem.W.Frag) (mg : Str → Option Value) (x : Str) (st : Stmt) (f : Addr) (fd : FuncData) (ps : List Str) : Prop where
  F : Fun K x x st f fd
  g : mg x = some (.ref f)
  b : Binds K fd ps []
end TW
set_option Elab.async false
set_option linter.all false
set_option maxRecDepth 100000
namespace TW
open PySem PySem.Spec PyProof.Rows L2
/-! heaps: all but p and c stays -/
def Fr (p c : Addr) (H H' : Hp) : Prop := ∀ b o, b ≠ p → b ≠ c → H b = some o → H' b = some o
theorem Fr.refl (p c : Addr) (H : Hp) : Fr p c H H := fun _ _ _ _ h => h
theorem Fr.trans {p c : Addr} {H H1 H2 : Hp} (a : Fr p c H H1) (b : Fr p c H1 H2) : Fr p c H H2 := fun x o h1 h2 h => b x o h1 h2 (a x o h1 h2 h)
theorem Fr.of_same {p c : Addr} {H H' : Hp} (a : Same H H') : Fr p c H H' := fun b o _ _ h => a b o h
theorem Fr.updP {p c : Addr} {H H' : Hp} {o : HO} (a : Fr p c H H') : Fr p c H (upd H' p o) := fun b x h1 h2 h => by
  rw [upd_ne h1]; exact a b x h1 h2 h
theorem Fr.updC {p c : Addr} {H H' : Hp} {o : HO} (a : Fr p c H H') : Fr p c H (upd H' c o) := fun b x h1 h2 h => by
  rw [upd_ne h2]; exact a b x h1 h2 h
theorem Fr.updN {p c q : Addr} {H H' : Hp} {o : HO} (a : Fr p c H H') (n : H q = none) : Fr p c H (upd H' q o) := fun b x h1 h2 h => by
  rw [upd_ne (ne_of_none h n)]; exact a b x h1 h2 h
/-- the pool at p, its cells at c -/
structure Pool (p c : Addr) (H : Hp) : Prop where
  ne : p ≠ c
  ex : ∃ (xs : List Int) (at' n : Nat), H p = some (.lst [.ref c, .int (at' : Int), .int (n : Int)]) ∧ H c = some (.lst (xs.map V.int)) ∧ xs.length ≤ 63
theorem Pool.frN {p c q : Addr} {H : Hp} {o : HO} (P : Pool p c H) (n : H q = none) : Pool p c (upd H q o) := by
  obtain ⟨xs, a, m, h1, h2, h3⟩ := P.ex
  exact ⟨P.ne, xs, a, m, by rw [upd_ne (ne_of_none h1 n)]; exact h1, by rw [upd_ne (ne_of_none h2 n)]; exact h2, h3⟩
theorem Pool.same {p c : Addr} {H H' : Hp} (P : Pool p c H) (s : Same H H') : Pool p c H' := by
  obtain ⟨xs, a, m, h1, h2, h3⟩ := P.ex
  exact ⟨P.ne, xs, a, m, s _ _ h1, s _ _ h2, h3⟩
theorem Pool.np {p c q : Addr} {H : Hp} (P : Pool p c H) (n : H q = none) : q ≠ p ∧ q ≠ c := by
  obtain ⟨xs, a, m, h1, h2, h3⟩ := P.ex
  exact ⟨(ne_of_none h1 n).symm, (ne_of_none h2 n).symm⟩
def spDraw : Sp := fun vs H Q _ => ∃ (p c : Addr) (l : Int), vs = [.ref p, .int l] ∧ Pool p c H ∧ 0 < l ∧ l.natAbs.log2 < 9000 ∧
  ∀ (r : Int) (H' : Hp), 0 ≤ r → r < l → Pool p c H' → Fr p c H H' → Q (.int r) H'
theorem atI_of {α : Type} {xs : List α} {i : Int} {j : Nat} {v : α} (e : i = (j : Int)) (h : xs[j]? = some v) : atI xs i = some v := by
  subst e; exact atI_nat h
theorem ixN_of {n : Nat} {i : Int} {j : Nat} (e : i = (j : Int)) (h : j < n) : ixN n i = some j := by
  subst e
  unfold ixN
  rw [if_pos (by omega), if_pos (by omega)]
  simp
theorem get_map_int {xs : List Int} {j : Nat} (h : j < xs.length) : (xs.map V.int)[j]? = some (.int xs[j]) := by
  rw [List.getElem?_map, List.getElem?_eq_getElem h]; rfl
theorem pos1 : (0 : Int) < 2147483629 := by decide
theorem pos2 : (0 : Int) < 2147483647 := by decide
theorem pos3 : (0 : Int) < 2147483399 := by decide
theorem cmul_l {i j m : Int} (h : 0 < m) (h2 : m < 2 ^ 64) : CMul (i % m) j := by
  have h3 := Int.emod_nonneg i (show m ≠ 0 by omega)
  have h4 := Int.emod_lt_of_pos i h
  exact .inl ⟨by omega, by omega⟩
section
variable {P : Program} {w : World} {K : PySem.W.Frag} {mg : Str → Option Value} {base : Heap}
abbrev S_law_draw : Stmt := topS 12
abbrev N_law_draw : List Str := ["_law_pool", "_law_limit", "_law_cells", "_law_at", "_law_digit", "_law_cell", "_law_number"]
abbrev P_law_draw : List Str := ["_law_pool", "_law_limit"]
theorem sc_law_draw : FnScope N_law_draw P_law_draw (defScope S_law_draw) := ⟨rfl, rfl, rfl, by decide +kernel, rfl, by decide +kernel, by decide +kernel⟩
set_option maxHeartbeats 4000000 in
theorem ok_draw {f : Addr} {fd : FuncData} (F : Fun K "_law_draw" "_law_draw" S_law_draw f fd) (B : Bl mg) : FnOk P w K mg base CX0 1 f fd ["_law_pool", "_law_limit"] spDraw := by
  refine F.ok sc_law_draw (fun vs H Q E h => ?_) (fun cdv A outer s H vs Q E hr h => ?_)
  · obtain ⟨p, c, l, rfl, _⟩ := h
    rfl
  · obtain ⟨p, c, l, rfl, PL, hl, hb, k⟩ := h
    obtain ⟨ne, xs, at', n, hp, hc, hx⟩ := PL
    refine ⟨_, (pss_cons (ps_set (i := 2) sc_law_draw.nd rfl (by first | exact Or.inl rfl | exact Or.inr rfl) (pe_ix ix_list (pv 0) pe_int (fun _ _ => rfl)))
 (pss_cons (ps_set (i := 3) sc_law_draw.nd rfl (by first | exact Or.inl rfl | exact Or.inr rfl) (pe_ix ix_list (pv 0) pe_int (fun _ _ => rfl)))
 (pss_cons (ps_asg (pe_op op_add (pe_ix ix_list (pv 0) pe_int (fun _ _ => rfl)) pe_int) (pg_sub (pv 0) pe_int set_list))
 (pss_cons (ps_if (PW.pt (pw_and (pt_cmpR op_lt (pv 3) (pe_callB call_len_seq (by rfl) B.m_len PySem.boot_len (pa_cons (pv 2) pa_nil)) (nomark _)) (pw_and1 (pt_cmpR op_ge (pe_ix ix_list (pv 2) (pv 3) (fun _ _ => rfl)) (pe_op op_pow pe_int pe_int) (nomark _))))) (pss_cons (ps_set (i := 4) sc_law_draw.nd rfl (by first | exact Or.inl rfl | exact Or.inr rfl) (pe_op op_mod (pe_callTy call_int1 (by rfl) B.m_int (by decide +kernel) (pa_cons (pe_ix ix_list (pv 2) (pv 3) (fun _ _ => rfl)) pa_nil)) (pv 1)))
 (pss_cons (ps_asg (pe_op op_fdivW (pe_ix ix_list (pv 2) (pv 3) (fun _ _ => rfl)) (pv 1)) (pg_sub (pv 2) (pv 3) set_list))
 (pss_cons (ps_if (pt_cmpR op_lt (pe_ix ix_list (pv 2) (pv 3) (fun _ _ => rfl)) (pe_op op_pow pe_int pe_int) (nomark _)) (pss_one (ps_asg (pe_op op_add (pv 3) pe_int) (pg_sub (pv 0) pe_int set_list))) pss_nil)
 (pss_one (ps_ret (pv 4)))))) pss_nil)
 (pss_cons (ps_asg (pe_op op_add (pv 3) pe_int) (pg_sub (pv 0) pe_int set_list))
 (pss_cons (ps_set (i := 5) sc_law_draw.nd rfl (by first | exact Or.inl rfl | exact Or.inr rfl) pe_int)
 (pss_cons (ps_if (pt_cmpR op_gt (pe_callB call_len_seq (by rfl) B.m_len PySem.boot_len (pa_cons (pv 2) pa_nil)) pe_int (nomark _)) (pss_one (ps_set (i := 5) sc_law_draw.nd rfl (by first | exact Or.inl rfl | exact Or.inr rfl) (pe_ix ix_list (pv 2) (pe_op op_mod (pv 3) (pe_callB call_len_seq (by rfl) B.m_len PySem.boot_len (pa_cons (pv 2) pa_nil))) (fun _ _ => rfl)))) pss_nil)
 (pss_cons (ps_set (i := 6) sc_law_draw.nd rfl (by first | exact Or.inl rfl | exact Or.inr rfl) (pe_op op_mod (pe_op op_mul (pe_callTy call_int1 (by rfl) B.m_int (by decide +kernel) (pa_cons (pe_op op_add (pe_op op_add (pe_op op_mod (pe_callTy call_int1 (by rfl) B.m_int (by decide +kernel) (pa_cons (pv 5) pa_nil)) pe_int) (pe_op op_mul pe_int (pe_ix ix_list (pv 0) pe_int (fun _ _ => rfl)))) pe_int) pa_nil)) pe_int) pe_int))
 (pss_cons (ps_set (i := 6) sc_law_draw.nd rfl (by first | exact Or.inl rfl | exact Or.inr rfl) (pe_op op_mod (pe_callTy call_int1 (by rfl) B.m_int (by decide +kernel) (pa_cons (pe_op op_mul (pv 6) (pe_op op_add (pe_op op_fdiv (pv 6) pe_int) pe_int)) pa_nil)) pe_int))
 (pss_cons (ps_set (i := 6) sc_law_draw.nd rfl (by first | exact Or.inl rfl | exact Or.inr rfl) (pe_op op_mod (pe_callTy call_int1 (by rfl) B.m_int (by decide +kernel) (pa_cons (pe_op op_mul (pv 6) (pe_op op_add (pe_op op_fdiv (pv 6) pe_int) pe_int)) pa_nil)) pe_int))
 (pss_one (ps_ret (pe_op op_mod (pe_callTy call_int1 (by rfl) B.m_int (by decide +kernel) (pa_cons (pe_op op_fdiv (pv 6) pe_int) pa_nil)) (pv 1)))))))))))))), ?_⟩
    have hp1 : H p = some (.lst [.ref c, .int (at' : Int), .int (n : Int)]) := hp
    -- cells, at, pool[2]
    refine ⟨_, rfl, p, _, _, _, rfl, rfl, SqL.of hp, atI_nat (j := 0) rfl, _, rfl, p, _, _, _, rfl, rfl, SqL.of hp, atI_nat (j := 1) rfl, ?_⟩
    refine ⟨_, rfl, p, _, _, _, rfl, rfl, SqL.of hp, atI_nat (j := 2) rfl, _, _, rfl, rfl, _, rfl, p, _, _, 2, rfl, rfl, hp, rfl, ?_⟩
    let H1 : Hp := upd H p (.lst [.ref c, .int (at' : Int), .int ((n + 1 : Nat) : Int)])
    have hc1 : H1 c = some (.lst (xs.map V.int)) := (upd_ne ne.symm).trans hc
    have hq1 : H1 p = some (.lst [.ref c, .int (at' : Int), .int ((n + 1 : Nat) : Int)]) := upd_same
    have fr1 : Fr p c H H1 := (Fr.refl p c H).updP
    -- the rest behind the if
    have hlen : (xs.map V.int).length = xs.length := List.length_map ..
    -- if at < len(cells) and ..
    refine ⟨_, rfl, _, rfl, c, _, rfl, .inl (SqL.of hc1), _, _, rfl, rfl, _, rfl, ?_⟩
    by_cases h1 : (at' : Int) < ((xs.map V.int).length : Int)
    case' pos =>
      have ha : at' < xs.length := by rw [hlen] at h1; omega
      have hg : (xs.map V.int)[at']? = some (.int xs[at']) := get_map_int ha
      rw [decide_eq_true h1]
      refine iteT ?_
      refine ⟨_, rfl, _, rfl, c, _, _, _, rfl, rfl, SqL.of hc1, atI_nat hg, _, _, rfl, rfl, ⟨by decide, by decide, by decide⟩, _, _, rfl, rfl, _, rfl, ?_⟩
      refine ite2 (fun h2 => ?great) (fun h2 => ?small)
      case great =>
        refine ⟨_, rfl, _, rfl, c, _, _, _, rfl, rfl, SqL.of hc1, atI_nat hg, .inl ⟨_, rfl, _, rfl, _, _, rfl, rfl, hl, ?_⟩⟩
        refine ⟨_, rfl, _, rfl, c, _, _, _, rfl, rfl, SqL.of hc1, atI_nat hg, _, rfl, _, _, rfl, rfl, ⟨hl, hb⟩, _, rfl, _, rfl, c, _, _, at', rfl, rfl, hc1, ixN_of rfl (by rw [hlen]; exact ha), ?_⟩
        have hs : (xs.map V.int).set at' (V.int (xs[at'] / l)) = (xs.set at' (xs[at'] / l)).map V.int := by rw [List.map_set]
        rw [hs]
        let H2 : Hp := upd H1 c (.lst ((xs.set at' (xs[at'] / l)).map V.int))
        have hc2 : H2 c = some (.lst ((xs.set at' (xs[at'] / l)).map V.int)) := upd_same
        have hq2 : H2 p = some (.lst [.ref c, .int (at' : Int), .int ((n + 1 : Nat) : Int)]) := (upd_ne ne).trans hq1
        have fr2 : Fr p c H H2 := fr1.updC
        have r0 : 0 ≤ xs[at'] % l := Int.emod_nonneg _ (by omega)
        have r1 : xs[at'] % l < l := Int.emod_lt_of_pos _ hl
        have ha2 : at' < (xs.set at' (xs[at'] / l)).length := by rw [List.length_set]; exact ha
        have hx2 : (xs.set at' (xs[at'] / l)).length ≤ 63 := by rw [List.length_set]; exact hx
        refine ⟨_, rfl, _, rfl, c, _, _, _, rfl, rfl, SqL.of hc2, atI_nat (get_map_int ha2), _, _, rfl, rfl, ⟨by decide, by decide, by decide⟩, _, _, rfl, rfl, _, rfl, ?_⟩
        refine ite2 (fun h3 => ?_) (fun h3 => ?_)
        · refine ⟨_, rfl, _, _, rfl, rfl, _, rfl, p, _, _, 1, rfl, rfl, hq2, rfl, _, rfl, ?_⟩
          exact k _ _ r0 r1 ⟨ne, _, at' + 1, n + 1, upd_same, by rw [upd_ne ne.symm]; exact hc2, hx2⟩ fr2.updP
        · refine ⟨_, rfl, ?_⟩
          exact k _ _ r0 r1 ⟨ne, _, at', n + 1, hq2, hc2, hx2⟩ fr2
    case' neg =>
      rw [decide_eq_false h1]
      refine iteF ?_
      refine iteF ?_
    all_goals
      refine ⟨_, rfl, _, _, rfl, rfl, _, rfl, p, _, _, 1, rfl, rfl, hq1, rfl, ?_⟩
      let H3 : Hp := upd H1 p (.lst [.ref c, .int ((at' + 1 : Nat) : Int), .int ((n + 1 : Nat) : Int)])
      have hc3 : H3 c = some (.lst (xs.map V.int)) := (upd_ne ne.symm).trans hc1
      have hq3 : H3 p = some (.lst [.ref c, .int ((at' + 1 : Nat) : Int), .int ((n + 1 : Nat) : Int)]) := upd_same
      have fr3 : Fr p c H H3 := fr1.updP
      refine ⟨_, rfl, c, _, rfl, .inl (SqL.of hc3), _, _, rfl, rfl, _, rfl, ?_⟩
      by_cases h4 : (0 : Int) < ((xs.map V.int).length : Int)
      case' pos =>
        have h5 : 0 < xs.length := by rw [hlen] at h4; omega
        have h6 : at' % xs.length < xs.length := Nat.mod_lt _ h5
        rw [decide_eq_true h4]
        refine iteT ?_
        refine ⟨_, rfl, _, rfl, _, rfl, c, _, rfl, .inl (SqL.of hc3), _, _, rfl, rfl, h4, c, _, _, _, rfl, rfl, SqL.of hc3, atI_of (j := at' % xs.length) (by rw [hlen]; exact (Int.natCast_emod _ _).symm) (get_map_int h6), ?_⟩
        generalize xs[at' % xs.length] = z
      case' neg =>
        rw [decide_eq_false h4]
        refine iteF ?_
      all_goals
        refine ⟨_, rfl, .inl ⟨_, rfl, _, _, rfl, rfl, pos1, _, rfl, p, _, _, _, rfl, rfl, SqL.of hq3, atI_nat (j := 2) rfl, _, _, rfl, rfl, .inl ⟨by decide, by decide⟩, _, _, rfl, rfl, _, _, rfl, rfl, .inl ⟨_, rfl, _, _, rfl, rfl, .inr ⟨by decide, by decide⟩, _, _, rfl, rfl, pos2, ?_⟩⟩⟩
        refine ⟨_, rfl, _, rfl, _, _, rfl, rfl, ⟨by decide, by decide⟩, _, _, rfl, rfl, _, _, rfl, rfl, cmul_l pos2 (by decide), .inl ⟨_, rfl, _, _, rfl, rfl, pos2, ?_⟩⟩
        refine ⟨_, rfl, _, rfl, _, _, rfl, rfl, ⟨by decide, by decide⟩, _, _, rfl, rfl, _, _, rfl, rfl, cmul_l pos2 (by decide), .inl ⟨_, rfl, _, _, rfl, rfl, pos3, ?_⟩⟩
        refine ⟨_, rfl, _, _, rfl, rfl, ⟨by decide, by decide⟩, .inl ⟨_, rfl, _, rfl, _, _, rfl, rfl, hl, ?_⟩⟩
        exact k _ _ (Int.emod_nonneg _ (by omega)) (Int.emod_lt_of_pos _ hl) ⟨ne, xs, at' + 1, n + 1, hq3, hc3, hx⟩ fr3
end
end TW
set_option Elab.async false
set_option linter.all false
set_option maxRecDepth 100000
namespace TW
open PySem PySem.Spec PyProof.Rows L2 TL
abbrev St' := L2.St
/-! ### mathematics -/
theorem len_le_of_sub {α : Type} [DecidableEq α] : ∀ (l m : List α), l.Nodup → (∀ x ∈ l, x ∈ m) → l.length ≤ m.length
  | [], _, _, _ => Nat.zero_le _
  | x :: l, m, nd, h => by
    have hx : x ∈ m := h x (List.mem_cons_self ..)
    have nd' := List.nodup_cons.mp nd
    have ih := len_le_of_sub l (m.erase x) nd'.2 (fun y hy => (List.mem_erase_of_ne (fun e => nd'.1 (by rw [← e]; exact hy))).mpr (h y (List.mem_cons_of_mem _ hy)))
    rw [List.length_erase_of_mem hx] at ih
    have : 0 < m.length := List.length_pos_of_mem hx
    rw [List.length_cons]
    omega
/-- a word: 1 to 8 letters -/
def IsW (z : Str) : Prop := 1 ≤ z.length ∧ z.length ≤ 8 ∧ ∀ c ∈ z.cps.toList, 97 ≤ c ∧ c ≤ 122
def rep8 (c : Nat) : Str := ⟨#[c, c, c, c, c, c, c, c]⟩
theorem rep8_w {c : Nat} (h : 97 ≤ c ∧ c ≤ 122) : IsW (rep8 c) := ⟨(by show 1 ≤ 8; decide), (by show 8 ≤ 8; decide), fun d hd => by
  have : d = c := by simpa [rep8] using hd
  subst this; exact h⟩
theorem rep8_inj {c d : Nat} (h : rep8 c = rep8 d) : c = d := by
  unfold rep8 at h
  simp only [Str.mk.injEq] at h
  have := congrArg (fun a : Array Nat => a[0]?) h
  simpa using this
theorem reps_full {ws : List Str} (h : ∀ j, j < 26 → rep8 (97 + j) ∈ ws) : 26 ≤ ws.length := by
  have e := len_le_of_sub ((List.range 26).map fun j => rep8 (97 + j)) ws ?_ ?_
  · simpa using e
  · refine List.Pairwise.map _ (fun a b hab h' => hab ?_) (List.nodup_range (n := 26))
    have := rep8_inj h'
    omega
  · intro x hx
    obtain ⟨j, hj, rfl⟩ := List.mem_map.mp hx
    exact h j (List.mem_range.mp hj)
theorem abc_at : ∀ r : Fin 26, ((Str.ofString "abcdefghijklmnopqrstuvwxyz").cps.toList)[(r : Nat)]? = some (97 + (r : Nat)) := by decide +kernel
theorem abc_at' {i c : Nat} (h : (Str.ofString "abcdefghijklmnopqrstuvwxyz").cps[i]? = some c) : i < 26 ∧ c = 97 + i := by
  have h' : (Str.ofString "abcdefghijklmnopqrstuvwxyz").cps.toList[i]? = some c := by rw [← h]; simp
  have hl : (Str.ofString "abcdefghijklmnopqrstuvwxyz").cps.toList.length = 26 := by decide +kernel
  have hi : i < 26 := by
    have := (List.getElem?_eq_some_iff.mp h').1
    omega
  have := abc_at ⟨i, hi⟩
  simp only at this
  rw [h'] at this
  exact ⟨hi, Option.some.inj this⟩
theorem join_signs : ∀ cs : List Nat, tl (Str.join Str.empty (cs.map fun c => (⟨#[c]⟩ : Str))) = cs
  | [] => rfl
  | [c] => rfl
  | c :: d :: r => by
    have ih := join_signs (d :: r)
    rw [tl_join] at ih ⊢
    show [c] ++ ([] ++ _) = _
    rw [List.nil_append]
    show c :: _ = c :: (d :: r)
    exact congrArg (c :: ·) ih
theorem join_cps (cs : List Nat) : (Txt.join Str.empty (cs.map fun c => (⟨#[c]⟩ : Str))).cps.toList = cs := by
  rw [join_eq]
  exact join_signs cs
theorem flat_strs : ∀ ws : List Str, (ws.map V.str).all flatV = true
  | [] => rfl
  | _ :: ws => flat_strs ws
theorem inV_strs {z : Str} {ws : List Str} : inV (.str z) (ws.map V.str) = decide (z ∈ ws) := by
  induction ws with
  | nil => rfl
  | cons y ws ih =>
    show (eqV (.str y) (.str z) || inV (.str z) (ws.map V.str)) = _
    rw [ih]
    by_cases h : z = y
    · subst h
      simp [eqV]
    · have h2 : ¬ y = z := fun e => h e.symm
      simp [eqV, h, h2]
theorem ite_dec {b : Bool} {A C : Prop} (h1 : b = true → A) (h2 : b = false → C) : if b = true then A else C := by
  cases b
  · exact (if_neg Bool.false_ne_true).mpr (h2 rfl)
  · exact (if_pos rfl).mpr (h1 rfl)
theorem not_inT {z : Str} {ws : List Str} (h : (if true = true then !inV (.str z) (ws.map V.str) else inV (.str z) (ws.map V.str)) = true) : z ∉ ws := by
  rw [inV_strs] at h
  simpa using h
theorem not_inF {z : Str} {ws : List Str} (h : (if true = true then !inV (.str z) (ws.map V.str) else inV (.str z) (ws.map V.str)) = false) : z ∈ ws := by
  rw [inV_strs] at h
  simpa using h
theorem yes_of {σ : St'} {H : Hp} {A C : Hp → Prop} (h : A H) : tYes σ H fun b H3 => if b = true then A H3 else C H3 := iteT (A := A H) (B := C H) h
/-! ### rules of mine -/
section
variable {X : Cx}
def rMulS : R2 := fun x y H Q => ∃ z n, x = .str z ∧ y = .int n ∧ MulOk z n ∧ Q (.str (Txt.mul z n)) H
theorem op_mulS : OpR X (binaryOp .Mult) rMulS := by
  intro pins s σ H x y v u Q I rx ry h
  obtain ⟨z, n, rfl, rfl, hm, q⟩ := h
  obtain ⟨t, rfl⟩ := rx
  obtain ⟨t', rfl⟩ := ry
  exact SB.mul hm fun t2 k => ⟨.str _, H, I.tok k, ⟨_, rfl⟩, q⟩
end
theorem mul8_ok (c : Nat) : MulOk ⟨#[c]⟩ 8 := ⟨by decide, fun _ _ => by show ¬ ((1 : Int) > (2 ^ 63 - 1) / 8); decide, fun _ _ => by show Builtin.Str.tooLong (1 * 8) = false; decide⟩
theorem mul8 (c : Nat) : Txt.mul ⟨#[c]⟩ 8 = rep8 c := rfl
theorem for_str {x : Str} {g : TG} {tb : TS} {D : Ends} {σ : St'} {H : Hp} (Pv : Nat → St' → Hp → Prop) (h0 : Pv 0 σ H)
    (hs : ∀ i c σ H, x.cps[i]? = some c → Pv i σ H → g (.str ⟨#[c]⟩) σ H fun σ2 H2 => tb { D with nx := Pv (i + 1), ct := Pv (i + 1), bk := D.nx } σ2 H2) (hd : ∀ σ H, Pv x.cps.size σ H → D.nx σ H) :
    ∃ W : Nat → Nat → St' → Hp → Prop, (∃ m, W 0 m σ H) ∧ ∀ i m σ H, W i m σ H →
      ((Its x).stop i H ∧ D.nx σ H) ∨ ((Its x).go i H ∧ ∃ N : St' → Hp → Prop, (∀ σ' H', N σ' H' → ∃ m', m' < m ∧ W (i + 1) m' σ' H') ∧ ∀ y H', (Its x).yld i H y H' → g y σ H' fun σ2 H2 => tb { D with nx := N, ct := N, bk := D.nx } σ2 H2) := by
  refine ⟨fun i m σ H => m = x.cps.size - i ∧ i ≤ x.cps.size ∧ Pv i σ H, ⟨x.cps.size, by simp, Nat.zero_le _, h0⟩, ?_⟩
  rintro i m σ H ⟨rfl, hi, p⟩
  by_cases hlt : i < x.cps.size
  · refine .inr ⟨hlt, Pv (i + 1), fun σ' H' p' => ⟨x.cps.size - (i + 1), by omega, rfl, hlt, p'⟩, fun y H' hy => ?_⟩
    obtain ⟨e, c, hc, rfl⟩ := hy
    subst e
    exact hs i c σ _ hc p
  · have e : i = x.cps.size := by omega
    subst e
    exact .inl ⟨Nat.le_refl _, hd σ H p⟩
/-! ### the promises -/
/-- a list or tuple of mine (not the pool's) -/
structure SeqSt (p c : Addr) (H : Hp) (a : Addr) (xs : List V) : Prop where
  np : a ≠ p
  nc : a ≠ c
  at' : H a = some (.lst xs) ∨ H a = some (.tup xs)
theorem SeqSt.fr {p c a : Addr} {H H' : Hp} {xs : List V} (S : SeqSt p c H a xs) (f : Fr p c H H') : SeqSt p c H' a xs :=
  ⟨S.np, S.nc, S.at'.elim (fun h => .inl (f _ _ S.np S.nc h)) (fun h => .inr (f _ _ S.np S.nc h))⟩
theorem SeqSt.lt {p c a : Addr} {H : Hp} {xs : List V} {K : PySem.W.Frag} (S : SeqSt p c H a xs) : SqL K H a xs ∨ SqT K H a xs := S.at'.elim (fun h => .inl (SqL.of h)) (fun h => .inr (SqT.of h))
def spPick : Sp := fun vs H Q _ => ∃ (p c a : Addr) (xs : List V), vs = [.ref p, .ref a] ∧ Pool p c H ∧ SeqSt p c H a xs ∧ xs ≠ [] ∧ xs.length ≤ 1000000 ∧
  ∀ (v : V) (i : Nat) (H' : Hp), xs[i]? = some v → Pool p c H' → Fr p c H H' → Q v H'
def spWord : Sp := fun vs H Q _ => ∃ (p c a : Addr) (ws : List Str), vs = [.ref p, .ref a] ∧ Pool p c H ∧ SeqSt p c H a (ws.map V.str) ∧
  ∀ (z : Str) (H' : Hp), IsW z → (ws.length < 26 → z ∉ ws) → Pool p c H' → Fr p c H H' → Q (.str z) H'
def spWords : Sp := fun vs H Q _ => ∃ (p c : Addr) (lo hi : Nat), vs = [.ref p, .int (lo : Int), .int (hi : Int)] ∧ Pool p c H ∧ lo ≤ hi ∧ hi ≤ 20 ∧
  ∀ (q : Addr) (ws : List Str) (H' : Hp), H q = none → H' q = some (.lst (ws.map V.str)) → lo ≤ ws.length → ws.length ≤ hi → ws.Nodup → (∀ z ∈ ws, IsW z) → Pool p c H' → Fr p c H H' → Q (.ref q) H'
theorem log_small {l : Int} (h0 : 0 < l) (h : l ≤ 2 ^ 64) : l.natAbs.log2 < 9000 := by
  have h1 : l.natAbs < 2 ^ 65 := by omega
  have h2 : l.natAbs ≠ 0 := by omega
  have := (Nat.log2_lt h2).mpr h1
  omega
abbrev S_law_pick : Stmt := topS 13
abbrev N_law_pick : List Str := ["_law_pool", "_law_row"]
abbrev P_law_pick : List Str := ["_law_pool", "_law_row"]
theorem sc_law_pick : FnScope N_law_pick P_law_pick (defScope S_law_pick) := ⟨rfl, rfl, rfl, by decide +kernel, rfl, by decide +kernel, by decide +kernel⟩
abbrev S_law_word : Stmt := topS 14
abbrev N_law_word : List Str := ["_law_pool", "_law_taken", "_law_letters", "_law_size", "_law_word_here", "_law_k", "_law_letter"]
abbrev P_law_word : List Str := ["_law_pool", "_law_taken"]
theorem sc_law_word : FnScope N_law_word P_law_word (defScope S_law_word) := ⟨rfl, rfl, rfl, by decide +kernel, rfl, by decide +kernel, by decide +kernel⟩
abbrev S_law_words : Stmt := topS 15
abbrev N_law_words : List Str := ["_law_pool", "_law_least", "_law_most", "_law_words_here", "_law_k"]
abbrev P_law_words : List Str := ["_law_pool", "_law_least", "_law_most"]
theorem sc_law_words : FnScope N_law_words P_law_words (defScope S_law_words) := ⟨rfl, rfl, rfl, by decide +kernel, rfl, by decide +kernel, by decide +kernel⟩
section
variable {P : Program} {w : World} {K : PySem.W.Frag} {mg : Str → Option Value} {base : Heap}
set_option maxHeartbeats 4000000 in
theorem ok_pick {f fD : Addr} {fd fdD : FuncData} (F : Fun K "_law_pick" "_law_pick" S_law_pick f fd) (B : Bl mg) (d_law_draw : Df K mg "_law_draw" S_law_draw fD fdD P_law_draw) (G_law_draw : FnOk P w K mg base CX0 1 fD fdD P_law_draw spDraw) : FnOk P w K mg base CX0 2 f fd P_law_pick spPick := by
  refine F.ok sc_law_pick (fun vs H Q E h => ?_) (fun cdv A outer s H vs Q E hr h => ?_)
  · obtain ⟨p, c, a, xs, rfl, _⟩ := h
    rfl
  · obtain ⟨p, c, a, xs, rfl, PL, S, hne, hl, k⟩ := h
    have hr_law_draw : Room 1 _ := hr.mono (Nat.le_refl 1)
    refine ⟨_, (pss_one (ps_ret (pe_ix ix_seq (pv 1) (pe_call G_law_draw hr_law_draw rfl d_law_draw.g d_law_draw.F.kp d_law_draw.b .nil pass0 (pa_cons (pv 0) (pa_cons (pe_callB call_len (by rfl) B.m_len PySem.boot_len (pa_cons (pv 1) pa_nil)) pa_nil))) (fun _ _ => rfl)))), ?_⟩
    have hpos : 0 < xs.length := List.length_pos_iff.mpr hne
    refine ⟨_, rfl, _, rfl, _, rfl, .ref a, xs.length, rfl, S.at'.elim (fun h => .inl ⟨_, SqL.of h, rfl⟩) (fun h => .inr ⟨_, SqT.of h, rfl⟩), ?_⟩
    refine ⟨p, c, _, rfl, PL, by omega, log_small (by omega) (by omega), fun r H' h0 h1 P' f' => ?_⟩
    have S' := S.fr f'
    have hr' : r.toNat < xs.length := by omega
    have hat : atI xs r = some xs[r.toNat] := atI_of (j := r.toNat) (by omega) (List.getElem?_eq_getElem hr')
    have q := k xs[r.toNat] r.toNat H' (List.getElem?_eq_getElem hr') P' f'
    rcases S'.at' with h | h
    · exact .inl ⟨a, _, _, _, rfl, rfl, SqL.of h, hat, q⟩
    · exact .inr (.inl ⟨a, _, _, _, rfl, rfl, SqT.of h, hat, q⟩)
set_option maxHeartbeats 4000000 in
theorem ok_word {f fD : Addr} {fd fdD : FuncData} (F : Fun K "_law_word" "_law_word" S_law_word f fd) (B : Bl mg) (d_law_draw : Df K mg "_law_draw" S_law_draw fD fdD P_law_draw) (G_law_draw : FnOk P w K mg base CX0 1 fD fdD P_law_draw spDraw) : FnOk P w K mg base CX0 2 f fd P_law_word spWord := by
  refine F.ok sc_law_word (fun vs H Q E h => ?_) (fun cdv A outer s H vs Q E hr h => ?_)
  · obtain ⟨p, c, a, xs, rfl, _⟩ := h
    rfl
  · obtain ⟨p, c, a, ws, rfl, PL, S, k⟩ := h
    have hr_law_draw : Room 1 _ := hr.mono (Nat.le_refl 1)
    refine ⟨_, (pss_cons (ps_set (i := 2) sc_law_word.nd rfl (by first | exact Or.inl rfl | exact Or.inr rfl) pe_str)
 (pss_cons (ps_set (i := 3) sc_law_word.nd rfl (by first | exact Or.inl rfl | exact Or.inr rfl) (pe_op op_add pe_int (pe_call G_law_draw hr_law_draw rfl d_law_draw.g d_law_draw.F.kp d_law_draw.b .nil pass0 (pa_cons (pv 0) (pa_cons pe_int pa_nil)))))
 (pss_cons (ps_set (i := 4) sc_law_word.nd rfl (by first | exact Or.inl rfl | exact Or.inr rfl) (pe_join pe_str (pe_lc (own := [("_law_k", 5)]) (g := gName 5) (tt := tYes) rfl sc_law_word.nd (pi_range1 (by rfl) B.m_range (pa_cons (pv 3) pa_nil)) (blkOk_by (own := [("_law_k", 5)]) (N := N_law_word) (sc := defScope S_law_word) (by decide +kernel)) (fun _ _ _ _ _ => (pg_name (i := 5) sc_law_word.nd rfl (by first | exact Or.inl rfl | exact Or.inr rfl))) (fun _ _ _ _ _ => pts_nil) (fun _ _ _ _ _ => (pe_ix ix_str (pv 2) (pe_call G_law_draw hr_law_draw rfl d_law_draw.g d_law_draw.F.kp d_law_draw.b .nil pass0 (pa_cons (pv 0) (pa_cons pe_int pa_nil))) (fun _ _ => rfl))))))
 (pss_cons (ps_if (pt_cmpR op_notIn_seq (pv 4) (pv 1) (by rfl)) (pss_one (ps_ret (pv 4))) pss_nil)
 (pss_cons (ps_for PassesOwn.never rfl (pi_str (pv 2)) (pg_name (i := 6) sc_law_word.nd rfl (by first | exact Or.inl rfl | exact Or.inr rfl)) (pss_one (ps_if (pt_cmpR op_notIn_seq (pe_op op_mulS (pv 6) pe_int) (pv 1) (by rfl)) (pss_one (ps_ret (pe_op op_mulS (pv 6) pe_int))) pss_nil)))
 (pss_one (ps_ret (pv 4)))))))), ?_⟩
    -- letters; size
    refine ⟨_, rfl, p, c, 8, rfl, PL, by decide, by decide, fun r1 H1 r10 r11 P1 f1 => ?_⟩
    refine ⟨_, _, rfl, rfl, ?_⟩
    -- the text
    refine ⟨⟨_, rfl⟩, _, rfl, _, rfl, by omega, by omega, fun D hD => ?_⟩
    obtain ⟨dp, dc⟩ := P1.np hD
    have P1' : Pool p c (upd H1 D (.lst [])) := P1.frN hD
    have f1' : Fr p c H (upd H1 D (.lst [])) := fun b o h1 h2 h => by
      have e := f1 b o h1 h2 h
      rw [upd_ne (ne_of_none e hD)]; exact e
    refine lc_range (lo := 0) (n := (1 + r1).toNat) (fun i H2 => Pool p c H2 ∧ Fr p c H H2 ∧ ∃ cs : List Nat, cs.length = i ∧ (∀ x ∈ cs, 97 ≤ x ∧ x ≤ 122) ∧ H2 D = some (.lst ((cs.map fun x => (⟨#[x]⟩ : Str)).map V.str)))
      ⟨P1', f1', [], rfl, fun x hx => (nomatch hx), upd_same⟩ ?_ ?_
    · rintro i H2 hi ⟨P2, f2, cs, hcs, hr2, hD2⟩
      refine ⟨rfl, yes_of ?_⟩
      refine ⟨_, rfl, _, rfl, p, c, 26, rfl, P2, by decide, by decide, fun r3 H3 r30 r31 P3 f3 => ?_⟩
      have hlt : r3.toNat < 26 := by omega
      have hat := abc_at ⟨r3.toNat, hlt⟩
      simp only at hat
      refine ⟨_, _, 97 + r3.toNat, rfl, rfl, by decide, atI_of (j := r3.toNat) (by omega) hat, ?_⟩
      have hD3 := f3 _ _ dp dc hD2
      refine ⟨_, hD3, by rw [List.length_map, List.length_map, hcs]; exact Nat.lt_of_lt_of_le (show i < 100 by omega) (by decide), ?_⟩
      have hnD : ∀ {o : HO}, Pool p c (upd H3 D o) := fun {o} => by
        obtain ⟨xs, a2, m2, g1, g2, g3⟩ := P3.ex
        exact ⟨P3.ne, xs, a2, m2, by rw [upd_ne dp.symm]; exact g1, by rw [upd_ne dc.symm]; exact g2, g3⟩
      refine ⟨hnD, fun b o h1 h2 h => ?_, cs ++ [97 + r3.toNat], by rw [List.length_append, hcs]; rfl, fun x hx => ?_, ?_⟩
      · have e1 := f1 b o h1 h2 h
        have hbD : b ≠ D := ne_of_none e1 hD
        rw [upd_ne hbD]
        exact f3 _ _ h1 h2 (f2 _ _ h1 h2 h)
      · rcases List.mem_append.mp hx with hx | hx
        · exact hr2 x hx
        · have := List.mem_singleton.mp hx
          omega
      · rw [upd_same, List.map_append, List.map_append]
        rfl
    · rintro H2 ⟨P2, f2, cs, hcs, hr2, hD2⟩
      have hsz : (((cs.map fun x => (⟨#[x]⟩ : Str))).map (·.length)).sum = cs.length := by
        clear hcs hr2 hD2
        induction cs with
        | nil => rfl
        | cons x cs ih =>
          rw [List.map_cons, List.map_cons, List.sum_cons, ih, List.length_cons]
          show 1 + _ = _
          omega
      refine ⟨_, D, cs.map fun x => (⟨#[x]⟩ : Str), rfl, rfl, .inl (SqL.of hD2), ?_, ?_⟩
      · rw [hsz, hcs]
        show (1 + r1).toNat + _ * 0 ≤ _
        omega
      have hz : (Txt.join Str.empty (cs.map fun x => (⟨#[x]⟩ : Str))).cps.toList = cs := join_cps cs
      have hw : IsW (Txt.join Str.empty (cs.map fun x => (⟨#[x]⟩ : Str))) := by
        have hl : (Txt.join Str.empty (cs.map fun x => (⟨#[x]⟩ : Str))).length = cs.length := by
          show Array.size _ = _
          rw [← Array.length_toList, hz]
        refine ⟨by rw [hl, hcs]; omega, by rw [hl, hcs]; omega, fun x hx => ?_⟩
        rw [hz] at hx
        exact hr2 x hx
      have S2 := S.fr f2
      -- if it is not taken
      refine ⟨_, rfl, _, rfl, a, _, rfl, S2.lt, rfl, flat_strs ws, _, rfl, ?_⟩
      refine ite_dec (fun hb => ?_) (fun hb => ?_)
      rotate_left
      · have hin := not_inF hb
        -- for letter in letters
        refine ⟨_, rfl, _, rfl, for_str (x := Str.ofString "abcdefghijklmnopqrstuvwxyz") (fun i σ H3 => H3 = H2 ∧ (∀ j, j < i → rep8 (97 + j) ∈ ws) ∧ σ.length = 7 ∧ ∃ z1 z2 z3, σ[0]? = some (some (.ref p)) ∧ σ[1]? = some (some (.ref a)) ∧ σ = [some (.ref p), some (.ref a), z1, z2, some (.str (Txt.join Str.empty (cs.map fun x => (⟨#[x]⟩ : Str)))), none, z3]) ⟨rfl, fun j hj => (nomatch hj), rfl, _, _, _, rfl, rfl, rfl⟩ ?_ ?_⟩
        · rintro i c' σ H3 hc' ⟨rfl, hj, _, z1, z2, z3, _, _, rfl⟩
          obtain ⟨hi, rfl⟩ := abc_at' hc'
          refine ⟨_, rfl, _, _, rfl, rfl, mul8_ok _, _, rfl, a, _, rfl, S2.lt, rfl, flat_strs ws, _, rfl, ?_⟩
          refine ite_dec (fun hb2 => ?_) (fun hb2 => ?_)
          rotate_left
          · have hin2 : rep8 (97 + i) ∈ ws := not_inF hb2
            refine ⟨rfl, fun j hj2 => ?_, rfl, _, _, _, rfl, rfl, rfl⟩
            rcases Nat.lt_or_ge j i with h | h
            · exact hj j h
            · have : j = i := by omega
              subst this; exact hin2
          · have hin2 : rep8 (97 + i) ∉ ws := not_inT hb2
            exact ⟨_, rfl, _, _, rfl, rfl, mul8_ok _, k _ _ (rep8_w (c := 97 + i) (by omega)) (fun _ => hin2) P2 f2⟩
        · rintro σ H3 ⟨rfl, hj, _, z1, z2, z3, _, _, rfl⟩
          refine ⟨_, rfl, k _ _ hw (fun hlt => ?_) P2 f2⟩
          have := reps_full (ws := ws) fun j hj' => hj j (Nat.lt_of_lt_of_le hj' (by decide +kernel))
          omega
      · have hin := not_inT hb
        exact ⟨_, rfl, k _ _ hw (fun _ => hin) P2 f2⟩
set_option maxHeartbeats 4000000 in
theorem ok_words {f fD fW : Addr} {fd fdD fdW : FuncData} (F : Fun K "_law_words" "_law_words" S_law_words f fd) (B : Bl mg) (d_law_draw : Df K mg "_law_draw" S_law_draw fD fdD P_law_draw) (G_law_draw : FnOk P w K mg base CX0 1 fD fdD P_law_draw spDraw)
    (d_law_word : Df K mg "_law_word" S_law_word fW fdW P_law_word) (G_law_word : FnOk P w K mg base CX0 2 fW fdW P_law_word spWord) : FnOk P w K mg base CX0 3 f fd P_law_words spWords := by
  refine F.ok sc_law_words (fun vs H Q E h => ?_) (fun cdv A outer s H vs Q E hr h => ?_)
  · obtain ⟨p, c, lo, hi, rfl, _⟩ := h
    rfl
  · obtain ⟨p, c, lo, hi, rfl, PL, hlh, hhi, k⟩ := h
    have hr_law_draw : Room 1 _ := hr.mono (by decide)
    have hr_law_word : Room 2 _ := hr.mono (by decide)
    refine ⟨_, (pss_cons (ps_set (i := 3) sc_law_words.nd rfl (by first | exact Or.inl rfl | exact Or.inr rfl) (pe_lst pa_nil))
 (pss_cons (ps_for PassesOwn.never rfl (pi_range1 (by rfl) B.m_range (pa_cons (pe_op op_add (pv 1) (pe_call G_law_draw hr_law_draw rfl d_law_draw.g d_law_draw.F.kp d_law_draw.b .nil pass0 (pa_cons (pv 0) (pa_cons (pe_op op_add (pe_op op_sub (pv 2) (pv 1)) pe_int) pa_nil)))) pa_nil)) (pg_name (i := 4) sc_law_words.nd rfl (by first | exact Or.inl rfl | exact Or.inr rfl)) (pss_one (ps_expr (pe_bm PySem.F.plainAttrs_list PySem.F.slot_list_append PySem.F.type_list_append mt_append (pv 3) (pa_cons (pe_call G_law_word hr_law_word rfl d_law_word.g d_law_word.F.kp d_law_word.b .nil pass0 (pa_cons (pv 0) (pa_cons (pv 3) pa_nil))) pa_nil)))))
 (pss_one (ps_ret (pv 3))))), ?_⟩
    refine ⟨Nat.zero_le _, fun q hq => ?_⟩
    obtain ⟨qp, qc⟩ := PL.np hq
    have P0 : Pool p c (upd H q (.lst [])) := PL.frN hq
    have f0 : Fr p c H (upd H q (.lst [])) := (Fr.refl p c H).updN hq
    refine ⟨_, rfl, _, rfl, _, rfl, _, rfl, _, _, rfl, rfl, _, _, rfl, rfl, p, c, _, rfl, P0, by omega, log_small (by omega) (by omega), fun r H1 r0 r1 P1 f1 => ?_⟩
    have hq1 : H1 q = some (.lst []) := f1 _ _ qp qc upd_same
    refine ⟨_, _, rfl, rfl, _, rfl, by omega, by omega, ?_⟩
    refine for_range (lo := 0) (n := ((lo : Int) + r).toNat) (fun i σ H2 => ∃ (ws : List Str) (z : Option V), σ = [some (.ref p), some (.int (lo : Int)), some (.int (hi : Int)), some (.ref q), z] ∧ H2 q = some (.lst (ws.map V.str)) ∧ ws.length = i ∧ ws.Nodup ∧ (∀ z ∈ ws, IsW z) ∧ Pool p c H2 ∧ Fr p c H H2)
      ⟨[], _, rfl, hq1, rfl, List.nodup_nil, fun z hz => (nomatch hz), P1, f0.trans f1⟩ ?_ ?_
    · rintro i σ H2 hi' ⟨ws, z, rfl, h2, hl, nd, hw, P2, f2⟩
      refine ⟨_, rfl, .inl ⟨rfl, _, SqL.of h2⟩, _, rfl, _, rfl, p, c, q, ws, rfl, P2, ⟨qp, qc, .inl h2⟩, fun z2 H3 w2 fresh P3 f3 => ?_⟩
      have h3 := f3 _ _ qp qc h2
      refine ⟨q, _, _, rfl, rfl, h3, by rw [List.length_map]; exact small1000 (by omega), ?_⟩
      refine ⟨ws ++ [z2], _, rfl, by rw [upd_same, List.map_append]; rfl, by rw [List.length_append, hl]; rfl, ?_, fun y hy => ?_, ?_, ?_⟩
      · refine List.nodup_append.mpr ⟨nd, by simp, fun x hx y hy => ?_⟩
        have := List.mem_singleton.mp hy
        subst this
        exact fun e => fresh (by omega) (by rw [← e]; exact hx)
      · rcases List.mem_append.mp hy with hy | hy
        · exact hw y hy
        · rw [List.mem_singleton.mp hy]; exact w2
      · obtain ⟨xs, a2, m2, g1, g2, g3⟩ := P3.ex
        exact ⟨P3.ne, xs, a2, m2, by rw [upd_ne qp.symm]; exact g1, by rw [upd_ne qc.symm]; exact g2, g3⟩
      · exact (f2.trans f3).updN hq
    · rintro σ H2 ⟨ws, z, rfl, h2, hl, nd, hw, P2, f2⟩
      exact ⟨_, rfl, k q ws H2 hq h2 (by omega) (by omega) nd hw P2 f2⟩
end
end TW
set_option Elab.async false
set_option linter.all false
set_option maxRecDepth 100000
/-! how many unlike texts: len(set(texts)) -/
namespace TW
open PySem PySem.Spec PyProof.Rows
def cntR : List Str → Nat
  | [] => 0
  | x :: r => if x ∈ r then cntR r else cntR r + 1
def cnt (l : List Str) : Nat := cntR l.reverse
theorem cnt_snoc (l : List Str) (x : Str) : cnt (l ++ [x]) = if x ∈ l then cnt l else cnt l + 1 := by
  unfold cnt
  rw [List.reverse_append, List.reverse_singleton, List.singleton_append]
  show (if x ∈ l.reverse then _ else _) = _
  by_cases h : x ∈ l
  · rw [if_pos h, if_pos (List.mem_reverse.mpr h)]
  · rw [if_neg h, if_neg (fun z => h (List.mem_reverse.mp z))]
theorem cntR_le : ∀ l : List Str, cntR l ≤ l.length
  | [] => Nat.le_refl _
  | x :: r => by
    have := cntR_le r
    show (if x ∈ r then cntR r else cntR r + 1) ≤ r.length + 1
    split <;> omega
theorem cntR_eq : ∀ l : List Str, cntR l = l.length ↔ l.Nodup
  | [] => by simp [cntR]
  | x :: r => by
    have h1 := cntR_le r
    have h2 := cntR_eq r
    show (if x ∈ r then cntR r else cntR r + 1) = r.length + 1 ↔ _
    rw [List.nodup_cons]
    by_cases h : x ∈ r
    · rw [if_pos h]
      exact ⟨fun e => by omega, fun e => absurd h e.1⟩
    · rw [if_neg h]
      exact ⟨fun e => ⟨h, h2.mp (by omega)⟩, fun e => by rw [h2.mpr e.2]⟩
theorem cnt_le (l : List Str) : cnt l ≤ l.length := by
  have := cntR_le l.reverse
  rw [List.length_reverse] at this
  exact this
theorem cnt_eq (l : List Str) : cnt l = l.length ↔ l.Nodup := by
  have := cntR_eq l.reverse
  rw [List.length_reverse] at this
  refine this.trans ?_
  unfold List.Nodup
  rw [List.pairwise_reverse]
  exact ⟨fun z => z.imp fun h e => h e.symm, fun z => z.imp fun h e => h e.symm⟩
/-- the texts so far, as a test -/
def hasS (l : List Str) (k : Str) : Bool := decide (k ∈ l)
theorem hasS_snoc (l : List Str) (x k : Str) : (hasS l k || decide (k = x)) = hasS (l ++ [x]) k := by
  unfold hasS
  by_cases h : k ∈ l <;> by_cases e : k = x <;> simp [h, e]
theorem taken_more {xs : List Str} {i : Nat} (h : i < xs.length) : xs.take (i + 1) = xs.take i ++ [xs.getD i Str.empty] := by
  rw [List.take_add_one, List.getElem?_eq_getElem h]
  simp [List.getD, List.getElem?_eq_getElem h]
abbrev HasN (prog : Program) (w : World) (h : Heap) (S : Addr) (l : List Str) : Prop := h.SetOf (PySem.strKind prog w) S (hasS l) (cnt l)
theorem HasN.move {prog : Program} {w : World} {h h' : Heap} {S : Addr} {l : List Str} (x : HasN prog w h S l) (k : ∀ o, h.get? S = some o → h'.get? S = some o) : HasN prog w h' S l :=
  let ⟨o, es, ep, t, ho, r⟩ := x; ⟨o, es, ep, t, k o ho, r⟩
section
variable {prog : Program} {w : World} {A : Around} {R : Result → Shared → Prop} {it : Addr} {fp wr : List Addr} {G : Array GenState → Array GenState → Prop} {n : Nat} {P : Nat → Value → Prop} {St : Nat → Shared → Prop}
theorem strs_into (W : WalksS prog w A.in1 it fp wr G n P St) {S : Addr} (out : S ∉ fp) {xs : List Str} (len : xs.length = n) (small : n + 1 < scanBound) (vals : ∀ i v, P i v → ∃ t, v = .str (xs.getD i Str.empty) t) :
    ∀ (left i : Nat) (s : Shared), i + left = n → St i s → HasN prog w s.heap S (xs.take i) →
      (∀ s', Moved (S :: wr) G s s' → HasN prog w s'.heap S xs → R (.ok (.ret .none)) s') → codeAny (model prog w) A (.builtin "set.update.loop" ⟨[.ref S, .ref it], []⟩) R s := by
  have nwr : S ∉ wr := fun z => out (W.sub _ z)
  have sub : ∀ b ∈ wr, b ∈ S :: wr := fun b z => .tail _ z
  intro left
  induction left with
  | zero =>
    intro i s e st has fin
    refine codeAny_builtin PyProof.Rows.F.entry_set_update_loop ?_
    rw [Around.under_plainId PyProof.Rows.F.plain_set_update_loop]
    obtain rfl : i = n := e
    refine wpAny_bind (W.done s _ _ st fun s' mv => ?_)
    rw [List.take_of_length_le (Nat.le_of_eq len)] at has
    exact wpAny_pure (fin s' (mv.mono sub) (has.move fun o ho => mv.heap S o nwr ho))
  | succ left ih =>
    intro i s e st has fin
    have lt : i < n := by omega
    refine codeAny_builtin PyProof.Rows.F.entry_set_update_loop ?_
    rw [Around.under_plainId PyProof.Rows.F.plain_set_update_loop]
    refine wpAny_bind (W.item i s _ _ lt st fun v s' pv st' mv => ?_)
    obtain ⟨t, rfl⟩ := vals i v pv
    have has' : HasN prog w s'.heap S (xs.take i) := has.move fun o ho => mv.heap S o nwr ho
    refine wpAny_bind (wpAny_holding ?_)
    unfold setAdd
    refine wpAny_holding (wpAny_bind ((PySem.strKind prog w).pyHash (k := xs.getD i Str.empty) (strKind_is ..) ?_))
    have room : cnt (xs.take i) + 1 < scanBound := by
      have := cnt_le (xs.take i)
      rw [List.length_take] at this
      omega
    refine wpAny_setAddHashed_of (s := { s' with toks := s'.toks + 1 }) (strKind_is ..) rfl has' room fun h2 but has2 => ?_
    have more : HasN prog w h2 S (xs.take (i + 1)) := by
      rw [taken_more (by omega)]
      refine SetOf_congr has2 (fun k => hasS_snoc ..) ?_
      rw [cnt_snoc]
      unfold hasS
      by_cases z : xs.getD i Str.empty ∈ xs.take i <;> simp [z]
    refine wpAny_pure ⟨plainId_quiet PyProof.Rows.F.plain_set_update_loop _, ih (i + 1) _ (by omega) (W.frame _ s' _ _ st' (Nat.le_succ _) fun b hb o z => ?_) more fun s2 mv2 has3 => ?_⟩
    · exact (but.2 b fun y => out (y ▸ hb)).trans z
    · exact fin s2 (Moved.trans W.gtrans ((mv.mono sub).then_heap (Nat.le_succ _) fun b o hb z => (but.2 b fun y => hb (y ▸ List.mem_cons_self)).trans z) mv2) has3
end

section
variable {prog : Program} {w : World} {A : Around} {E : Value → Shared → Prop} {s : Shared}
abbrev newSet (led : Bool) : Obj := { cls := .type "set", dict := none, data := .set #[] 0 (.fresh 0 0 led) }
/-- behind set(v) -/
def SetEnd (prog : Program) (w : World) (s : Shared) (xs : List Str) (Q : Value → Shared → Prop) : Prop :=
  ∀ (h' : Heap) (tk : Nat), HasN prog w h' s.heap.objs.size xs → (∀ b o, s.heap.get? b = some o → h'.get? b = some o) → Q (.ref s.heap.objs.size) { s with heap := h', toks := tk }
/-- set.__init__ over v, its turns told by W -/
def InitsBy (prog : Program) (w : World) (A : Around) (s : Shared) (v : Value) (xs : List Str) : Prop :=
  ∀ (led : Bool) (R : Fin → Shared → Prop) (E' : Value → Shared → Prop), (∀ h' tk, HasN prog w h' s.heap.objs.size xs → (∀ b o, s.heap.get? b = some o → h'.get? b = some o) → R (.done (.ret .none)) { s with heap := h', toks := tk }) →
    wpAny (model prog w) A (Builtin.«set.__init__» ⟨[.ref s.heap.objs.size, v], []⟩) R E' { s with heap := s.heap.push (newSet led) }
set_option maxHeartbeats 3200000 in
theorem set_of {v : Value} {xs : List Str} {Q : Value → Shared → Prop} (hi : InitsBy prog w A.in1.in1 s v xs) (q : SetEnd prog w s xs Q) : wpAny (model prog w) A (call (.type "set") [v]) Q E s := by
  have CS := PySem.F.called_set
  obtain ⟨c, tl, hmro⟩ := CS.mro
  have f1 := CS.made
  have f2 := CS.sub
  have f3 := CS.notType
  have f4 := CS.canCreate
  have f5 := PySem.F.typeCall_set_1 v
  refine wpAny_call (codeAny_of_tree ?_)
  show wpAny _ _ (callAny (.type "set") _) _ _ _
  refine wpAny_pure ⟨Code.quiet_builtin _ (by decide +kernel), codeAny_builtin PySem.F.entry_type_call ?_⟩
  rw [Around.under_plain (weight_type_call_type "set" [v] []) rfl]
  repeat (any_goals (first | assumption | wp_step))
  refine codeAny_mono (code_set_new_1 v (E := E) (Q₁ := fun x y => ∃ led, x = .ref s.heap.objs.size ∧ y = { s with heap := s.heap.push (newSet led) }) fun led => ⟨led, rfl, rfl⟩) fun r y hr => ?_
  match r, hr with
  | .error _, hr => exact hr
  | .ok (.ret x), hr =>
    obtain ⟨led, rfl, rfl⟩ := hr
    have at0 : (s.heap.push (newSet led)).get? s.heap.objs.size = some (newSet led) := Heap.get?_push_size _ rfl
    have ty : Shared.TypeIs { s with heap := s.heap.push (newSet led) } (.ref s.heap.objs.size) "set" := ⟨_, at0, rfl⟩
    have g1 := CS.init.lookup
    have g2 := CS.init.bind (.ref s.heap.objs.size)
    repeat (any_goals (first | assumption | wp_step))
    refine codeAny_mono (codeAny_call_builtin (R := wants (fun r y => r = .none ∧ ∃ h' tk, y = { s with heap := h', toks := tk } ∧ HasN prog w h' s.heap.objs.size xs ∧ ∀ b o, s.heap.get? b = some o → h'.get? b = some o) E) CS.init.plain PySem.F.entry_set_init (check_set_init_1 ty (hi led _ _ fun h' tk a b => ⟨rfl, h', tk, rfl, a, b⟩))) fun r2 y2 hr2 => ?_
    match r2, hr2 with
    | .error _, hr2 => exact hr2
    | .ok (.ret x), hr2 =>
      obtain ⟨rfl, h', tk, rfl, a, b⟩ := hr2
      repeat (any_goals (first | assumption | wp_step))
      exact q h' tk a b
    | .ok .next, hr2 => exact hr2.elim
    | .ok .brk, hr2 => exact hr2.elim
    | .ok .cont, hr2 => exact hr2.elim
  | .ok .next, hr => exact hr.elim
  | .ok .brk, hr => exact hr.elim
  | .ok .cont, hr => exact hr.elim

theorem not_two {a b c : Addr} (h : a ≠ b) (k : a ≠ c) : a ∉ [b, c] := fun z => by
  rcases List.mem_cons.mp z with z | z
  · exact h z
  · exact k (List.mem_singleton.mp z)
/-- the walk of a list or tuple at l into the new set -/
theorem inits_end {l : Addr} {items : Array Value} {xs : List Str} {led : Bool} {R : Fin → Shared → Prop} {A' : Around} {P : Nat → Value → Prop} {St : Nat → Shared → Prop} {I0 : Obj} (hl : l < s.heap.objs.size)
    (W : WalksS prog w A'.in1 (s.heap.objs.size + 1) [s.heap.objs.size + 1, l] [s.heap.objs.size + 1] (fun g g' => g' = g) items.size P St)
    (vals : ∀ i v, P i v → ∃ t, v = .str (xs.getD i Str.empty) t) (len : xs.length = items.size) (small : items.size + 1 < scanBound)
    (st : St 0 { s with heap := (s.heap.push (newSet led)).push I0 })
    (q : ∀ h' tk, HasN prog w h' s.heap.objs.size xs → (∀ b o, s.heap.get? b = some o → h'.get? b = some o) → R (.done (.ret .none)) { s with heap := h', toks := tk }) :
    codeAny (model prog w) A' (.builtin "set.update.loop" ⟨[.ref s.heap.objs.size, .ref (s.heap.objs.size + 1)], []⟩) (fun r s' => r = .ok (.ret .none) ∧ R (.done (.ret .none)) s') { s with heap := (s.heap.push (newSet led)).push I0 } := by
  have at0 : (s.heap.push (newSet led)).get? s.heap.objs.size = some (newSet led) := Heap.get?_push_size _ rfl
  refine strs_into W (S := s.heap.objs.size) (xs := xs) (not_two (Nat.ne_of_lt (Nat.lt_succ_self _)) (Nat.ne_of_gt hl)) len small vals items.size 0 _ (by omega) st ?_ fun s' mv has => ?_
  · exact SetOf_congr ((setObjOf_fresh (knd := PySem.strKind prog w) led).setOf (Heap.get?_push_of_some _ at0) (by unfold scanBound; omega)) (fun _ => rfl) rfl
  · obtain ⟨h', g', d', tk', os'⟩ := s'
    obtain rfl : g' = s.gens := mv.gens
    obtain rfl : d' = s.drawn := mv.drawn
    obtain rfl : os' = s.os := mv.os
    refine ⟨rfl, q h' tk' has fun b o e => ?_⟩
    have hb := Heap.lt_size e
    exact mv.heap b o (not_two (Nat.ne_of_lt hb) (Nat.ne_of_lt (Nat.lt_succ_of_lt hb))) (Heap.get?_push_of_some _ (Heap.get?_push_of_some _ e))

theorem vals_at {items : Array Value} {xs : List Str} (hi : StrsAre items.toList xs) : ∀ (i : Nat) (v : Value), items[i]? = some v → ∃ t, v = Value.str (xs.getD i Str.empty) t := fun i v hv => SS.strs_at hi i v (by rw [Array.getElem?_toList]; exact hv)
set_option maxHeartbeats 3200000 in
theorem inits_list {l : Addr} {items : Array Value} {xs : List Str} (hh : A.handled = none) (hl : s.heap.IsList l items) (hi : StrsAre items.toList xs) (small : items.size + 1 < scanBound) : InitsBy prog w A s (.ref l) xs := by
  intro led R E' q
  obtain ⟨⟨oc, od, oda, osl⟩, ho, hc, nl, hd⟩ := id hl
  dsimp only at hc hd
  subst hc hd
  have lt := Heap.lt_size ho
  have ho' : (s.heap.push (newSet led)).get? l = some { cls := .type "list", dict := od, data := .seq items nl, slots := osl } := Heap.get?_push_of_some _ ho
  have f1 := PySem.F.sub_list_set
  have f2 := PySem.F.sub_list_frozenset
  have f3 : (Value.type "list" == Value.type "dict") = false := by decide
  have il : (s.heap.push (newSet led)).IsList l items := ⟨_, ho', rfl, nl, rfl⟩
  have len : xs.length = items.size := by rw [← StrsAre.len_eq hi, Array.length_toList]
  unfold Builtin.«set.__init__» noKeywords Builtin.Frozenset.updateFrom
  generalize hP : pyIter = PI
  wp_walk
  subst hP
  refine wpAny_pyIter_list il ?_
  refine wpAny_bind (wpAny_runValue ?_)
  rw [Heap.size_push]
  have h3 : A.in1.handled = none := by simp [hh]
  refine codeAny_mono (inits_end (led := led) lt ((Walks.list h3 (s.heap.objs.size + 1) l (Nat.ne_of_lt (Nat.lt_succ_of_lt lt)) items).toS) (vals_at hi) len small ⟨⟨_, Heap.get?_push_at (Heap.size_push ..).symm rfl, rfl, rfl⟩, il.push _⟩ q) fun r s' h => ?_
  obtain ⟨rfl, h⟩ := h
  show wpAny _ _ _ _ _ _
  refine wpAny_pure ?_
  show wpAny _ _ (ret Value.none) _ _ _
  exact wpAny_pure h
set_option maxHeartbeats 3200000 in
theorem inits_tuple {l : Addr} {items : Array Value} {xs : List Str} (hh : A.handled = none) (hl : s.heap.IsTuple l items) (hi : StrsAre items.toList xs) (small : items.size + 1 < scanBound) : InitsBy prog w A s (.ref l) xs := by
  intro led R E' q
  obtain ⟨⟨oc, od, oda, osl⟩, ho, hc, nl, hd⟩ := id hl
  dsimp only at hc hd
  subst hc hd
  have lt := Heap.lt_size ho
  have ho' : (s.heap.push (newSet led)).get? l = some { cls := .type "tuple", dict := od, data := .seq items nl, slots := osl } := Heap.get?_push_of_some _ ho
  have f1 := PySem.F.sub_tuple_set
  have f2 := PySem.F.sub_tuple_frozenset
  have f3 : (Value.type "tuple" == Value.type "dict") = false := by decide
  have il : (s.heap.push (newSet led)).IsTuple l items := ⟨_, ho', rfl, nl, rfl⟩
  have len : xs.length = items.size := by rw [← StrsAre.len_eq hi, Array.length_toList]
  unfold Builtin.«set.__init__» noKeywords Builtin.Frozenset.updateFrom
  generalize hP : pyIter = PI
  wp_walk
  subst hP
  refine wpAny_pyIter_tuple il ?_
  refine wpAny_bind (wpAny_runValue ?_)
  rw [Heap.size_push]
  have h3 : A.in1.handled = none := by simp [hh]
  refine codeAny_mono (inits_end (led := led) lt ((Walks.tuple h3 (s.heap.objs.size + 1) l (Nat.ne_of_lt (Nat.lt_succ_of_lt lt)) items).toS) (vals_at hi) len small ⟨⟨_, Heap.get?_push_at (Heap.size_push ..).symm rfl, rfl, rfl⟩, il.push _⟩ q) fun r s' h => ?_
  obtain ⟨rfl, h⟩ := h
  show wpAny _ _ _ _ _ _
  refine wpAny_pure ?_
  show wpAny _ _ (ret Value.none) _ _ _
  exact wpAny_pure h

end
end TW
namespace TW
open PySem PySem.Spec PyProof.Rows L2
/-- len(set(words)), the words in a list or tuple -/
def tLenSetN (K : PySem.W.Frag) (ta : TE) : TE := fun σ H Q => ta σ H fun x H1 => ∃ l, ∃ xs : List Str, x = .ref l ∧ (SqL K H1 l (xs.map V.str) ∨ SqT K H1 l (xs.map V.str)) ∧ xs.length ≤ 1000 ∧ Q (.int (cnt xs : Nat)) H1
theorem pe_lenSetN {X : Cx} {a : Expr} {ta : TE} {p p2 q pos : Pos} (hc : X.calm = true) (hg : Gl X "len") (hm : X.mg "len" = none) (hg2 : Gl X "set") (hm2 : X.mg "set" = none) (ha : PE X a ta)
    (na : starEach [a] X.env = (false, eval a X.env) :: starEach [] X.env := by rfl) : PE X (.Call (.Name "len" p) [.Call (.Name "set" p2) [a] [] q] [] pos) (tLenSetN X.K ta) := by
  refine ⟨fun pins s σ H Q I h => ?_⟩
  refine Call_ (ld_blt I hg hm boot_len (PyProof.Rows.callWith_builtin1 (PyProof.Rows.args_cons (Call_ (ld_blt I hg2 hm2 boot_set ?_)) rfl) rfl rfl))
  refine PyProof.Rows.callWith_type1 (PyProof.Rows.args_cons (thn (ha.run pins s σ H _ I h) fun v s1 h1 => PyProof.Rows.args_nil ?_) na) na rfl
  obtain ⟨x, H1, I1, r1, l, xs, rfl, hq, small, q1⟩ := h1
  cases r1
  have go : InitsBy X.prog X.w X.A.in1.in1 s1 (.ref l) xs := by
    have hh : X.A.in1.in1.handled = none := by simp [I1.ok.hd hc]
    rcases hq with hq | hq
    · obtain ⟨its, r, pl, hz⟩ := I1.list hq
      have e : its.toArray.size = xs.length := by rw [List.size_toArray, ← r.length, List.length_map]
      exact inits_list hh pl.isList (by simpa using strsAre_of r) (by rw [e]; unfold scanBound; omega)
    · obtain ⟨its, r, pl, hz⟩ := I1.tuple hq
      have e : its.toArray.size = xs.length := by rw [List.size_toArray, ← r.length, List.length_map]
      exact inits_tuple hh pl (by simpa using strsAre_of r) (by rw [e]; unfold scanBound; omega)
  refine set_of go fun h' tk has keep => PyProof.Rows.args_nil ?_
  have le := cnt_le xs
  obtain ⟨o, es, ep, t, ho, hex, hd, _, _, _, hf, hn⟩ := has
  have I2 : Inv X pins σ H1 { s1 with heap := h', toks := tk } := I1.kept keep
  exact call_len_set ho hex hd hf (by rw [hn]; omega) ⟨.int (cnt xs : Nat), H1, I2.tok _, ⟨_, by rw [hn]⟩, q1⟩
end TW
set_option Elab.async false
set_option linter.all false
set_option maxRecDepth 100000
namespace TW
open PySem PySem.Spec PyProof.Rows L2 TL
/-! ### kinds of values -/
def kd7 : List String := ["NoneType", "bool", "int", "str", "list", "tuple", "dict"]
theorem tyx_same {K : PySem.W.Frag} {H H' : Hp} {x : V} {t : Value} (s : Same H H') (h : TyX K H x t) : TyX K H' x t := by
  cases h with
  | base b =>
    refine .base ?_
    cases b with
    | non => exact .non
    | bl x => exact .bl x
    | int i => exact .int i
    | str z => exact .str z
    | flt z => exact .flt z
    | lst e => exact .lst (s _ _ e)
    | frz e => exact .frz (s _ _ e)
    | tup e => exact .tup (s _ _ e)
    | dK e => exact .dK (s _ _ e)
    | dT e => exact .dT (s _ _ e)
    | ins e cl ha hn ht hm => exact .ins (s _ _ e) cl ha hn ht hm
  | byt b => exact .byt b
  | set e => exact .set (s _ _ e)
  | kList e c => exact .kList e c
  | kTuple e c => exact .kTuple e c
  | kDict e c => exact .kDict e c
  | fTuple e => exact .fTuple (s _ _ e)
  | fDict e => exact .fDict (s _ _ e)
/-- of one of the seven kinds; texts are short -/
structure Kd (K : PySem.W.Frag) (H : Hp) (x : V) (T : String) : Prop where
  m : T ∈ kd7
  t : TyX K H x (.type T)
  z : ∀ z, x = .str z → z.length ≤ 1000000
theorem Kd.same {K : PySem.W.Frag} {H H' : Hp} {x : V} {T : String} (s : Same H H') (h : Kd K H x T) : Kd K H' x T := ⟨h.m, tyx_same s h.t, h.z⟩
theorem ty_inv {K : PySem.W.Frag} {H : Hp} {x : V} {t : Value} (h : TyX K H x t) : (t = .type "int" ↔ ∃ i, x = .int i) ∧ (t = .type "str" ↔ ∃ i, x = .str i) ∧ (t = .type "NoneType" ↔ x = .non) := by
  have no : ∀ {a b : String} {p : Prop}, a ≠ b → Value.type a = Value.type b → p := fun ne e => by injection e with e; exact absurd e ne
  have no2 : ∀ {a : Addr} {b : String} {p : Prop}, Value.ref a = Value.type b → p := fun e => nomatch e
  cases h with
  | base b =>
    cases b with
    | non => exact ⟨⟨no (by decide), fun ⟨_, e⟩ => nomatch e⟩, ⟨no (by decide), fun ⟨_, e⟩ => nomatch e⟩, ⟨fun _ => rfl, fun _ => rfl⟩⟩
    | bl x => exact ⟨⟨no (by decide), fun ⟨_, e⟩ => nomatch e⟩, ⟨no (by decide), fun ⟨_, e⟩ => nomatch e⟩, ⟨no (by decide), fun e => nomatch e⟩⟩
    | int i => exact ⟨⟨fun _ => ⟨_, rfl⟩, fun _ => rfl⟩, ⟨no (by decide), fun ⟨_, e⟩ => nomatch e⟩, ⟨no (by decide), fun e => nomatch e⟩⟩
    | str z => exact ⟨⟨no (by decide), fun ⟨_, e⟩ => nomatch e⟩, ⟨fun _ => ⟨_, rfl⟩, fun _ => rfl⟩, ⟨no (by decide), fun e => nomatch e⟩⟩
    | flt z => exact ⟨⟨no (by decide), fun ⟨_, e⟩ => nomatch e⟩, ⟨no (by decide), fun ⟨_, e⟩ => nomatch e⟩, ⟨no (by decide), fun e => nomatch e⟩⟩
    | lst e => exact ⟨⟨no (by decide), fun ⟨_, e⟩ => nomatch e⟩, ⟨no (by decide), fun ⟨_, e⟩ => nomatch e⟩, ⟨no (by decide), fun e => nomatch e⟩⟩
    | frz e => exact ⟨⟨no (by decide), fun ⟨_, e⟩ => nomatch e⟩, ⟨no (by decide), fun ⟨_, e⟩ => nomatch e⟩, ⟨no (by decide), fun e => nomatch e⟩⟩
    | tup e => exact ⟨⟨no (by decide), fun ⟨_, e⟩ => nomatch e⟩, ⟨no (by decide), fun ⟨_, e⟩ => nomatch e⟩, ⟨no (by decide), fun e => nomatch e⟩⟩
    | dK e => exact ⟨⟨no (by decide), fun ⟨_, e⟩ => nomatch e⟩, ⟨no (by decide), fun ⟨_, e⟩ => nomatch e⟩, ⟨no (by decide), fun e => nomatch e⟩⟩
    | dT e => exact ⟨⟨no (by decide), fun ⟨_, e⟩ => nomatch e⟩, ⟨no (by decide), fun ⟨_, e⟩ => nomatch e⟩, ⟨no (by decide), fun e => nomatch e⟩⟩
    | ins e cl ha hn ht hm => exact ⟨⟨no2, fun ⟨_, e⟩ => nomatch e⟩, ⟨no2, fun ⟨_, e⟩ => nomatch e⟩, ⟨no2, fun e => nomatch e⟩⟩
  | byt b => exact ⟨⟨no (by decide), fun ⟨_, e⟩ => nomatch e⟩, ⟨no (by decide), fun ⟨_, e⟩ => nomatch e⟩, ⟨no (by decide), fun e => nomatch e⟩⟩
  | set e => exact ⟨⟨no (by decide), fun ⟨_, e⟩ => nomatch e⟩, ⟨no (by decide), fun ⟨_, e⟩ => nomatch e⟩, ⟨no (by decide), fun e => nomatch e⟩⟩
  | kList e c => exact ⟨⟨no (by decide), fun ⟨_, e⟩ => nomatch e⟩, ⟨no (by decide), fun ⟨_, e⟩ => nomatch e⟩, ⟨no (by decide), fun e => nomatch e⟩⟩
  | kTuple e c => exact ⟨⟨no (by decide), fun ⟨_, e⟩ => nomatch e⟩, ⟨no (by decide), fun ⟨_, e⟩ => nomatch e⟩, ⟨no (by decide), fun e => nomatch e⟩⟩
  | kDict e c => exact ⟨⟨no (by decide), fun ⟨_, e⟩ => nomatch e⟩, ⟨no (by decide), fun ⟨_, e⟩ => nomatch e⟩, ⟨no (by decide), fun e => nomatch e⟩⟩
  | fTuple e => exact ⟨⟨no (by decide), fun ⟨_, e⟩ => nomatch e⟩, ⟨no (by decide), fun ⟨_, e⟩ => nomatch e⟩, ⟨no (by decide), fun e => nomatch e⟩⟩
  | fDict e => exact ⟨⟨no (by decide), fun ⟨_, e⟩ => nomatch e⟩, ⟨no (by decide), fun ⟨_, e⟩ => nomatch e⟩, ⟨no (by decide), fun e => nomatch e⟩⟩
theorem ty_int {K : PySem.W.Frag} {H : Hp} {x : V} {T : String} (h : TyX K H x (.type T)) : T = "int" ↔ ∃ i, x = .int i :=
  ⟨fun e => (ty_inv h).1.mp (by rw [e]), fun e => by have := (ty_inv h).1.mpr e; injection this⟩
theorem ty_str {K : PySem.W.Frag} {H : Hp} {x : V} {T : String} (h : TyX K H x (.type T)) : T = "str" ↔ ∃ i, x = .str i :=
  ⟨fun e => (ty_inv h).2.1.mp (by rw [e]), fun e => by have := (ty_inv h).2.1.mpr e; injection this⟩
theorem ty_non {K : PySem.W.Frag} {H : Hp} {x : V} {T : String} (h : TyX K H x (.type T)) : T = "NoneType" ↔ x = .non :=
  ⟨fun e => (ty_inv h).2.2.mp (by rw [e]), fun e => by have := (ty_inv h).2.2.mpr e; injection this⟩
theorem all7 {p : String → Bool} (h : kd7.all p = true) {T : String} (m : T ∈ kd7) : p T = true := List.all_eq_true.mp h T m
theorem kit7_int {K : PySem.W.Frag} {T : String} (m : T ∈ kd7) : PySem.W.kitOne K (.type T) (.type "int") = some (T == "int" || T == "bool") :=
  kit_ty (eq_of_beq (all7 (p := fun T => kitB T "int" == some (T == "int" || T == "bool")) (by decide +kernel) m))
theorem kit7_bool {K : PySem.W.Frag} {T : String} (m : T ∈ kd7) : PySem.W.kitOne K (.type T) (.type "bool") = some (T == "bool") :=
  kit_ty (eq_of_beq (all7 (p := fun T => kitB T "bool" == some (T == "bool")) (by decide +kernel) m))
theorem kit7_str {K : PySem.W.Frag} {T : String} (m : T ∈ kd7) : PySem.W.kitOne K (.type T) (.type "str") = some (T == "str") :=
  kit_ty (eq_of_beq (all7 (p := fun T => kitB T "str" == some (T == "str")) (by decide +kernel) m))
theorem kit7_list {K : PySem.W.Frag} {T : String} (m : T ∈ kd7) : PySem.W.kitOne K (.type T) (.type "list") = some (T == "list") :=
  kit_ty (eq_of_beq (all7 (p := fun T => kitB T "list" == some (T == "list")) (by decide +kernel) m))
theorem kit7_tuple {K : PySem.W.Frag} {T : String} (m : T ∈ kd7) : PySem.W.kitOne K (.type T) (.type "tuple") = some (T == "tuple") :=
  kit_ty (eq_of_beq (all7 (p := fun T => kitB T "tuple" == some (T == "tuple")) (by decide +kernel) m))
theorem kit7_dict {K : PySem.W.Frag} {T : String} (m : T ∈ kd7) : PySem.W.kitOne K (.type T) (.type "dict") = some (T == "dict") :=
  kit_ty (eq_of_beq (all7 (p := fun T => kitB T "dict" == some (T == "dict")) (by decide +kernel) m))
theorem kit7_seq {K : PySem.W.Frag} {T : String} (m : T ∈ kd7) : PySem.W.kitAny K (.type T) [.type "list", .type "tuple"] = some (T == "list" || T == "tuple") := by
  unfold PySem.W.kitAny
  rw [kit7_list m]
  by_cases h : T = "list"
  · subst h; rfl
  · have h' : (T == "list") = false := by simpa using h
    rw [h']
    show PySem.W.kitAny K (.type T) [.type "tuple"] = _
    unfold PySem.W.kitAny
    rw [kit7_tuple m]
    by_cases h2 : T = "tuple"
    · subst h2; rfl
    · have h2' : (T == "tuple") = false := by simpa using h2
      rw [h2']
      rfl
/-! ### the mirrors -/
def btw (x : V) (lo hi : Int) : Bool := match x with
  | .int i => decide (lo ≤ i) && decide (i ≤ hi)
  | _ => false
instance (z : Str) : Decidable (IsW z) := by unfold IsW; infer_instance
def isWb (x : V) : Bool := match x with
  | .str z => decide (IsW z)
  | _ => false
/-! ### a comprehension over a text -/
theorem lc_str {x : Str} {g : TG} {tt : TT} {te : TE} {vs : List Nat} {σ : St'} {H1 : Hp} {D : Addr} {Qd : Hp → Prop} (Pv : Nat → Hp → Prop) (h0 : Pv 0 (upd H1 D (.lst [])))
    (hs : ∀ i c H, x.cps[i]? = some c → Pv i H → g (.str ⟨#[c]⟩) (wipe σ vs) H fun σ2 H2 => wipe σ2 vs = wipe σ vs ∧ tt σ2 H2 fun b H3 =>
      if b = true then te σ2 H3 fun y H4 => ∃ acc, H4 D = some (.lst acc) ∧ acc.length < sizeLine ∧ Pv (i + 1) (upd H4 D (.lst (acc ++ [y]))) else Pv (i + 1) H3) (hd : ∀ H, Pv x.cps.size H → Qd H) :
    ∃ W : Nat → Nat → Hp → Prop, (∃ m, W 0 m (upd H1 D (.lst []))) ∧ ∀ i m H, W i m H →
      ((Its x).stop i H ∧ Qd H) ∨ ((Its x).go i H ∧ ∃ Nx : Hp → Prop, (∀ H', Nx H' → ∃ m', m' < m ∧ W (i + 1) m' H') ∧ ∀ y H', (Its x).yld i H y H' → g y (wipe σ vs) H' fun σ2 H2 => wipe σ2 vs = wipe σ vs ∧ tt σ2 H2 fun b H3 =>
        if b = true then te σ2 H3 fun y H4 => ∃ acc, H4 D = some (.lst acc) ∧ acc.length < sizeLine ∧ Nx (upd H4 D (.lst (acc ++ [y]))) else Nx H3) := by
  refine ⟨fun i m H => m = x.cps.size - i ∧ i ≤ x.cps.size ∧ Pv i H, ⟨x.cps.size, by simp, Nat.zero_le _, h0⟩, ?_⟩
  rintro i m H ⟨rfl, hi, p⟩
  by_cases hlt : i < x.cps.size
  · refine .inr ⟨hlt, Pv (i + 1), fun H' p' => ⟨x.cps.size - (i + 1), by omega, rfl, hlt, p'⟩, fun y H' hy => ?_⟩
    obtain ⟨e, c, hc, rfl⟩ := hy
    subst e
    exact hs i c _ hc p
  · have e : i = x.cps.size := by omega
    subst e
    exact .inl ⟨Nat.le_refl _, hd H p⟩
theorem one_lt (a b : Nat) : ([a] : List Nat) < [b] ↔ a < b := by
  rw [List.cons_lt_cons_iff]
  constructor
  · rintro (h | ⟨_, h⟩)
    · exact h
    · exact absurd h (by simp)
  · exact .inl
theorem sign_a : (Str.ofString "a").cps.toList = [97] := by decide +kernel
theorem sign_z : (Str.ofString "z").cps.toList = [122] := by decide +kernel
theorem le_a {c : Nat} {b : Bool} (g : (!decide (([c] : List Nat) < (Str.ofString "a").cps.toList)) = b) : b = decide (97 ≤ c) := by
  rw [sign_a] at g
  rw [← g]
  by_cases h : c < 97
  · rw [decide_eq_true ((one_lt c 97).mpr h), decide_eq_false (by omega)]; rfl
  · rw [decide_eq_false (fun z => h ((one_lt c 97).mp z)), decide_eq_true (by omega)]; rfl
theorem le_z (c : Nat) : (!decide ((Str.ofString "z").cps.toList < ([c] : List Nat))) = decide (c ≤ 122) := by
  rw [sign_z]
  by_cases h : 122 < c
  · rw [decide_eq_true ((one_lt 122 c).mpr h), decide_eq_false (by omega)]; rfl
  · rw [decide_eq_false (fun z => h ((one_lt 122 c).mp z)), decide_eq_true (by omega)]; rfl
theorem take_next' {α : Type} {ws : List α} {i : Nat} {z : α} (hz : ws[i]? = some z) : ws.take (i + 1) = ws.take i ++ [z] := by
  rw [List.take_add_one, hz]; rfl
/-! ### a word, by its kinds of signs -/
set_option maxRecDepth 100000 in
theorem sign_kinds : ∀ c : Fin 128, ((Unicode.isAlpha c.val && !(Unicode.isUpper c.val || Unicode.isTitle c.val)) = (decide (97 ≤ c.val ∧ c.val ≤ 122))) ∧ ((decide (97 ≤ c.val ∧ c.val ≤ 122)) = true → Unicode.isLower c.val = true) := by decide +kernel
theorem word_kinds {z : Str} (h : 0 < z.length) : (Txt.isascii z && (Txt.isalpha z && Txt.islower z)) = decide (∀ c ∈ z.cps.toList, 97 ≤ c ∧ c ≤ 122) := by
  have hl : z.cps.toList.length = z.length := Array.length_toList ..
  unfold Txt.isascii Txt.isalpha Txt.islower
  rw [decide_eq_true (show z.length > 0 from h), Bool.true_and]
  rw [← Array.all_toList, ← Array.all_toList, ← Array.any_toList, ← Array.any_toList]
  by_cases w : ∀ c ∈ z.cps.toList, 97 ≤ c ∧ c ≤ 122
  · rw [decide_eq_true w]
    have k : ∀ c ∈ z.cps.toList, c < 128 ∧ Unicode.isAlpha c = true ∧ (Unicode.isUpper c || Unicode.isTitle c) = false ∧ Unicode.isLower c = true := fun c hc => by
      have b := w c hc
      have s := sign_kinds ⟨c, by omega⟩
      have s1 := s.1
      rw [decide_eq_true b] at s1
      have s2 := s.2 (decide_eq_true b)
      have s3 := Bool.and_eq_true_iff.mp s1
      exact ⟨by omega, s3.1, by simpa using s3.2, s2⟩
    have a1 : (z.cps.toList.all fun x => decide (x < 128)) = true := List.all_eq_true.mpr fun c hc => decide_eq_true (k c hc).1
    have a2 : z.cps.toList.all Unicode.isAlpha = true := List.all_eq_true.mpr fun c hc => (k c hc).2.1
    have a3 : (z.cps.toList.any fun c => Unicode.isUpper c || Unicode.isTitle c) = false := List.any_eq_false.mpr fun c hc => by rw [(k c hc).2.2.1]; simp
    have a4 : z.cps.toList.any Unicode.isLower = true := by
      obtain ⟨c, r, e⟩ : ∃ c r, z.cps.toList = c :: r := by
        cases e : z.cps.toList with
        | nil => rw [e] at hl; simp at hl; omega
        | cons c r => exact ⟨c, r, rfl⟩
      exact List.any_eq_true.mpr ⟨c, by rw [e]; exact List.mem_cons_self .., (k c (by rw [e]; exact List.mem_cons_self ..)).2.2.2⟩
    rw [a1, a2, a3, a4]; rfl
  · rw [decide_eq_false w]
    refine Bool.eq_false_iff.mpr fun e => w fun c hc => ?_
    have e1 := Bool.and_eq_true_iff.mp e
    have e2 := Bool.and_eq_true_iff.mp e1.2
    have e3 := Bool.and_eq_true_iff.mp e2.2
    have l := of_decide_eq_true (List.all_eq_true.mp e1.1 c hc)
    have s := (sign_kinds ⟨c, l⟩).1
    have al := List.all_eq_true.mp e2.1 c hc
    have up : (Unicode.isUpper c || Unicode.isTitle c) = false := by
      have := List.any_eq_false.mp (by simpa using e3.2 : (z.cps.toList.any fun c => Unicode.isUpper c || Unicode.isTitle c) = false) c hc
      simpa using this
    show 97 ≤ c ∧ c ≤ 122
    rw [show Unicode.isAlpha (⟨c, l⟩ : Fin 128).val = true from al, show (Unicode.isUpper (⟨c, l⟩ : Fin 128).val || Unicode.isTitle (⟨c, l⟩ : Fin 128).val) = false from up] at s
    exact of_decide_eq_true s.symm
/-! ### the promises -/
def spIsInt (K : PySem.W.Frag) : Sp := fun vs H Q _ => ∃ x T, vs = [x] ∧ Kd K H x T ∧ Q (.bl (T == "int")) H
def spBtw (K : PySem.W.Frag) : Sp := fun vs H Q _ => ∃ x T lo hi, vs = [x, .int lo, .int hi] ∧ Kd K H x T ∧ Q (.bl (btw x lo hi)) H
def spIsW (K : PySem.W.Frag) : Sp := fun vs H Q _ => ∃ x T, vs = [x] ∧ Kd K H x T ∧ ∀ H', Same H H' → Q (.bl (isWb x)) H'
section
variable {P : Program} {w : World} {K : PySem.W.Frag} {mg : Str → Option Value} {base : Heap}
end
end TW
set_option Elab.async false
set_option linter.all false
set_option maxRecDepth 100000
namespace TW
open PySem PySem.Spec PyProof.Rows L2 TL
/-- what a field or a name holds -/
def hv : Option Nat → V
  | none => .non
  | some i => .int (i : Int)
theorem hv_some {m : Int} (h : 0 ≤ m) : hv (some m.toNat) = .int m := by
  show V.int ((m.toNat : Nat) : Int) = _
  rw [Int.toNat_of_nonneg h]
/-- a dict from words to such -/
def dk (l : List (Str × Option Nat)) : List (Key × V) := l.map fun p => ((Sum.inr p.1 : Key), hv p.2)
theorem dk_len (l : List (Str × Option Nat)) : (dk l).length = l.length := List.length_map ..
theorem dk_valV (k : Str) : ∀ l : List (Str × Option Nat), valV (dk l) (Sum.inr k : Key) = (l.lookup k).map hv
  | [] => rfl
  | (f, v) :: l => by
    have ih := dk_valV k l
    by_cases h : f = k
    · subst h
      rw [show dk ((f, v) :: l) = ((Sum.inr f : Key), hv v) :: dk l from rfl, valV_pos rfl, List.lookup_cons, beq_self_eq_true]
      rfl
    · have h2 : (k == f) = false := by simpa [beq_iff_eq] using fun e : k = f => h e.symm
      rw [show dk ((f, v) :: l) = ((Sum.inr f : Key), hv v) :: dk l from rfl, valV_neg (fun e => h (Sum.inr.inj e)), List.lookup_cons, h2, ih]
theorem lookup_none {k : Str} : ∀ {l : List (Str × Option Nat)}, k ∉ l.map (·.1) → l.lookup k = none
  | [], _ => rfl
  | (f, v) :: l, h => by
    have h2 : (k == f) = false := by simpa [beq_iff_eq] using fun e : k = f => h (e ▸ List.mem_cons_self ..)
    rw [List.lookup_cons, h2]
    exact lookup_none fun z => h (List.mem_cons_of_mem _ z)
theorem dk_put {l : List (Str × Option Nat)} {k : Str} {v : Option Nat} (h : k ∉ l.map (·.1)) : putK (dk l) (Sum.inr k : Key) (hv v) = dk (l ++ [(k, v)]) := by
  rw [putK_new _ (by rw [dk_valV, lookup_none h]; rfl)]
  unfold dk
  rw [List.map_append]
  rfl
theorem dk_map_put {k : Str} {v : Option Nat} : ∀ {l : List (Str × Option Nat)}, k ∉ l.map (·.1) → (dk l).map (fun kv => if kv.1 = (Sum.inr k : Key) then (kv.1, hv v) else kv) = dk l
  | [], _ => rfl
  | (f, x) :: l, h => by
    have hf : f ≠ k := fun e => h (by rw [← e]; exact List.mem_cons_self ..)
    have ih := dk_map_put (v := v) (l := l) (fun z => h (List.mem_cons_of_mem _ z))
    show (if (Sum.inr f : Key) = Sum.inr k then _ else _) :: (dk l).map _ = ((Sum.inr f : Key), hv x) :: dk l
    rw [if_neg (fun e => hf (Sum.inr.inj e)), ih]
theorem dk_again {l : List (Str × Option Nat)} {k : Str} {u v : Option Nat} (h : k ∉ l.map (·.1)) : putK (dk (l ++ [(k, u)])) (Sum.inr k : Key) (hv v) = dk (l ++ [(k, v)]) := by
  unfold putK
  rw [if_pos]
  · show (dk (l ++ [(k, u)])).map _ = _
    unfold dk
    rw [List.map_append, List.map_append, List.map_append]
    have := dk_map_put (v := v) h
    unfold dk at this
    rw [this]
    simp
  · rw [valV_any, dk_valV]
    have : (l ++ [(k, u)]).lookup k = some u := by
      rw [List.lookup_append, lookup_none h]
      simp
    rw [this]
    rfl
/-- values in bounds -/
def okv (n : Nat) : Option Nat → Prop
  | none => True
  | some i => i < n
def okl (n : Nat) (l : List (Str × Option Nat)) : Prop := ∀ p ∈ l, okv n p.2
abbrev Ob := List (Str × Option Nat)
/-- the objects of the law: a list at q of dicts at ds -/
structure ObjsAt (H : Hp) (q : Addr) (ds : List Addr) (fs : List Str) (n : Nat) (os : List Ob) : Prop where
  ls : H q = some (.lst (ds.map V.ref))
  len : ds.length = os.length
  nd : ds.Nodup
  at' : ∀ (i : Nat) (d : Addr) (o : Ob), ds[i]? = some d → os[i]? = some o → H d = some (.dK (dk o))
  ks : ∀ o ∈ os, (o.map (·.1)).Perm fs
  ok : ∀ o ∈ os, okl n o
/-- not the pool's -/
def Off (p c : Addr) (l : List Addr) : Prop := ∀ a ∈ l, a ≠ p ∧ a ≠ c
theorem ObjsAt.fr {p c q : Addr} {H H' : Hp} {ds : List Addr} {fs : List Str} {n : Nat} {os : List Ob} (O : ObjsAt H q ds fs n os) (hq : q ≠ p ∧ q ≠ c) (hd : Off p c ds) (f : Fr p c H H') : ObjsAt H' q ds fs n os :=
  ⟨f _ _ hq.1 hq.2 O.ls, O.len, O.nd, fun i d o h1 h2 => let z := hd d (List.mem_of_getElem? h1); f _ _ z.1 z.2 (O.at' i d o h1 h2), O.ks, O.ok⟩
theorem ObjsAt.same {q : Addr} {H H' : Hp} {ds : List Addr} {fs : List Str} {n : Nat} {os : List Ob} (O : ObjsAt H q ds fs n os) (f : Same H H') : ObjsAt H' q ds fs n os :=
  ⟨f _ _ O.ls, O.len, O.nd, fun i d o h1 h2 => f _ _ (O.at' i d o h1 h2), O.ks, O.ok⟩
def spValue : Sp := fun vs H Q _ => ∃ (p c : Addr) (n : Nat), vs = [.ref p, .int (n : Int)] ∧ Pool p c H ∧ n ≤ 1000 ∧
  ∀ (v : Option Nat) (H' : Hp), okv n v → Pool p c H' → Fr p c H H' → Q (hv v) H'
def spObjects : Sp := fun vs H Q _ => ∃ (p c a : Addr) (fs : List Str) (n : Nat), vs = [.ref p, .ref a, .int (n : Int)] ∧ Pool p c H ∧ (a ≠ p ∧ a ≠ c) ∧ H a = some (.lst (fs.map V.str)) ∧ fs.Nodup ∧ fs.length ≤ 20 ∧ n ≤ 1000 ∧
  ∀ (q : Addr) (ds : List Addr) (os : List Ob) (H' : Hp), H q = none → (∀ d ∈ ds, H d = none ∧ d ≠ q) → os.length = n → ObjsAt H' q ds fs n os → Pool p c H' → Fr p c H H' → Q (.ref q) H'
def spNames : Sp := fun vs H Q _ => ∃ (p c a : Addr) (ws : List Str) (n : Nat), vs = [.ref p, .ref a, .int (n : Int)] ∧ Pool p c H ∧ (a ≠ p ∧ a ≠ c) ∧ H a = some (.lst (ws.map V.str)) ∧ ws.Nodup ∧ ws.length ≤ 20 ∧ n ≤ 1000 ∧
  ∀ (q : Addr) (l : Ob) (H' : Hp), H q = none → H' q = some (.dK (dk l)) → l.map (·.1) = ws → okl n l → Pool p c H' → Fr p c H H' → Q (.ref q) H'
theorem Pool.upd2 {p c q : Addr} {H : Hp} (P : Pool p c H) (h : q ≠ p ∧ q ≠ c) (o : HO) : Pool p c (upd H q o) := by
  obtain ⟨xs, a2, m2, g1, g2, g3⟩ := P.ex
  exact ⟨P.ne, xs, a2, m2, by rw [upd_ne h.1.symm]; exact g1, by rw [upd_ne h.2.symm]; exact g2, g3⟩
theorem get_str {ws : List Str} {i : Nat} {x : V} (hx : (ws.map V.str)[i]? = some x) : ∃ z, ws[i]? = some z ∧ x = V.str z := by
  rw [List.getElem?_map] at hx
  cases e : ws[i]? with
  | none => rw [e] at hx; cases hx
  | some z => rw [e] at hx; exact ⟨z, rfl, (Option.some.inj hx).symm⟩
theorem nodup_fresh {ws : List Str} {i : Nat} {z : Str} (nd : ws.Nodup) (hz : ws[i]? = some z) : z ∉ ws.take i := fun hm => by
  obtain ⟨j, hj, e⟩ := List.mem_take_iff_getElem.mp hm
  have hj' : ws[j]? = some z := by rw [← e]; exact List.getElem?_eq_getElem _
  have hj2 := (List.getElem?_eq_some_iff.mp hj').1
  have := (List.getElem?_inj hj2 nd).mp (hj'.trans hz.symm)
  omega
theorem take_next {α : Type} {ws : List α} {i : Nat} {z : α} (hz : ws[i]? = some z) : ws.take (i + 1) = ws.take i ++ [z] := by
  rw [List.take_add_one, hz]; rfl
end TW
set_option Elab.async false
set_option linter.all false
set_option maxRecDepth 100000
namespace TW
open PySem PySem.Spec PyProof.Rows L2 TL
/-- a list or tuple of things of the seven kinds -/
structure SeqK (K : PySem.W.Frag) (H : Hp) (a : Addr) (xs : List V) : Prop where
  at' : SqL K H a xs ∨ SqT K H a xs
  z : xs.length ≤ 1000000
  ks : ∀ y ∈ xs, ∃ T, Kd K H y T
theorem sqt_same {K : PySem.W.Frag} {H H' : Hp} {a : Addr} {xs : List V} (e : Same H H') (h : SqT K H a xs) : SqT K H' a xs := by
  rcases h with (h | ⟨o, h⟩) | h
  · exact .inl (.inl (e _ _ h))
  · exact .inl (.inr ⟨o, e _ _ h⟩)
  · exact .inr h
theorem seq_same {K : PySem.W.Frag} {H H' : Hp} {a : Addr} {xs : List V} (e : Same H H') (h : SqL K H a xs ∨ SqT K H a xs) : SqL K H' a xs ∨ SqT K H' a xs := h.elim (fun h => .inl (e.seq h)) fun h => .inr (sqt_same e h)
theorem SeqK.same {K : PySem.W.Frag} {H H' : Hp} {a : Addr} {xs : List V} (e : Same H H') (S : SeqK K H a xs) : SeqK K H' a xs := ⟨seq_same e S.at', S.z, fun y hy => let ⟨T, h⟩ := S.ks y hy; ⟨T, h.same e⟩⟩
theorem same_new {H : Hp} {p : Addr} {o : HO} (h : H p = none) : Same H (upd H p o) := fun b x e => by
  rw [upd_ne (ne_of_none e h)]; exact e
/-- unlike words, so many -/
def AreW (xs : List V) (lo hi : Int) : Prop := ∃ ws : List Str, xs = ws.map V.str ∧ (∀ z ∈ ws, IsW z) ∧ ws.Nodup ∧ lo ≤ (ws.length : Int) ∧ (ws.length : Int) ≤ hi
theorem isWb_str {x : V} (h : isWb x = true) : ∃ z, x = .str z ∧ IsW z := by
  cases x <;> try (cases h; done)
  exact ⟨_, rfl, of_decide_eq_true h⟩
theorem all_strs : ∀ {xs : List V}, xs.all isWb = true → ∃ ws : List Str, xs = ws.map V.str ∧ ∀ z ∈ ws, IsW z
  | [], _ => ⟨[], rfl, fun z h => (nomatch h)⟩
  | x :: xs, h => by
    rw [List.all_cons, Bool.and_eq_true] at h
    obtain ⟨z, rfl, hz⟩ := isWb_str h.1
    obtain ⟨ws, rfl, hw⟩ := all_strs h.2
    exact ⟨z :: ws, rfl, fun y hy => by
      rcases List.mem_cons.mp hy with rfl | hy
      · exact hz
      · exact hw y hy⟩
theorem all_of_strs {ws : List Str} (h : ∀ z ∈ ws, IsW z) : (ws.map V.str).all isWb = true := List.all_eq_true.mpr fun x hx => by
  obtain ⟨z, hz, rfl⟩ := List.mem_map.mp hx
  exact decide_eq_true (h z hz)
theorem str_inj {l m : List Str} (h : l.map V.str = m.map V.str) : l = m := by
  induction l generalizing m with
  | nil => cases m with
    | nil => rfl
    | cons y m => cases h
  | cons x l ih => cases m with
    | nil => cases h
    | cons y m =>
      injection h with h1 h2
      injection h1 with h1
      rw [h1, ih h2]
def spAreW (K : PySem.W.Frag) : Sp := fun vs H Q _ => ∃ x T lo hi, vs = [x, .int lo, .int hi] ∧ Kd K H x T ∧ hi ≤ 1000 ∧
  ((T ≠ "list" ∧ T ≠ "tuple" ∧ ∀ H', Same H H' → Q (.bl false) H') ∨
    ((T = "list" ∨ T = "tuple") ∧ ∃ a xs, x = .ref a ∧ SeqK K H a xs ∧ ∀ b H', Same H H' → (b = true ↔ AreW xs lo hi) → Q (.bl b) H'))
def spAreF (K : PySem.W.Frag) : Sp := fun vs H Q _ => ∃ x T, vs = [x] ∧ Kd K H x T ∧
  ((T ≠ "list" ∧ T ≠ "tuple" ∧ ∀ H', Same H H' → Q (.bl false) H') ∨
    ((T = "list" ∨ T = "tuple") ∧ ∃ a xs, x = .ref a ∧ SeqK K H a xs ∧ ∀ b H', Same H H' → (b = true ↔ AreW xs 1 2) → Q (.bl b) H'))
def iSeqv (K : PySem.W.Frag) (i : Nat) : TI := fun σ H R => ∃ a, σ[i]? = some (some (.ref a)) ∧ (((∃ xs, SqL K H a xs) ∧ R (Itl K a) H) ∨ ((∃ xs, SqT K H a xs) ∧ R (Itt K a) H))
theorem pi_seqv {X : Cx} {tg : Expr} (i : Nat) {x : Str} {pos : Pos} (hN : X.N[i]? = some x := by rfl) (hv : Vis X.env.scope x := by first | exact Or.inl rfl | exact Or.inr (Or.inl rfl) | exact Or.inr (Or.inr rfl)) (hd : (x == ("__debug__" : Str)) = false := by decide)
    (hcd : (x == ("__classdict__" : Str)) = false := by decide) : PI X tg (.Name x pos) (iSeqv X.K i) := by
  refine ⟨fun pins s σ H R I h => ?_⟩
  obtain ⟨a, e, h | h⟩ := h
  · exact (pi_list (tg := tg) (pe_var hN hv hd hcd)).run pins s σ H R I ⟨_, e, a, rfl, h⟩
  · exact (pi_tup (tg := tg) (pe_var hN hv hd hcd)).run pins s σ H R I ⟨_, e, a, rfl, h⟩
theorem seq_go {K : PySem.W.Frag} {H : Hp} {a : Addr} {xs : List V} {A C : Prop} (h : SqL K H a xs ∨ SqT K H a xs) (l : SqL K H a xs → A) (t : SqT K H a xs → C) :
    ((∃ xs, SqL K H a xs) ∧ A) ∨ ((∃ xs, SqT K H a xs) ∧ C) := h.elim (fun h => .inl ⟨⟨_, h⟩, l h⟩) fun h => .inr ⟨⟨_, h⟩, t h⟩
theorem lookup_none' {k : Str} : ∀ {l : List (Str × Option Nat)}, l.lookup k = none → k ∉ l.map (·.1)
  | [], _ => by simp
  | (f, v) :: l, h => by
    rw [List.lookup_cons] at h
    cases e : k == f with
    | true => rw [e] at h; cases h
    | false =>
      rw [e] at h
      have := lookup_none' h
      intro hm
      rcases List.mem_cons.mp hm with hm | hm
      · subst hm; simp at e
      · exact this hm
theorem kd_list {K : PySem.W.Frag} {H : Hp} {a : Addr} {T : String} (h : T = "list" ∨ T = "tuple") : (T == "list" || T == "tuple") = true := by
  rcases h with h | h <;> subst h <;> rfl
/-- a comprehension over a list or tuple -/
theorem for_either {K : PySem.W.Frag} {H : Hp} {a : Addr} {xs : List V} {α : Prop} (h : SqL K H a xs ∨ SqT K H a xs) (l : SqL K H a xs → α) (t : SqT K H a xs → α) : α := h.elim l t
section
variable {P : Program} {w : World} {K : PySem.W.Frag} {mg : Str → Option Value} {base : Heap}
def oneOf (x : V) (ws : List Str) : Bool := match x with
  | .str z => decide (z ∈ ws)
  | _ => false
def spOneOf (K : PySem.W.Frag) : Sp := fun vs H Q _ => ∃ x T a ws, vs = [x, .ref a] ∧ Kd K H x T ∧ ((∃ l : Ob, H a = some (.dK (dk l)) ∧ l.map (·.1) = ws) ∨ SqL K H a (ws.map V.str) ∨ SqT K H a (ws.map V.str)) ∧ Q (.bl (oneOf x ws)) H
end
end TW
set_option Elab.async false
set_option linter.all false
set_option maxRecDepth 100000
set_option maxHeartbeats 2000000
/-! defs that are called where no repr is under way: they may call repr -/
namespace L2
open PySem PySem.Spec PyProof.Rows
/-- no repr is under way -/
def Still (A : Around) : Prop := A.guards = some []
theorem Still.down {A : Around} (h : Still A) (e : Env) : Still (A.deeper e) := h
theorem still_top : Still callerA := rfl
/-- what a def promises there -/
structure FnG (P : Program) (w : World) (K : PySem.W.Frag) (mg : Str → Option Value) (base : Heap) (CX : CXT) (k : Nat) (f : Addr) (fd : FuncData) (ps : List Str) (sp : Sp) : Prop where
  ln : ∀ vs H Q E, sp vs H Q E → vs.length = ps.length
  go : ∀ A : Around, Still A → Room k A → ∀ (st : List Env) (s : Shared) (H : Hp), Env0 P w K mg base A st s H → ∀ (ag : Args) (us : List Value) (vs : List V) (Q : VK) (E : XK), BindsTo s fd ag (ps.zip us) → Vals vs us → sp vs H Q E →
    codeAny (model P w) A (.call (.ref f) ag) (CR CX st P w H s Q E) s
theorem FnOk.still {P : Program} {w : World} {K : PySem.W.Frag} {mg : Str → Option Value} {base : Heap} {CX : CXT} {k : Nat} {f : Addr} {fd : FuncData} {ps : List Str} {sp : Sp} (F : FnOk P w K mg base CX k f fd ps sp) : FnG P w K mg base CX k f fd ps sp :=
  ⟨F.len, fun A _ hr st s H e0 ag us vs Q E hb r h => F.run A st s H ag us vs Q E hr e0 hb r h⟩
section
variable {P : Program} {w : World} {K : PySem.W.Frag} {mg : Str → Option Value} {base : Heap}
/-- a def by its body, called where no repr is under way -/
theorem Fun.still {x qual : Str} {st : Stmt} {f : Addr} {fd : FuncData} {N ps : List Str} {k : Nat} {sp : Sp} (F : Fun K x qual st f fd) (S : FnScope N ps (defScope st)) (ln : ∀ vs H Q E, sp vs H Q E → vs.length = ps.length)
    (bd : ∀ (cdv : Value) (A : Around) (up : List Env) (s : Shared) (H : Hp) (vs : List V) (Q : VK) (E : XK), Still (A.deeper (envOfC qual (defScope st) s.heap.objs.size f cdv)) → Room k (A.deeper (envOfC qual (defScope st) s.heap.objs.size f cdv)) → sp vs H Q E →
      ∃ t, PSs (cxOf CX0 P w K mg base N qual (defScope st) f cdv A up s H E).nox (defBody st) t ∧ t { nx := fun _ H' => Q .non H', rt := Q } (start N vs) H) : FnG P w K mg base CX0 (k + 1) f fd ps sp := by
  obtain ⟨oc, od, kV, dc, pm, an, cdv, ct, sl, rfl, lk, hc⟩ := F.ex
  refine ⟨ln, fun A hg hr up s H e0 ag us vs Q E bt rv h0 => ?_⟩
  have nl := ln _ _ _ _ h0
  have kin : K.In s.heap := e0.mod.kin.keeps fun _ _ z => (e0.bs _ _ z).1
  have free : s.heap.NoLimit := e0.mod.nolimit.keeps fun _ _ z => (e0.bs _ _ z).1
  have kinds : ∀ y ∈ ps.zip us, (defScope st).names.lookup y.1 = some .local ∨ ((defScope st).names.lookup y.1 = some .cell ∧ ((cellsFrom (s.heap.objs.size + 1) (defScope st).names []).lookup y.1).isSome = true) := by
    rintro ⟨n, v⟩ hy
    exact (S.par n (List.of_mem_zip hy).1).imp id fun c => ⟨c, PySem.W.cellsFrom_some _ _ _ (.inl c)⟩
  refine codeAny_call_function hr.depth (kin _ _ lk) rfl S.co S.gen rfl (PySem.W.codeRec_of kin hc) (bt _ _ _ _ (wpAny_newFunctionEnv_cells S.kind kinds fun en hn s1 y => ?_))
  subst hn
  refine ⟨free.keeps y.toInCall.keep, codeAny_func ?_⟩
  obtain ⟨t, ht, q0⟩ := bd cdv A up s H vs Q E (hg.down _) (hr.deeper _) h0
  have I0 : Inv (cxOf CX0 P w K mg base N qual (defScope st) f cdv A up s H E) [] (start N vs) H s1 := inv_start S hr.hd e0 nl rv y
  refine wpAny_mono (ht.nox.run [] s1 (start N vs) H _ I0 q0) (fun fl s2 z => ?_) fun _ _ z => z
  match fl, z with
  | .ret u, ⟨v, _, H2, J, r, q⟩ => exact ⟨v, H2, J.os, J.bare, J.base, J.hok, r, q⟩
  | .next, ⟨_, H2, J, q⟩ => exact ⟨.non, H2, J.os, J.bare, J.base, J.hok, rfl, q⟩
  | .brk, ⟨_, _, _, q⟩ => exact False.elim q
  | .cont, ⟨_, _, _, q⟩ => exact False.elim q
end
section
variable {X : Cx} {CX : CXT} {k : Nat} {f : Addr} {fd : FuncData} {ps : List Str} {sp : Sp} {dvs : List V} {ds : List Value} {E : XK} {x : Str} {p pos : Pos} {e : Expr} {es : List Expr} {t : TA}
theorem run_still {pins : List (Addr × Obj)} {σ : St} {H : Hp} {s : Shared} {Q : VK} {us : List Value} {vs : List V} (F : FnG X.prog X.w X.K X.mg X.base CX k f fd ps sp) (hs : Still X.A) (hr : Room k X.A) (hb : Binds X.K fd ps ds) (hd : Vals dvs ds) (hx : Passes CX X E)
    (I : Inv X pins σ H s) (r : Vals vs us) (h : sp (vs ++ dvs) H Q E) : wpAny (model X.prog X.w) X.A (call (.ref f) us) (EP X pins σ Q) X.xe s := by
  have rr : Vals (vs ++ dvs) (us ++ ds) := r.append hd
  have nl : (us ++ ds).length = ps.length := rr.length.symm.trans (F.ln _ _ _ _ h)
  refine wpAny_call (codeAny_mono (F.go X.A hs hr X.stack s H I.env0 ⟨us, []⟩ _ _ Q E (hb s us I.kIn nl) rr h) fun z s2 hz => ?_)
  match z, hz with
  | .error er, hz => exact hx pins σ H s er s2 I hz
  | .ok (.ret u), hz => exact I.after hz
  | .ok .next, hz => exact False.elim hz
  | .ok .brk, hz => exact False.elim hz
  | .ok .cont, hz => exact False.elim hz
/-- f(e, ..) of such a def -/
theorem pe_callG (F : FnG X.prog X.w X.K X.mg X.base CX k f fd ps sp) (hs : Still X.A) (hr : Room k X.A) (hg : Gl X x) (hm : X.mg x = some (.ref f)) (hk : PySem.W.keepIn X.K (.ref f) = true) (hb : Binds X.K fd ps ds) (hd : Vals dvs ds) (hx : Passes CX X E)
    (ha : PA X (e :: es) t) (ndb : (x == ("__debug__" : Str)) = false := by decide) (hst : starEach (e :: es) X.env = (false, eval e X.env) :: starEach es X.env := by rfl) (hpl : (backTo pos (starEach es X.env)).any (·.1) = false := by rfl) :
    PE X (.Call (.Name x p) (e :: es) [] pos) (tCall sp dvs E t) := by
  constructor
  intro pins s σ H Q I h
  refine wpAny_Call_Name_kw (ld_glob I hg hm (PySem.W.callWith_K (h₀ := X.base) I.ok.mod.kin hk (thn (ha.run pos pins s σ H _ I h) ?_) hst hpl) ndb)
  rintro us s1 ⟨vs, H1, I1, r, q⟩
  exact ⟨I1.kIn, run_still F hs hr hb hd hx I1 r q⟩
/-- repr(x), x data of any depth -/
def rRepr (K : PySem.W.Frag) : List V → Hp → VK → Prop := fun vs H Q => ∃ (a : Addr) (d : PyData), vs = [.ref a] ∧ Dp K H (.ref a) d ∧ d.showable = true ∧ d.hasDict = false ∧ d.depth ≤ 60 ∧ d.shown.length ≤ sizeLine ∧ Q (.str d.shown) H
theorem call_reprD (hs : Still X.A) (hu : X.A.units + 64 < cLine) : CallR X (.builtin "repr") (rRepr X.K) := by
  rintro pins s σ H vs us Q I r ⟨a, d, rfl, hd, sh, nd, dp, sz, q⟩
  obtain rfl := Vals.ref1 r
  obtain ⟨as, rd⟩ := Dp.reads I d _ _ hd rfl
  exact repr_of_reads' rd sh (PyData.noDict_hsm nd) hs (by omega) (fun _ _ z => z) (fun h' u tk hk => ⟨.str d.shown, H, I.kept hk, ⟨u, rfl⟩, q⟩) sz
end
/-! the law's own def, from the top -/
section
variable {P : Program} {w : World} {K : PySem.W.Frag} {mg mb : Str → Option Value} {CX : CXT} {k : Nat} {fa a : Addr} {fd : FuncData} {x : Str} {sp : Sp} {t : Shared} {vs : List Value} {ns : List Int}
theorem still_from {H : Hp} (kin : K.In t.heap) (gl : t.heap.Ns mainGlobals mg) (bl : t.heap.Ns builtinsNs mb) (bb : ∀ x : Str, x ≠ "__name__" → mb x = bootBuiltins x) (nolim : t.heap.NoLimit) (gen : t.gens = #[]) (ha : t.heap.get? a = some { cls := .type "list", data := .seq vs.toArray }) (hr : Room k callerA)
    (F : ∀ base : Heap, K.In base → base.Ns mainGlobals mg → FnG P w K mg base CX k fa fd [x] sp) (bind : ∀ (s : Shared) (u : Value), BindsTo s fd ⟨[u], []⟩ [(x, u)]) (low : ∀ H e s', CX [] H t (fun _ _ _ => False) e s' → False)
    (hO : Only H) (hs : sp [.ref a] H (fun v _ => v = .bl true) fun _ _ _ => False) (ok : HOk P w H t.heap) (one : ∀ b, H b ≠ none → b = a) (off : H a ≠ none → K.lookup a = none) :
    codeAny (model P w) callerA (.call (.ref fa) ⟨[.ref a], []⟩) (fun r s' => r = .ok (.ret (.bool true)) ∧ OldK t.heap s'.heap ∧ s'.os = t.os ∧ AllBare s'.gens) t := by
  have away : ∀ {b : Addr} {o : Obj}, t.heap.get? b = some o → o.data ≠ .seq vs.toArray → H b = none := fun {b o} g ne => by
    refine Decidable.byContradiction fun z => ?_
    rw [one b z, ha] at g
    cases g
    exact ne rfl
  have ns' : ∀ {b : Addr} {m : Str → Option Value}, t.heap.Ns b m → (hidT t.heap H).Ns b m := fun {b m} h => by
    obtain ⟨o, es, ep, g, d, r⟩ := h
    exact ⟨o, es, ep, hidT_get g (away g (by rw [d]; exact fun z => nomatch z)), d, r⟩
  have kin' : K.In (hidT t.heap H) := fun b o g => hidT_get (kin b o g) (Decidable.byContradiction fun z => by
    have e := one b z
    subst e
    rw [off z] at g
    cases g)
  have md : Mod K mg (hidT t.heap H) := by
    obtain ⟨mc, l1, l2⟩ := nolim
    exact ⟨kin', ns' gl, ⟨mb, ns' bl, bb⟩, mc, ns' l1, l2⟩
  have e0 : Env0 P w K mg (hidT t.heap H) callerA [] t H := ⟨rfl, md, fun _ _ g => of_hidT g, Nat.le_of_eq (hidT_size _ _), trivial, fun b z => (nomatch z), ok, .of_eq gen⟩
  refine codeAny_mono ((F _ kin' (ns' gl)).go callerA still_top hr [] t H e0 ⟨[.ref a], []⟩ [.ref a] [.ref a] _ _ (bind t _) (.cons rfl .nil) hs) fun z s2 hz => ?_
  match z, hz with
  | .error er, hz => exact (low H er s2 hz).elim
  | .ok .next, hz => exact False.elim hz
  | .ok .brk, hz => exact False.elim hz
  | .ok .cont, hz => exact False.elim hz
  | .ok (.ret u), ⟨v, H2, os, bare, un, ok2, rv, ev⟩ =>
    have ev' : v = .bl true := ev
    subst ev'
    have eu : u = Value.bool true := rv
    subst eu
    refine ⟨rfl, OldK.of_keep fun b o g => ?_, os, bare⟩
    rcases hO b with n | ⟨ob, xs, e⟩
    · exact un.keep b o g n (fun z => (nomatch z)) (fun z => (nomatch z))
    · have g1 := (ok b _ e).1
      rw [g] at g1
      cases g1
      exact (ok2 b _ (un.frzs b _ _ e)).1
theorem law_still (kin : K.In t.heap) (gl : t.heap.Ns mainGlobals mg) (bl : t.heap.Ns builtinsNs mb) (bb : ∀ x : Str, x ≠ "__name__" → mb x = bootBuiltins x) (nolim : t.heap.NoLimit) (gen : t.gens = #[]) (ha : t.heap.get? a = some { cls := .type "list", data := .seq vs.toArray })
    (hi : IntsAre vs ns) (hl : ns.length ≤ sizeLine) (hr : Room k callerA)
    (F : ∀ base : Heap, K.In base → base.Ns mainGlobals mg → FnG P w K mg base CX k fa fd [x] sp) (bind : ∀ (s : Shared) (u : Value), BindsTo s fd ⟨[u], []⟩ [(x, u)]) (low : ∀ H e s', CX [] H t (fun _ _ _ => False) e s' → False)
    (hs : ∀ H : Hp, Only H → SqL K H a (ns.map V.int) → sp [.ref a] H (fun v _ => v = .bl true) fun _ _ _ => False) :
    codeAny (model P w) callerA (.call (.ref fa) ⟨[.ref a], []⟩) (fun r s' => r = .ok (.ret (.bool true)) ∧ OldK t.heap s'.heap ∧ s'.os = t.os ∧ AllBare s'.gens) t := by
  have rv := vals_ints hi
  have nl := hi.length
  obtain ⟨ob, eo⟩ : ∃ ob : Obj, ob = { cls := .type "list", data := .seq vs.toArray } := ⟨_, rfl⟩
  cases hk : K.lookup a with
  | some o =>
    have g := kin a o hk
    rw [ha] at g
    cases g
    have hO : Only fun _ => none := fun _ => .inl rfl
    refine still_from kin gl bl bb nolim gen ha hr F bind low hO (hs _ hO (.inr ⟨_, vs.toArray, _, hk, rfl, rfl, rfl, ?_, ?_⟩)) (fun b u z => nomatch z) (fun b z => absurd rfl z) (fun z => absurd rfl z)
    · rw [List.size_toArray, nl]
      exact hl
    · simpa using rv
  | none =>
    have here : ∀ b, (upd (fun _ => none) a (.frz ob (.lst (ns.map V.int)))) b ≠ none → b = a := fun b z => Decidable.byContradiction fun n => z (upd_ne n)
    have hO : Only (upd (fun _ => none) a (.frz ob (.lst (ns.map V.int)))) := fun b => by
      by_cases n : b = a
      · subst n
        exact .inr ⟨_, _, upd_same⟩
      · exact .inl (upd_ne n)
    refine still_from kin gl bl bb nolim gen ha hr F bind low hO (hs _ hO (.inl (.inr ⟨ob, upd_same⟩))) (fun b u z => ?_) here (fun _ => hk)
    have e := here b (by rw [z]; exact fun y => nomatch y)
    subst e
    rw [upd_same] at z
    cases z
    subst eo
    exact ⟨ha, by rw [List.length_map]; exact hl, vs, _, rv, ha⟩
end
/-- what k_head leaves, for a law whose def needs that no repr is under way -/
theorem walk_still {l : PySem.W.OpenLaw} {n k : Nat} {q : Program} {loose : List Str} {XP : (Str → Option Value) → Heap → Prop} {YP : World → Heap → Prop} {d : DefRec} {K : Params → PySem.W.Frag} {sp : World → Sp} {x : Str}
    (m1 : l.most = some n) (m2 : n ≤ sizeLine) (nd : d.params.defaults = []) (hr : Room k callerA) (hY : ∀ (w : World) (h : Heap), YP w h → (K w.params).In h)
    (F : ∀ (w : World) (mg : Str → Option Value) (fa : Addr) (h : Heap), (K w.params).In h → h.Ns mainGlobals mg → mg d.name = some (.ref fa) →
      ∃ fd : FuncData, (∀ (s : Shared) (u : Value), BindsTo s fd ⟨[u], []⟩ [(x, u)]) ∧ ∀ base : Heap, (K w.params).In base → base.Ns mainGlobals mg → FnG l.prog w (K w.params) mg base CX0 k fa fd [x] (sp w))
    (hs : ∀ (w : World) (H : Hp) (a : Addr) (ns : List Int), ns.length ≤ n → Only H → SqL (K w.params) H a (ns.map V.int) → sp w [.ref a] H (fun v _ => v = .bl true) fun _ _ _ => False) :
    PySem.W.WalkO q loose XP YP l.row.toRowW d [] (fun f vs => PySem.call f vs) := by
  refine Att.attach_call m1 nd fun w s0 s1 mg mb fa o pm cd doc a vs ns G Y e1 e2 e3 e4 e5 e6 e7 e8 => ?_
  have kin := hY w _ Y
  obtain ⟨fd, hb, hF⟩ := F w mg fa _ kin G.T.g e4
  exact law_still kin G.T.g G.T.b G.T.builtins G.T.nolimit e8 e5 e6 (Nat.le_trans e7 m2) hr hF hb (fun _ _ _ z => z) fun H hO hS => hs w H a ns e7 hO hS
end L2
set_option Elab.async false
set_option linter.all false
set_option maxRecDepth 100000
namespace TW
open PySem PySem.Spec PyProof.Rows L2 TL
/-- two lists or tuples of the same content have the same repr -/
def spExact (K : PySem.W.Frag) : Sp := fun vs H Q _ => ∃ (a b : Addr) (d : PyData), vs = [.ref a, .ref b] ∧ Dp K H (.ref a) d ∧ Dp K H (.ref b) d ∧ d.showable = true ∧ d.hasDict = false ∧ d.depth ≤ 60 ∧ d.shown.length ≤ sizeLine ∧ Q (.bl true) H
abbrev S_law_exact : Stmt := topS 16
abbrev N_law_exact : List Str := ["_law_actual", "_law_due_here"]
abbrev P_law_exact : List Str := ["_law_actual", "_law_due_here"]
theorem sc_law_exact : FnScope N_law_exact P_law_exact (defScope S_law_exact) := ⟨rfl, rfl, rfl, by decide +kernel, rfl, by decide +kernel, by decide +kernel⟩
section
variable {P : Program} {w : World} {K : PySem.W.Frag} {mg : Str → Option Value} {base : Heap}
set_option maxHeartbeats 4000000 in
theorem ok_exact {f : Addr} {fd : FuncData} (F : Fun K "_law_exact" "_law_exact" S_law_exact f fd) (B : Bl mg) : FnG P w K mg base CX0 1 f fd P_law_exact (spExact K) := by
  refine F.still sc_law_exact (fun vs H Q E h => ?_) (fun cdv A outer s H vs Q E hg hr h => ?_)
  · obtain ⟨a, b, d, rfl, _⟩ := h
    rfl
  · obtain ⟨a, b, d, rfl, d1, d2, sh, nd, dp, sz, k⟩ := h
    have hu64 : (A.deeper (envOfC "_law_exact" (defScope S_law_exact) s.heap.objs.size f cdv)).units + 64 < cLine := by have := hr.un; omega
    refine ⟨_, (pss_one (ps_ret (pe_cmpR op_eq (pe_callB (call_reprD hg hu64) (by rfl) B.m_repr (by decide +kernel) (pa_cons (pv 0) pa_nil)) (pe_callB (call_reprD hg hu64) (by rfl) B.m_repr (by decide +kernel) (pa_cons (pv 1) pa_nil)) (nomark _)))), ?_⟩
    refine ⟨_, rfl, a, d, rfl, d1, sh, nd, dp, sz, _, rfl, b, d, rfl, d2, sh, nd, dp, sz, rfl, ?_⟩
    rw [decide_eq_true rfl]
    exact k
end
end TW
set_option Elab.async false
set_option linter.all false
set_option maxRecDepth 100000
set_option maxHeartbeats 2000000
namespace PySem
namespace ErrX
open PySem.W PySem.Calls PyProof.Rows PySem.HandSPX
/-- (self, part) -/
def eArgs (p1 p2 : Pos) : Arguments := { posonlyargs := [], args := [{ arg := "self", annotation := none, pos := p1 }, { arg := "part", annotation := none, pos := p2 }], vararg := none, kwonlyargs := [], kw_defaults := [], kwarg := none, defaults := [] }
/-- the two rows of the body -/
def eBody (ms : Str) (a1 a2 a3 a4 a5 a6 a7 a8 a9 : Pos) (q1 q2 q3 q4 : Pos) : List Stmt :=
  [.Expr (.Call (.Attribute (.Call (.Name "super" a1) [] [] a2) "__init__" a3) [.JoinedStr [.Constant (.str ms) 0 a4, .FormattedValue (.Name "part" a5) (-1) none a6] a7] [] a8) a9,
   .Assign [.Attribute (.Name "self" q1) "part" q2] (.Name "part" q3) q4]
def eScope : Scope := { kind := .function, names := [(PySem.Str.ofString "self", .local), (PySem.Str.ofString "part", .local), (PySem.Str.ofString "__class__", .free), (PySem.Str.ofString "super", .globalImplicit)], isGenerator := false, isCoroutine := false, more := [] }
/-- what the written part says of the class x (at C) and of its own maker (at fI) -/
structure ErrTxt (prog : Program) (K : Frag) (mg : Str → Option Value) (x ms : Str) (C fI : Addr) : Prop where
  gC : mg x = some (.ref C)
  cls : ∃ nm q N bs bm sn sub ab col dd k0 k1 k2 k3 k5, K.lookup C = some (excClassObj nm q C N bs bm true sn sub ab col dd k0 k1 k2 k3 k5 "ValueError.__new__") ∧ refsVE bm = true
  sa : findIn K (.ref C) "__setattr__" = some (some (.builtin "object.__setattr__"))
  ga : findIn K (.ref C) "__getattribute__" = some (some (.builtin "BaseException.__getattribute__"))
  gg : findIn K (.ref C) "__getattr__" = some none
  noN : findIn K (.ref C) "part" = some none
  iC : findIn K (.ref C) "__init__" = some (some (.ref fI))
  tC : typeIn K (.ref fI) = some (.type "function")
  kC : keepIn K (.ref C) = true
  exC : subIn K (.ref C) (.type "BaseException") = some true
  veC : subIn K (.ref C) (.type "ValueError") = some true
  tyC : typeIn K (.ref C) = some (.type "type")
  hdC : hasDictIn K C = true
  te : exmOne K (.ref C) (.ref C) = some true
  opq : nsIn K cStatics "thirdparty.any" = some none
  sup : ks_superIn K C C "__init__" = some (some (.builtin "ValueError.__init__"))
  sub : mroIn K C (.ref C) = some true
  htop : (prog.main.scope.names.lookup ("super" : Str)).isSome = false
  hms : ms.length ≤ 1000
  fn : ∃ (oc : Value) (od : Option Addr) (doc pm : Value) (an : Option Addr) (cda cc : Addr) (ct : Value) (osl : Array (Option Value)) (qual : Str) (p1 p2 a1 a2 a3 a4 a5 a6 a7 a8 a9 q1 q2 q3 q4 : Pos)
      (ccl cl : Value) (cdd cld : Option Addr) (vs : Array Value) (ccs csl : Array (Option Value)) (file : Str) (tf : Tok),
    K.lookup fI = some ⟨oc, od, .func (ksFn "__init__" qual (eArgs p1 p2) (eBody ms a1 a2 a3 a4 a5 a6 a7 a8 a9 q1 q2 q3 q4) eScope .none .none doc pm an (.ref cda) ct cc), osl⟩ ∧ codeIn K (.ref cda) qual = true ∧
    K.lookup cda = some ⟨ccl, cdd, .fields vs, ccs⟩ ∧ vs[2]? = some (.str file tf) ∧ ((prog.main.file : Str) == file) = true ∧ K.lookup cc = some ⟨cl, cld, .cell (some (.ref C)), csl⟩ ∧
    (a3.endLine == a8.line) = true
/-- o.m(e), as a tree -/
theorem call_tree {o e : Expr} {m : Str} {apos pos : Pos} {env : Env} (hl : (apos.endLine == pos.line) = true) (he : starEach [e] env = [(false, eval e env)] := by rfl) :
    eval (.Call (.Attribute o m apos) [e] [] pos) env = (do
      let ov ← attributeBase o m env (eval o env)
      standAt apos.atName
      let (f, first) ← holding [ov] (getMethod ov m (do return (← importBound o env).getD true))
      callWith pos f first (backTo pos (starEach [e] env)) []) := by
  rw [arm_eval_Call]
  have hf : methodCallForm ([e].length + ([] : List Keyword).length) (backTo pos (starEach [e] env)) (backToKw pos (keywordEach [] env)) = true := by
    rw [he]
    rfl
  have hp : methodCallPos true o env apos pos = pure pos := by unfold methodCallPos; simp [hl]
  have hc : ∀ ov, calleeOf true o env ov m = getMethod ov m (do return (← importBound o env).getD true) := fun _ => rfl
  have key : ∀ ov, methodCall o m apos pos env ov ([e].length + ([] : List Keyword).length) (backTo pos (starEach [e] env)) (backToKw pos (keywordEach [] env)) = (do
      let (f, first) ← holding [ov] (getMethod ov m (do return (← importBound o env).getD true))
      callWith pos f first (backTo pos (starEach [e] env)) []) := fun ov => by
    unfold methodCall
    rw [hf, hp, hc]
    simp only [pure_bind]
    rfl
  simp only [key]
theorem one_size (v : Value) : [v].length ≤ sizeLine := by
  rw [sizeLine_eq]
  exact (by decide : 1 ≤ 16777216)
theorem ldN {M : Model} {s : Shared} {name : Str} {scope : Scope} {L a : Addr} {cd : Value} {cl : List (Str × Addr)} {m : Str → Option Value} {x : Str} {pos : Pos} {v : Value} {Q : Value → Shared → Prop} {A : Around} {E : Value → Shared → Prop} (hn : s.heap.Ns L m) (hv : m x = some v) (h : Q v s)
    (hk : scope.kind = .function := by rfl) (hl : (envX name scope L a cd cl).kindOf x = some .local := by rfl) (hd : (x == ("__debug__" : Str)) = false := by decide) :
    wpAny M A (eval (.Name x pos) (envX name scope L a cd cl)) Q E s := wpAny_Name (wpAny_loadName_local hk hl hn hv h) hd
section
variable {prog : Program} {w : World} {A : Around} {E : Value → Shared → Prop} {h : Heap} {g : Array GenState} {d : Drawn} {t : Nat} {os : OsState}
variable {nm q : Str} {C N : Addr} {bs bm : List Value} {hdct : Bool} {sn : List Str} {sub : List Value} {ab : Bool} {col : Option Bool} {dd : Option Addr} {k0 k1 k2 k3 k5 : Option Value}
/-- the bound maker of the base is called: the args are laid anew -/
theorem call_mw {u e t0 : Addr} {rest : List Value} {Q : Value → Shared → Prop}
    (hC : h.get? C = some (excClassObj nm q C N bs bm hdct sn sub ab col dd k0 k1 k2 k3 k5 "ValueError.__new__")) (he : h.get? e = some (excO C t0)) (hu : h.get? u = some (kxs_mw "ValueError.__init__" e)) (hrest : rest.length ≤ sizeLine)
    (hq : ∀ h' t1, (∀ b o, b ≠ e → h.get? b = some o → h'.get? b = some o) → h'.get? e = some (excO C t1) → Q .none ⟨h', g, d, t, os⟩) :
    wpAny (model prog w) A (call (.ref u) rest) Q E ⟨h, g, d, t, os⟩ := by
  refine wpAny_call (codeAny_of_tree ?_)
  show wpAny _ A.in1 (callAny (.ref u) ⟨rest, []⟩) _ _ _
  simp only [callAny]
  refine wpAny_bind (wpAny_load hu ?_)
  simp only [kxs_mw, show (Value.type "method-wrapper" == Value.type "method" || Value.type "method-wrapper" == Value.type "builtin_function_or_method" || Value.type "method-wrapper" == Value.type "method-wrapper") = true by decide, if_true]
  refine KFB.if_so (by decide) ?_
  refine wpAny_bind (check_bound_init F.excBase_ValueError.toExcCallFacts hC he rfl ?_)
  refine wpAny_bind (wpAny_pure (wpAny_pure ?_))
  refine ⟨plainId_quiet F.excBase_ValueError.init.plain _, codeAny_builtin F.excBase_ValueError.initEntry ?_⟩
  exact exc_init_tree (cls := .ref C) (t0 := t0) (dv := none) (c2 := .none) (c3 := .none) (b4 := .bool false) he hrest fun h' k e1 e2 => hq h' _ k e1
end
/-- what the maker leaves of a fresh error at x -/
structure InitEnd (h h' : Heap) (x C dx t1 : Addr) (v : Value) : Prop where
  keep : ∀ b o, b ≠ x → h.get? b = some o → h'.get? b = some o
  obj : h'.get? x = some { cls := .ref C, dict := some dx, data := .fields #[.ref t1, .none, .none, .none, .bool false, .none] }
  dbig : h.objs.size ≤ dx
  dne : dx ≠ x
  ns : h'.Ns1 dx (fun y => if y = "part" then some v else none)
section
variable {prog : Program} {w : World} {A : Around} {E : Value → Shared → Prop} {R : Result → Shared → Prop} {s : Shared} {K : Frag} {mg mb : Str → Option Value} {nmx ms : Str} {C fI : Addr}
theorem err_init (T : ErrTxt prog K mg nmx ms C fI) {x t0 : Addr} {y : Str} {ty : Tok} (X : K.In s.heap) (hG : s.heap.Ns mainGlobals mg) (hB : s.heap.Ns builtinsNs mb) (mS : mg "super" = none) (bS : mb "super" = some (.type "super"))
    (hlim : s.heap.NoLimit) (hx : s.heap.get? x = some (excO C t0)) (hnx : K.lookup x = none) (hroom : A.depth < recursionLimit) (hy : y.length ≤ 1000)
    (hq : ∀ h' tk dx t1, InitEnd s.heap h' x C dx t1 (.str y ty) → R (.ok (.ret .none)) { s with heap := h', toks := tk }) :
    codeAny (model prog w) A (.call (.ref fI) ⟨[.ref x, .str y ty], []⟩) R s := by
  obtain ⟨oc, od, doc, pm, an, cda, cc, ct, osl, qual, p1, p2, a1, a2, a3, a4, a5, a6, a7, a8, a9, q1, q2, q3, q4, ccl, cl, cdd, cld, vs, ccs, csl, file, tf, ho, hcd, hcda, hvs, hfile, hcell, hline⟩ := T.fn
  obtain ⟨nm, q, N, bs, bm, sn, sub, ab, col, dd, k0, k1, k2, k3, k5, hC, hbm⟩ := T.cls
  have hcl : clsIn K C = some { name := nm, bases := bs, mro := .ref C :: bm, ns := N, qualname := q, hasDict := true, slotNames := sn, subclasses := sub, abstract := ab, collection := col, hasDel := false } := by unfold clsIn; rw [hC] <;> rfl
  have hsup : alongIn K "__init__" ((((Value.ref C :: bm)).dropWhile (· != .ref C)).drop 1) = some (some (.builtin "ValueError.__init__")) := by
    have z := T.sup
    unfold ks_superIn at z
    rw [hcl] at z
    exact z
  refine ks_codeAny_call_defAt (fd := ksFn "__init__" qual (eArgs p1 p2) (eBody ms a1 a2 a3 a4 a5 a6 a7 a8 a9 q1 q2 q3 q4) eScope .none .none doc pm an (.ref cda) ct cc) (body := eBody ms a1 a2 a3 a4 a5 a6 a7 a8 a9 q1 q2 q3 q4)
    (binds := [("self", .ref x), ("part", .str y ty)]) hroom (X _ _ ho) rfl hlim (codeRec_of X hcd) rfl (BindsTo.of_eq (by first | rfl | with_unfolding_all rfl)) (show ∀ x ∈ eScope.names, x.2 ≠ .cell by decide) (fun z hz => by
      rcases List.mem_cons.mp hz with rfl | hz
      · rfl
      rcases List.mem_cons.mp hz with rfl | hz
      · rfl
      cases hz) (fun h₁ hn k => ?_) rfl rfl rfl
  obtain ⟨hp, g, d, t, os⟩ := s
  have X₁ : K.In h₁ := X.keeps k
  have hx₁ := k _ _ hx
  have hC₁ := X₁ _ _ hC
  show _root_.PySem.wpAt _ _ (.func _ (ksEnv qual eScope hp.objs.size fI (.ref cda) cc)) (execs _ (ksEnv qual eScope hp.objs.size fI (.ref cda) cc)) _ _ _
  have nxC : x ≠ C := fun z => by
    rw [z, hC] at hnx
    cases hnx
  have hxL : hp.objs.size ≠ x := Nat.ne_of_gt (Heap.lt_size hx)
  -- the first row
  refine ks_wpAt_execs_cons (ks_wpAt_Expr_any (ks_wpAt_MethodCall (pl := do return (← importBound (.Call (.Name "super" a1) [] [] a2) (ksEnv qual eScope hp.objs.size fI (.ref cda) cc)).getD true) ?_ (call_tree hline)))
  refine ks_wpAt_super_base (env := ksEnv qual eScope hp.objs.size fI (.ref cda) cc) (file := file) (tf := tf) (vs := vs) rfl rfl (by decide) rfl (X₁ _ _ ho) rfl rfl rfl (X₁ _ _ hcda) rfl hvs hfile T.htop ?_
  refine ks_loadName_global rfl rfl (loadGlobal_builtin (env := ksEnv qual eScope hp.objs.size fI (.ref cda) cc) (mg := mg) (mb := mb) (hG.keeps k) mS (hB.keeps k) bS ⟨rfl, ?_⟩)
  refine wpAny_loadName_free rfl rfl rfl ⟨_, X₁ _ _ hcell, rfl⟩ ?_
  refine wpAny_loadName_local rfl rfl hn rfl ?_
  refine ks_wpAny_isType_cls hC₁ rfl ⟨rfl, ?_⟩
  refine ks_wpAny_call_super hC₁ rfl hx₁ rfl (fun c e => by cases e) (looks_mroIn X₁ T.sub) (fun h₂ hso k₂ => ?_)
  have X₂ : K.In h₂ := X₁.keeps k₂
  have hx₂ := k₂ _ _ hx₁
  have I₂ : InstAt h₂ x (excO C t0) C none := ⟨hx₂, rfl, rfl, trivial⟩
  refine kxs_getMethod kxs_ValueError hso (looks_opaque X₂ T.opq) (l₀ := .ref C :: bm) (fun A Q E s k q => wpAny_bind ((looks_clsIn X₂ hcl) A _ E s k (wpAny_pure q))) rfl X₂ hsup (I₂.type.andThen (looks_subIn X₂ T.veC)) nxC (by decide) ?_
  have k₃ : ∀ b o, h₂.get? b = some o → (h₂.push (kxs_mw "ValueError.__init__" x)).get? b = some o := fun b o e => Heap.get?_push_of_some _ e
  have hmw : (h₂.push (kxs_mw "ValueError.__init__" x)).get? h₂.objs.size = some (kxs_mw "ValueError.__init__" x) := Heap.get?_push_at rfl rfl
  refine kxs_callWith (i := "ValueError.__init__") (x := x) (by rfl) ?_
  refine evalArgs_plain (spliced_cons ?_)
  have hn₃ : (h₂.push (kxs_mw "ValueError.__init__" x)).Ns hp.objs.size (fun z => List.lookup z [(("part" : Str), Value.str y ty), ("self", .ref x)]) := (hn.keeps k₂).keeps k₃
  have hsz : sizeLine = 16777216 := sizeLine_eq
  refine wpAny_JoinedStr (pos := a7) ?_
  have sz : ∀ z : Str, z.length ≤ 2000 → z.length ≤ sizeLine := fun z hz => by
    rw [sizeLine_eq]
    omega
  have hms := T.hms
  refine Calls.Constant_str ⟨ms, _, rfl, sz _ (by rw [Str.length_append]; show 0 + ms.length ≤ 2000; omega), ?_⟩
  have fin : ∀ tt : Nat, ((Str.empty ++ ms) ++ y).length ≤ sizeLine ∧ wpAny (model prog w) (A.deeper (ksEnv qual eScope hp.objs.size fI (.ref cda) cc)) (call (.ref h₂.objs.size) [.str ((Str.empty ++ ms) ++ y) tt]) (fun _ s' => wpAt (model prog w) (A.deeper (ksEnv qual eScope hp.objs.size fI (.ref cda) cc)) (.func (eBody ms a1 a2 a3 a4 a5 a6 a7 a8 a9 q1 q2 q3 q4) (ksEnv qual eScope hp.objs.size fI (.ref cda) cc))
      (execs [.Assign [.Attribute (.Name "self" q1) "part" q2] (.Name "part" q3) q4] (ksEnv qual eScope hp.objs.size fI (.ref cda) cc)) (fun f s' => R (.ok (.ret (match f with | .ret v => v | _ => .none))) s')
        (fun e s' => wpAny (model prog w) (A.deeper (ksEnv qual eScope hp.objs.size fI (.ref cda) cc)) (leaving (ksEnv qual eScope hp.objs.size fI (.ref cda) cc) e) (fun _ s'' => R (.error e) s'') (fun e' s'' => R (.error e') s'') s') s')
      (fun e s' => wpAny (model prog w) (A.deeper (ksEnv qual eScope hp.objs.size fI (.ref cda) cc)) (leaving (ksEnv qual eScope hp.objs.size fI (.ref cda) cc) e) (fun _ s'' => R (.error e) s'') (fun e' s'' => R (.error e') s'') s')
      ⟨h₂.push (kxs_mw "ValueError.__init__" x), g, d, tt + 1, os⟩ := fun tt => by
    refine ⟨sz _ ?_, ?_⟩
    · rw [Str.length_append, Str.length_append]
      show 0 + ms.length + y.length ≤ 2000
      omega
    refine call_mw (h := h₂.push (kxs_mw "ValueError.__init__" x)) (X₂.keeps k₃ _ _ hC) (k₃ _ _ hx₂) hmw (one_size _) (fun h₄ t1 k₄ hx₄ => ?_)
    have keep4 : ∀ b o, b ≠ x → hp.get? b = some o → h₄.get? b = some o := fun b o hb e => k₄ b o hb (k₃ _ _ (k₂ _ _ (k b o e)))
    have X₄ : K.In h₄ := fun b o e => k₄ b o (fun z => by rw [z, hnx] at e; cases e) (k₃ _ _ (X₂ _ _ e))
    have hn₄ : h₄.Ns hp.objs.size (fun z => List.lookup z [(("part" : Str), Value.str y ty), ("self", .ref x)]) := by
      obtain ⟨oL, es, ep, e1, r⟩ := hn₃
      exact ⟨oL, es, ep, k₄ _ _ hxL e1, r⟩
    refine wpAt_of_wpAny ?_
    refine wpAny_execs_cons (plainObj_wpAny_Assign_Attribute ?_)
    refine ldN (v := .str y ty) hn₄ rfl (ldN (v := .ref x) hn₄ rfl ?_)
    refine set_plain X₄ (ox := excO C t1) (od := none) ⟨hx₄, rfl, rfl, trivial⟩ T.sa ?_
    refine exc_osa X₄ hx₄ hcl (show refsVE (.ref C :: bm) = true from hbm) rfl T.noN (fun h₅ tk₅ dx k₅ dn dne hx₅ hn₅ => ?_)
    have big : hp.objs.size ≤ h₄.objs.size := by
      obtain ⟨oL, es, ep, e1, r⟩ := hn₄
      exact Nat.le_of_lt (Heap.lt_size e1)
    exact wpAny_execs_nil (hq h₅ tk₅ dx t1 ⟨fun b o hb e => k₅ b o hb (keep4 b o hb e), hx₅, Nat.le_trans big dn, dne, hn₅⟩)
  refine wpAny_FormattedValue_plain (ldN (v := .str y ty) hn₃ rfl ?_)
  have fin2 := fun tt => (fin tt).2
  refine wpAny_formatField_str ⟨y, _, rfl, (fin 0).1, (fin 0).1, ?_⟩ ⟨y, _, rfl, (fin 0).1, (fin 0).1, ?_⟩ (sz _ (by omega))
  · exact spliced_nil ⟨hmw, fin2 _⟩
  · exact spliced_nil ⟨hmw, fin2 _⟩
/-- a made error -/
structure OwnMade (h h' : Heap) (e C d : Addr) (v : Value) : Prop where
  keep : ∀ b o, h.get? b = some o → h'.get? b = some o
  new : h.objs.size ≤ e
  obj : ∃ oe vs, h'.get? e = some oe ∧ oe.cls = .ref C ∧ oe.dict = some d ∧ oe.data = .fields vs ∧ vs[1]? = some .none
  dbig : h.objs.size ≤ d
  dne : d ≠ e
  ns : h'.Ns1 d (fun y => if y = "part" then some v else none)
theorem err_made (T : ErrTxt prog K mg nmx ms C fI) {y : Str} {ty : Tok} (X : K.In s.heap) (hG : s.heap.Ns mainGlobals mg) (hB : s.heap.Ns builtinsNs mb) (mS : mg "super" = none) (bS : mb "super" = some (.type "super"))
    (hlim : s.heap.NoLimit) (hroom : A.depth + 1 < recursionLimit) (hy : y.length ≤ 1000)
    (hq : ∀ h' tk e d, OwnMade s.heap h' e C d (.str y ty) → R (.ok (.ret (.ref e))) { s with heap := h', toks := tk }) :
    codeAny (model prog w) A (.call (.ref C) ⟨[.str y ty], []⟩) R s := by
  obtain ⟨nm, q, N, bs, bm, sn, sub, ab, col, dd, k0, k1, k2, k3, k5, hC, hbm⟩ := T.cls
  obtain ⟨hp, g, dr, tk, os⟩ := s
  have k : ∀ b o, hp.get? b = some o → ((hp.push (kdv_tup [.str y ty])).push (excO C hp.objs.size)).get? b = some o := fun b o e => Heap.get?_push_of_some _ (Heap.get?_push_of_some _ e)
  have hget : ((hp.push (kdv_tup [.str y ty])).push (excO C hp.objs.size)).get? (hp.objs.size + 1) = some (excO C hp.objs.size) := by heap_get
  have hnx : K.lookup (hp.objs.size + 1) = none := by
    cases e : K.lookup (hp.objs.size + 1) with
    | none => rfl
    | some o =>
      have z : hp.get? (hp.objs.size + 1) = some o := X _ _ e
      exact absurd (Nat.lt_of_succ_lt (Heap.lt_size z)) (Nat.lt_irrefl _)
  refine call_own F.excBase_ValueError (fun X => refsVE_contains X bm hbm) (X _ _ hC) (looks_findIn X T.iC) (fun self => bind_fn X self T.tC) (one_size _) ?_
  refine err_init (s := ⟨(hp.push (kdv_tup [.str y ty])).push (excO C hp.objs.size), g, dr, tk, os⟩) T (X.keeps k) (hG.keeps k) (hB.keeps k) mS bS (hlim.keeps k) hget hnx ?_ hy fun h' tk' dx t1 ⟨k', hx, dn, dne, hns⟩ => ?_
  · show A.depth + 1 < recursionLimit
    exact hroom
  · have old : ∀ b o, hp.get? b = some o → h'.get? b = some o := fun b o e => k' b o (Nat.ne_of_lt (Nat.lt_succ_of_lt (Heap.lt_size e))) (k b o e)
    have z : hp.objs.size + 1 + 1 ≤ dx := by
      first
        | (simpa only [Heap.size_push] using dn)
        | exact dn
        | (have q := dn; rw [Heap.size_push, Heap.size_push] at q; exact q)
    exact ⟨rfl, hq h' tk' (hp.objs.size + 1) dx ⟨old, Nat.le_succ _, ⟨_, _, hx, rfl, rfl, rfl, rfl⟩, Nat.le_trans (Nat.le_trans (Nat.le_succ _) (Nat.le_succ _)) z, dne, hns⟩⟩
end
end ErrX
end PySem
namespace L2
open PySem PySem.Spec PyProof.Rows
theorem relO_part {v : V} {v' : Value} (r : RelV v v') (f : Str) : RelO (List.lookup f [(("part" : Str), v)]) (if f = "part" then some v' else none) := by
  by_cases hw : f = "part"
  · subst hw
    rw [if_pos rfl]
    have q : List.lookup ("part" : Str) [(("part" : Str), v)] = some v := by simp [List.lookup]
    rw [q]
    exact r
  · rw [if_neg hw]
    have qw : (f == ("part" : Str)) = false := by simpa using hw
    have q2 : List.lookup f [(("part" : Str), v)] = none := by simp [List.lookup, qw]
    rw [q2]
    trivial
section
variable {X : Cx} {nm ms : Str} {C fI : Addr}
/-- C(e), e a text -/
def tMkE (C : Addr) (ta : TA) : St → Hp → XK → Prop := fun σ H Q => ta σ H fun vs H1 => ∃ y : Str, vs = [.str y] ∧ y.length ≤ 1000 ∧ ∀ d, H1 d = none → Q (.ref C) (some d) (upd H1 d (.xd [(("part" : Str), .str y)]))
theorem pmk_err {a : Expr} {ta : TA} {p pos : Pos} {k : Nat} (T : PySem.ErrX.ErrTxt X.prog X.K X.mg nm ms C fI) (hr : Room k X.A) (mS : X.mg "super" = none) (ha : PA X [a] ta) (hg : Gl X nm) (hd : (nm == ("__debug__" : Str)) = false)
    (he : starEach (a :: []) X.env = (false, eval a X.env) :: starEach [] X.env := by rfl) (hpl : (backTo pos (starEach [] X.env)).any (·.1) = false := by rfl) :
    PMk X (.Call (.Name nm p) [a] [] pos) (tMkE C ta) := by
  intro pins s σ H Q I h
  refine wpAny_Call_Name_kw (ld_glob I hg T.gC ?_ hd)
  refine PySem.W.callWith_K (h₀ := X.base) I.ok.mod.kin T.kC (thn (ha.run pos pins s σ H _ I h) fun us s1 hh => ?_) he hpl
  obtain ⟨vs, H1, I1, r1, y, ev, hy, q1⟩ := hh
  subst ev
  refine ⟨I1.kIn, ?_⟩
  cases r1 with
  | cons rv rn =>
    rename_i v' us'
    cases rn
    obtain ⟨ty, rfl⟩ := (show ∃ t, v' = Value.str y t from rv)
    show wpAny _ _ (call (.ref C) [.str y ty]) _ _ _
    have hlim := I1.nolimit
    have hG := I1.mod.glob.keeps I1.bk
    obtain ⟨mb, hB0, hB1⟩ := I1.mod.blt
    have hB := hB0.keeps I1.bk
    have bS : mb "super" = some (.type "super") := (hB1 "super" (by decide)).trans rfl
    obtain ⟨hp, g, dr, tk, os⟩ := s1
    refine wpAny_call (PySem.ErrX.err_made T I1.kIn hG hB mS bS hlim (by have := hr.dp; omega) hy fun h' tk' e d M => ?_)
    show MkP X pins σ Q (.ref e) ⟨h', g, dr, tk', os⟩
    obtain ⟨oe, fv, hoe, hc, hd, hdat, h1⟩ := M.obj
    have hns := M.ns
    obtain ⟨G', g1, g2⟩ := restrict h' fun b => decide (b ≠ e)
    have gk : ∀ b, b ≠ e → G'.get? b = h'.get? b := fun b hb => g1 b (decide_eq_true hb)
    have ge : G'.get? e = none := g2 e (by simp)
    have old : ∀ b o, hp.get? b = some o → G'.get? b = some o := fun b o q => (gk b (Nat.ne_of_lt (Nat.lt_of_lt_of_le (Heap.lt_size q) M.new))).trans (M.keep b o q)
    have ob : ObjOk X.prog X.w (upd H1 d (.xd [(("part" : Str), .str y)])) G' d (.xd [(("part" : Str), .str y)]) :=
      ⟨_, hns.at (fun o q => (gk d M.dne).trans q), fun f => relO_part rv f⟩
    have J : Inv X pins σ (upd H1 d (.xd [(("part" : Str), .str y)])) ⟨G', g, dr, tk', os⟩ := I1.laid (t' := tk') old M.dbig ob
    refine ⟨e, oe, fv, ⟨G', g, dr, tk', os⟩, _, .ref C, some d, rfl, J, fun b o q => ?_, ge, hoe, ⟨hc, hd⟩, hdat, h1, ?_, rfl, I1.bare, raises_own T.exC T.tyC, q1 d (I1.hok.fresh M.dbig)⟩
    · by_cases hb : b = e
      · have q' : G'.get? b = some o := q
        rw [hb, ge] at q'; cases q'
      · exact (gk b hb).symm.trans q
    · rw [upd_ne (Ne.symm M.dne)]
      exact I1.hok.fresh M.new
/-- raise C(e) -/
def tRaiseE (C : Addr) (W : WX) (ta : TA) : TS := fun _ σ H => tMkE C ta σ H fun cls d H' => W cls d σ H'
theorem ps_raiseE {a : Expr} {ta : TA} {W : WX} {p pos pos2 : Pos} {k : Nat} (hc : X.calm = true) (T : PySem.ErrX.ErrTxt X.prog X.K X.mg nm ms C fI) (hr : Room k X.A) (tk : Takes X W) (mS : X.mg "super" = none) (ha : PA X [a] ta) (hg : Gl X nm) (hd : (nm == ("__debug__" : Str)) = false)
    (he : starEach (a :: []) X.env = (false, eval a X.env) :: starEach [] X.env := by rfl) (hpl : (backTo pos (starEach [] X.env)).any (·.1) = false := by rfl) :
    PS X (.Raise (some (.Call (.Name nm p) [a] [] pos)) none pos2) (tRaiseE C W ta) := ps_raise hc tk (pmk_err T hr mS ha hg hd he hpl)
/-- x.part, x the error that the suite holds (at a; its class cls, its dict d) -/
def tPartE (C : Addr) (a : Addr) (cls : Value) (d : Option Addr) (te : TE) : TE := fun σ H Q => te σ H fun x H1 => x = .ref a ∧ cls = .ref C ∧ ∃ (dd : Addr) (v : V), d = some dd ∧ H1 dd = some (.xd [(("part" : Str), v)]) ∧ Q v H1
theorem pe_partE {a : Addr} {oe : Obj} {cls : Value} {d : Option Addr} {pn : List (Addr × Obj)} {e : Expr} {te : TE} {pos : Pos} (T : PySem.ErrX.ErrTxt X.prog X.K X.mg nm ms C fI) (hz : Zc cls d oe) (hf : ∃ vs, oe.data = .fields vs) (he : PE (X.suite a ((a, oe) :: pn)) e te)
    (hb : attributeBase e "part" X.env (eval e X.env) = eval e X.env := by rfl) :
    PE (X.suite a ((a, oe) :: pn)) (.Attribute e "part" pos) (tPartE C a cls d te) := by
  refine ⟨fun pins s σ H Q I h => ?_⟩
  refine attr_of hb (thn (he.run pins s σ H _ I h) fun u s1 hh => ?_)
  obtain ⟨x, H1, I1, rx, ex, ec, dd, v, ed, ea, q⟩ := hh
  subst ex
  obtain rfl : u = Value.ref a := rx
  subst ec
  subst ed
  obtain ⟨ha, _⟩ := I1.pin (a, oe) (List.mem_append_left _ List.mem_cons_self)
  obtain ⟨vs, hd⟩ := hf
  have hx : ObjOk X.prog X.w H1 s1.heap dd (.xd [(("part" : Str), v)]) := I1.hok dd _ ea
  obtain ⟨mA, hns, hr⟩ := hx
  obtain ⟨od, ho, hl⟩ := lookIn_ns hns
  have l : List.lookup ("part" : Str) [(("part" : Str), v)] = some v := by simp [List.lookup]
  obtain ⟨u, hu, ru⟩ := RelO.some_of (v := v) (o := mA "part") (by rw [← l]; exact hr "part")
  have J : PySem.W.InstAt s1.heap a oe C (some od) := ⟨ha, hz.1, by unfold PySem.W.notCls; rw [hd] <;> rfl, by rw [hz.2]; exact ho⟩
  exact HandSPX.exc_get I1.kIn J T.ga T.gg T.exC (PySem.W.findObj_own T.hdC T.noN rfl (by rw [hl, hu])) (handed_of ru) ⟨v, H1, I1.tok _, ru, q⟩
end
end L2
set_option Elab.async false
set_option linter.all false
set_option maxRecDepth 100000
set_option maxHeartbeats 4000000
namespace PySem
namespace ErrG
open PySem.W PySem.Calls PyProof.Rows PySem.HandSPX PySem.ErrX
/-- what the written part says of the class x at C whose maker (at fI) is the class D's -/
structure ErrC (prog : Program) (K : Frag) (mg : Str → Option Value) (x : Str) (C D fI : Addr) : Prop where
  gC : mg x = some (.ref C)
  cls : ∃ nm q N bs bm sn sub ab col dd k0 k1 k2 k3 k5, K.lookup C = some (excClassObj nm q C N bs bm true sn sub ab col dd k0 k1 k2 k3 k5 "ValueError.__new__") ∧ refsVE bm = true
  clsD : ∃ oD cd, K.lookup D = some oD ∧ oD.data = .cls cd
  sa : findIn K (.ref C) "__setattr__" = some (some (.builtin "object.__setattr__"))
  ga : findIn K (.ref C) "__getattribute__" = some (some (.builtin "BaseException.__getattribute__"))
  gg : findIn K (.ref C) "__getattr__" = some none
  iC : findIn K (.ref C) "__init__" = some (some (.ref fI))
  tC : typeIn K (.ref fI) = some (.type "function")
  kC : keepIn K (.ref C) = true
  exC : subIn K (.ref C) (.type "BaseException") = some true
  veC : subIn K (.ref C) (.type "ValueError") = some true
  tyC : typeIn K (.ref C) = some (.type "type")
  hdC : hasDictIn K C = true
  opq : nsIn K cStatics "thirdparty.any" = some none
  sup : ks_superIn K C D "__init__" = some (some (.builtin "ValueError.__init__"))
  sub : mroIn K C (.ref D) = some true
  htop : (prog.main.scope.names.lookup ("super" : Str)).isSome = false
/-- the text of the error is some value; nothing else is laid -/
def MsgOk (prog : Program) (w : World) (A : Around) (env : Env) (m : Str → Option Value) (L : Addr) (hp : Heap) (J : Expr) : Prop :=
  ∀ (h : Heap) (E Q : Value → Shared → Prop) (g : Array GenState) (d : Drawn) (t : Nat) (os : OsState), h.Ns L m → (∀ b o, hp.get? b = some o → h.get? b = some o) → (∀ v tk, Q v ⟨h, g, d, tk, os⟩) → wpAny (model prog w) A (eval J env) Q E ⟨h, g, d, t, os⟩
/-- the value has a text of bounded length -/
def FmtOk (prog : Program) (w : World) (A : Around) (hp : Heap) (v : Value) : Prop :=
  ∀ (h : Heap) (E Q : Value → Shared → Prop) (g : Array GenState) (d : Drawn) (t : Nat) (os : OsState), (∀ b o, hp.get? b = some o → h.get? b = some o) → (∀ (m : Str) u tk, m.length ≤ 1100 → Q (.str m u) ⟨h, g, d, tk, os⟩) → wpAny (model prog w) A (formatField v Str.empty) Q E ⟨h, g, d, t, os⟩
section
variable {prog : Program} {w : World} {A : Around} {hp : Heap}
theorem fmt_str {y : Str} {ty : Tok} (hy : y.length ≤ 1100) : FmtOk prog w A hp (.str y ty) := fun h E Q g d t os k q =>
  wpAny_formatField_str (q y _ _ hy) (q y _ _ hy) (by rw [sizeLine_eq]; omega)
theorem fmt_int {i : Int} {ty : Tok} (hi : i.natAbs < 10 ^ 31) : FmtOk prog w A hp (.int i ty) := fun h E Q g d t os k q => by
  have z := int_text_length_le10 (k := 31) (by decide) hi
  have l : i.natAbs.log2 < 1920 := by
    by_cases z : i.natAbs = 0
    · rw [z]; decide
    · exact (Nat.log2_lt z).mpr (Nat.lt_trans hi (by decide +kernel))
  refine wpAny_formatField_int l (q _ _ _ ?_)
  rw [ofString_length]
  omega
theorem fmt_tup {ap : Addr} {ot : Obj} {items : Array Value} {n : Nat} {ts : List Str} (hu : A.units + 2 < cLine) (hap : hp.get? ap = some ot) (hoc : ot.cls = .type "tuple") (hod : ot.data = .seq items n) (hT : ReprAll prog w items.toList ts) (hts : (tupleText ts).length ≤ 1000) : FmtOk prog w A hp (.ref ap) := fun h E Q g d t os k q =>
  fmt_tuple (s := ⟨h, g, d, t, os⟩) hu (k _ _ hap) hoc hod hT (Nat.le_trans hts (by rw [sizeLine_eq]; decide)) fun m u tk hm => q m u tk (by omega)
theorem sz_small {n : Nat} (h : n ≤ 10000) : n ≤ sizeLine := by
  rw [sizeLine_eq]
  omega
end
theorem two_sz (u v : Value) : [u, v].length ≤ sizeLine := sz_small (by show 2 ≤ 10000; decide)
def eArgs_part (p1 p2 : Pos) : Arguments := { posonlyargs := [], args := [{ arg := "self", annotation := none, pos := p1 }, { arg := "part", annotation := none, pos := p2 }], vararg := none, kwonlyargs := [], kw_defaults := [], kwarg := none, defaults := [] }
def eBody_part (J : Expr) (a1 a2 a3 a8 a9 : Pos) (q1 q2 q3 q4 : Pos) : List Stmt :=
  .Expr (.Call (.Attribute (.Call (.Name "super" a1) [] [] a2) "__init__" a3) [J] [] a8) a9 :: [.Assign [.Attribute (.Name "self" q1) "part" q2] (.Name "part" q3) q4]
def eScope_part : Scope := { kind := .function, names := [(PySem.Str.ofString "self", .local), (PySem.Str.ofString "part", .local), (PySem.Str.ofString "__class__", .free), (PySem.Str.ofString "super", .globalImplicit)], isGenerator := false, isCoroutine := false, more := [] }
structure Err_part (prog : Program) (K : Frag) (mg : Str → Option Value) (x : Str) (C D fI : Addr) (J : Expr) : Prop extends ErrC prog K mg x C D fI where
  no_part : findIn K (.ref C) "part" = some none
  fn : ∃ (oc : Value) (od : Option Addr) (doc pm : Value) (an : Option Addr) (cda cc : Addr) (ct : Value) (osl : Array (Option Value)) (qual : Str) (p1 p2 a1 a2 a3 a8 a9 q1 q2 q3 q4 : Pos)
      (ccl cl : Value) (cdd cld : Option Addr) (vs : Array Value) (ccs csl : Array (Option Value)) (file : Str) (tf : Tok),
    K.lookup fI = some ⟨oc, od, .func (ksFn "__init__" qual (eArgs_part p1 p2) (eBody_part J a1 a2 a3 a8 a9 q1 q2 q3 q4) eScope_part .none .none doc pm an (.ref cda) ct cc), osl⟩ ∧ codeIn K (.ref cda) qual = true ∧
    K.lookup cda = some ⟨ccl, cdd, .fields vs, ccs⟩ ∧ vs[2]? = some (.str file tf) ∧ ((prog.main.file : Str) == file) = true ∧ K.lookup cc = some ⟨cl, cld, .cell (some (.ref D)), csl⟩ ∧
    (a3.endLine == a8.line) = true ∧ ∃ js a7, J = .JoinedStr js a7
/-- what the maker leaves of a fresh error at x -/
structure IE_part (h h' : Heap) (x C dx t1 : Addr) (v0 : Value) : Prop where
  keep : ∀ b o, b ≠ x → h.get? b = some o → h'.get? b = some o
  obj : h'.get? x = some { cls := .ref C, dict := some dx, data := .fields #[.ref t1, .none, .none, .none, .bool false, .none] }
  dbig : h.objs.size ≤ dx
  dne : dx ≠ x
  ns : h'.Ns1 dx (fun y => if y = "part" then some v0 else none)
section
variable {prog : Program} {w : World} {A : Around} {E : Value → Shared → Prop} {R : Result → Shared → Prop} {s : Shared} {K : Frag} {mg mb : Str → Option Value} {nmx : Str} {C D fI : Addr} {J : Expr}
theorem init_part (T : Err_part prog K mg nmx C D fI J) {x t0 : Addr} {v0 : Value} (X : K.In s.heap) (hG : s.heap.Ns mainGlobals mg) (hB : s.heap.Ns builtinsNs mb) (mS : mg "super" = none) (bS : mb "super" = some (.type "super"))
    (hlim : s.heap.NoLimit) (hx : s.heap.get? x = some (excO C t0)) (hnx : K.lookup x = none) (hroom : A.depth < recursionLimit)
    (hJ : ∀ qual cda cc L, MsgOk prog w (A.deeper (ksEnv qual eScope_part L fI (.ref cda) cc)) (ksEnv qual eScope_part L fI (.ref cda) cc) (fun z => List.lookup z [((("part" : Str)), v0), ("self", Value.ref x)]) L s.heap J)
    (hq : ∀ h' tk dx t1, IE_part s.heap h' x C dx t1 v0 → R (.ok (.ret .none)) { s with heap := h', toks := tk }) :
    codeAny (model prog w) A (.call (.ref fI) ⟨[.ref x, v0], []⟩) R s := by
  obtain ⟨oc, od, doc, pm, an, cda, cc, ct, osl, qual, p1, p2, a1, a2, a3, a8, a9, q1, q2, q3, q4, ccl, cl, cdd, cld, vs, ccs, csl, file, tf, ho, hcd, hcda, hvs, hfile, hcell, hline, js, a7, rfl⟩ := T.fn
  obtain ⟨nm, q, N, bs, bm, sn, sub, ab, col, dd, k0, k1, k2, k3, k5, hC, hbm⟩ := T.cls
  obtain ⟨oD, cdD, hD, hDd⟩ := T.clsD
  have hcl : clsIn K C = some { name := nm, bases := bs, mro := .ref C :: bm, ns := N, qualname := q, hasDict := true, slotNames := sn, subclasses := sub, abstract := ab, collection := col, hasDel := false } := by unfold clsIn; rw [hC] <;> rfl
  have hsup : alongIn K "__init__" ((((Value.ref C :: bm)).dropWhile (· != .ref D)).drop 1) = some (some (.builtin "ValueError.__init__")) := by
    have z := T.sup
    unfold ks_superIn at z
    rw [hcl] at z
    exact z
  refine ks_codeAny_call_defAt (fd := ksFn "__init__" qual (eArgs_part p1 p2) (eBody_part (.JoinedStr js a7) a1 a2 a3 a8 a9 q1 q2 q3 q4) eScope_part .none .none doc pm an (.ref cda) ct cc) (body := eBody_part (.JoinedStr js a7) a1 a2 a3 a8 a9 q1 q2 q3 q4)
    (binds := [("self", .ref x), ("part", v0)]) hroom (X _ _ ho) rfl hlim (codeRec_of X hcd) rfl (BindsTo.of_eq (by first | rfl | with_unfolding_all rfl)) (show ∀ x ∈ eScope_part.names, x.2 ≠ .cell by decide) (fun z hz => by
      rcases List.mem_cons.mp hz with rfl | hz
      · rfl
      rcases List.mem_cons.mp hz with rfl | hz
      · rfl
      cases hz) (fun h₁ hn k => ?_) rfl rfl rfl
  obtain ⟨hp, g, d, t, os⟩ := s
  have X₁ : K.In h₁ := X.keeps k
  have hx₁ := k _ _ hx
  have hC₁ := X₁ _ _ hC
  have hD₁ := X₁ _ _ hD
  show _root_.PySem.wpAt _ _ (.func _ (ksEnv qual eScope_part hp.objs.size fI (.ref cda) cc)) (execs _ (ksEnv qual eScope_part hp.objs.size fI (.ref cda) cc)) _ _ _
  have nxC : x ≠ C := fun z => by
    rw [z, hC] at hnx
    cases hnx
  have hxL : hp.objs.size ≠ x := Nat.ne_of_gt (Heap.lt_size hx)
  refine ks_wpAt_execs_cons (ks_wpAt_Expr_any (ks_wpAt_MethodCall (pl := do return (← importBound (.Call (.Name "super" a1) [] [] a2) (ksEnv qual eScope_part hp.objs.size fI (.ref cda) cc)).getD true) ?_ (call_tree hline)))
  refine ks_wpAt_super_base (env := ksEnv qual eScope_part hp.objs.size fI (.ref cda) cc) (file := file) (tf := tf) (vs := vs) rfl rfl (by decide) rfl (X₁ _ _ ho) rfl rfl rfl (X₁ _ _ hcda) rfl hvs hfile T.htop ?_
  refine ks_loadName_global rfl rfl (loadGlobal_builtin (env := ksEnv qual eScope_part hp.objs.size fI (.ref cda) cc) (mg := mg) (mb := mb) (hG.keeps k) mS (hB.keeps k) bS ⟨rfl, ?_⟩)
  refine wpAny_loadName_free rfl rfl rfl ⟨_, X₁ _ _ hcell, rfl⟩ ?_
  refine wpAny_loadName_local rfl rfl hn rfl ?_
  refine ks_wpAny_isType_cls hD₁ hDd ⟨rfl, ?_⟩
  refine ks_wpAny_call_super hD₁ hDd hx₁ rfl (fun c e => by cases e) (looks_mroIn X₁ T.sub) (fun h₂ hso k₂ => ?_)
  have X₂ : K.In h₂ := X₁.keeps k₂
  have hx₂ := k₂ _ _ hx₁
  have I₂ : InstAt h₂ x (excO C t0) C none := ⟨hx₂, rfl, rfl, trivial⟩
  refine kxs_getMethod kxs_ValueError hso (looks_opaque X₂ T.opq) (l₀ := .ref C :: bm) (fun A Q E s k q => wpAny_bind ((looks_clsIn X₂ hcl) A _ E s k (wpAny_pure q))) rfl X₂ hsup (I₂.type.andThen (looks_subIn X₂ T.veC)) nxC (by decide) ?_
  have k₃ : ∀ b o, h₂.get? b = some o → (h₂.push (kxs_mw "ValueError.__init__" x)).get? b = some o := fun b o e => Heap.get?_push_of_some _ e
  have hmw : (h₂.push (kxs_mw "ValueError.__init__" x)).get? h₂.objs.size = some (kxs_mw "ValueError.__init__" x) := Heap.get?_push_at rfl rfl
  refine kxs_callWith (i := "ValueError.__init__") (x := x) (by rfl) ?_
  refine evalArgs_plain (spliced_cons ?_)
  have hn₃ : (h₂.push (kxs_mw "ValueError.__init__" x)).Ns hp.objs.size (fun z => List.lookup z [((("part" : Str)), v0), ("self", Value.ref x)]) := (hn.keeps k₂).keeps k₃
  have kp : ∀ b o, hp.get? b = some o → (h₂.push (kxs_mw "ValueError.__init__" x)).get? b = some o := fun b o e => k₃ _ _ (k₂ _ _ (k b o e))
  refine hJ qual cda cc _ _ _ _ _ _ _ _ hn₃ kp fun v tk => ?_
  refine spliced_nil ⟨hmw, ?_⟩
  refine call_mw (h := h₂.push (kxs_mw "ValueError.__init__" x)) (X₂.keeps k₃ _ _ hC) (k₃ _ _ hx₂) hmw (one_size _) (fun h₄ t1 k₄ hx₄ => ?_)
  have keep4 : ∀ b o, b ≠ x → hp.get? b = some o → h₄.get? b = some o := fun b o hb e => k₄ b o hb (kp b o e)
  have X₄ : K.In h₄ := fun b o e => k₄ b o (fun z => by rw [z, hnx] at e; cases e) (k₃ _ _ (X₂ _ _ e))
  have hn₄ : h₄.Ns hp.objs.size (fun z => List.lookup z [((("part" : Str)), v0), ("self", Value.ref x)]) := by
    obtain ⟨oL, es, ep, e1, r⟩ := hn₃
    exact ⟨oL, es, ep, k₄ _ _ hxL e1, r⟩
  have big : hp.objs.size ≤ h₄.objs.size := by
    obtain ⟨oL, es, ep, e1, r⟩ := hn₄
    exact Nat.le_of_lt (Heap.lt_size e1)
  refine wpAt_of_wpAny ?_
  refine wpAny_execs_cons (plainObj_wpAny_Assign_Attribute ?_)
  refine ldN (v := v0) hn₄ rfl (ldN (v := .ref x) hn₄ rfl ?_)
  refine set_plain X₄ (ox := excO C t1) (od := none) ⟨hx₄, rfl, rfl, trivial⟩ T.sa ?_
  refine exc_osa X₄ hx₄ hcl (show refsVE (.ref C :: bm) = true from hbm) rfl T.no_part (fun h₅ tk₅ dx k₅ dn dne hx₅ hn₅ => ?_)
  exact wpAny_execs_nil (hq h₅ tk₅ dx t1 ⟨fun b o hb e => k₅ b o hb (keep4 b o hb e), hx₅, Nat.le_trans big dn, dne, hn₅⟩)
/-- a made error -/
structure Made_part (h h' : Heap) (e C d : Addr) (v0 : Value) : Prop where
  keep : ∀ b o, h.get? b = some o → h'.get? b = some o
  new : h.objs.size ≤ e
  obj : ∃ oe vs, h'.get? e = some oe ∧ oe.cls = .ref C ∧ oe.dict = some d ∧ oe.data = .fields vs ∧ vs[1]? = some .none
  dbig : h.objs.size ≤ d
  dne : d ≠ e
  ns : h'.Ns1 d (fun y => if y = "part" then some v0 else none)
theorem made_part (T : Err_part prog K mg nmx C D fI J) {v0 : Value} (X : K.In s.heap) (hG : s.heap.Ns mainGlobals mg) (hB : s.heap.Ns builtinsNs mb) (mS : mg "super" = none) (bS : mb "super" = some (.type "super"))
    (hlim : s.heap.NoLimit) (hroom : A.depth + 1 < recursionLimit) (hu : A.units + 200 < cLine)
    (hJ : ∀ (A' : Around) qual cda cc L x hp, A'.units + 5 < cLine → (∀ b o, s.heap.get? b = some o → hp.get? b = some o) → MsgOk prog w A' (ksEnv qual eScope_part L fI (.ref cda) cc) (fun z => List.lookup z [((("part" : Str)), v0), ("self", Value.ref x)]) L hp J)
    (hq : ∀ h' tk e d, Made_part s.heap h' e C d v0 → R (.ok (.ret (.ref e))) { s with heap := h', toks := tk }) :
    codeAny (model prog w) A (.call (.ref C) ⟨[v0], []⟩) R s := by
  obtain ⟨nm, q, N, bs, bm, sn, sub, ab, col, dd, k0, k1, k2, k3, k5, hC, hbm⟩ := T.cls
  obtain ⟨hp, g, dr, tk, os⟩ := s
  have k : ∀ b o, hp.get? b = some o → ((hp.push (kdv_tup [v0])).push (excO C hp.objs.size)).get? b = some o := fun b o e => Heap.get?_push_of_some _ (Heap.get?_push_of_some _ e)
  have hget : ((hp.push (kdv_tup [v0])).push (excO C hp.objs.size)).get? (hp.objs.size + 1) = some (excO C hp.objs.size) := by heap_get
  have hnx : K.lookup (hp.objs.size + 1) = none := by
    cases e : K.lookup (hp.objs.size + 1) with
    | none => rfl
    | some o =>
      have z : hp.get? (hp.objs.size + 1) = some o := X _ _ e
      exact absurd (Nat.lt_of_succ_lt (Heap.lt_size z)) (Nat.lt_irrefl _)
  refine call_own F.excBase_ValueError (fun X => refsVE_contains X bm hbm) (X _ _ hC) (looks_findIn X T.iC) (fun self => bind_fn X self T.tC) (one_size _) ?_
  refine init_part (s := ⟨(hp.push (kdv_tup [v0])).push (excO C hp.objs.size), g, dr, tk, os⟩) T (X.keeps k) (hG.keeps k) (hB.keeps k) mS bS (hlim.keeps k) hget hnx ?_ ?_ fun h' tk' dx t1 ⟨k', hx, dn, dne, hns⟩ => ?_
  · show A.depth + 1 < recursionLimit
    exact hroom
  · intro qual cda cc L
    refine hJ _ qual cda cc L _ _ ?_ k
    show A.units + 1 + 3 + 5 < cLine
    omega
  · have old : ∀ b o, hp.get? b = some o → h'.get? b = some o := fun b o e => k' b o (Nat.ne_of_lt (Nat.lt_succ_of_lt (Heap.lt_size e))) (k b o e)
    have z : hp.objs.size + 1 + 1 ≤ dx := by
      first
        | (simpa only [Heap.size_push] using dn)
        | exact dn
        | (have q := dn; rw [Heap.size_push, Heap.size_push] at q; exact q)
    exact ⟨rfl, hq h' tk' (hp.objs.size + 1) dx ⟨old, Nat.le_succ _, ⟨_, _, hx, rfl, rfl, rfl, rfl⟩, Nat.le_trans (Nat.le_trans (Nat.le_succ _) (Nat.le_succ _)) z, dne, hns⟩⟩
end
def eArgs_line (p1 p2 : Pos) : Arguments := { posonlyargs := [], args := [{ arg := "self", annotation := none, pos := p1 }, { arg := "line", annotation := none, pos := p2 }], vararg := none, kwonlyargs := [], kw_defaults := [], kwarg := none, defaults := [] }
def eBody_line (J : Expr) (a1 a2 a3 a8 a9 : Pos) (q1 q2 q3 q4 : Pos) : List Stmt :=
  .Expr (.Call (.Attribute (.Call (.Name "super" a1) [] [] a2) "__init__" a3) [J] [] a8) a9 :: [.Assign [.Attribute (.Name "self" q1) "line" q2] (.Name "line" q3) q4]
def eScope_line : Scope := { kind := .function, names := [(PySem.Str.ofString "self", .local), (PySem.Str.ofString "line", .local), (PySem.Str.ofString "__class__", .free), (PySem.Str.ofString "super", .globalImplicit)], isGenerator := false, isCoroutine := false, more := [] }
structure Err_line (prog : Program) (K : Frag) (mg : Str → Option Value) (x : Str) (C D fI : Addr) (J : Expr) : Prop extends ErrC prog K mg x C D fI where
  no_line : findIn K (.ref C) "line" = some none
  fn : ∃ (oc : Value) (od : Option Addr) (doc pm : Value) (an : Option Addr) (cda cc : Addr) (ct : Value) (osl : Array (Option Value)) (qual : Str) (p1 p2 a1 a2 a3 a8 a9 q1 q2 q3 q4 : Pos)
      (ccl cl : Value) (cdd cld : Option Addr) (vs : Array Value) (ccs csl : Array (Option Value)) (file : Str) (tf : Tok),
    K.lookup fI = some ⟨oc, od, .func (ksFn "__init__" qual (eArgs_line p1 p2) (eBody_line J a1 a2 a3 a8 a9 q1 q2 q3 q4) eScope_line .none .none doc pm an (.ref cda) ct cc), osl⟩ ∧ codeIn K (.ref cda) qual = true ∧
    K.lookup cda = some ⟨ccl, cdd, .fields vs, ccs⟩ ∧ vs[2]? = some (.str file tf) ∧ ((prog.main.file : Str) == file) = true ∧ K.lookup cc = some ⟨cl, cld, .cell (some (.ref D)), csl⟩ ∧
    (a3.endLine == a8.line) = true ∧ ∃ js a7, J = .JoinedStr js a7
/-- what the maker leaves of a fresh error at x -/
structure IE_line (h h' : Heap) (x C dx t1 : Addr) (v0 : Value) : Prop where
  keep : ∀ b o, b ≠ x → h.get? b = some o → h'.get? b = some o
  obj : h'.get? x = some { cls := .ref C, dict := some dx, data := .fields #[.ref t1, .none, .none, .none, .bool false, .none] }
  dbig : h.objs.size ≤ dx
  dne : dx ≠ x
  ns : h'.Ns1 dx (fun y => if y = "line" then some v0 else none)
section
variable {prog : Program} {w : World} {A : Around} {E : Value → Shared → Prop} {R : Result → Shared → Prop} {s : Shared} {K : Frag} {mg mb : Str → Option Value} {nmx : Str} {C D fI : Addr} {J : Expr}
theorem init_line (T : Err_line prog K mg nmx C D fI J) {x t0 : Addr} {v0 : Value} (X : K.In s.heap) (hG : s.heap.Ns mainGlobals mg) (hB : s.heap.Ns builtinsNs mb) (mS : mg "super" = none) (bS : mb "super" = some (.type "super"))
    (hlim : s.heap.NoLimit) (hx : s.heap.get? x = some (excO C t0)) (hnx : K.lookup x = none) (hroom : A.depth < recursionLimit)
    (hJ : ∀ qual cda cc L, MsgOk prog w (A.deeper (ksEnv qual eScope_line L fI (.ref cda) cc)) (ksEnv qual eScope_line L fI (.ref cda) cc) (fun z => List.lookup z [((("line" : Str)), v0), ("self", Value.ref x)]) L s.heap J)
    (hq : ∀ h' tk dx t1, IE_line s.heap h' x C dx t1 v0 → R (.ok (.ret .none)) { s with heap := h', toks := tk }) :
    codeAny (model prog w) A (.call (.ref fI) ⟨[.ref x, v0], []⟩) R s := by
  obtain ⟨oc, od, doc, pm, an, cda, cc, ct, osl, qual, p1, p2, a1, a2, a3, a8, a9, q1, q2, q3, q4, ccl, cl, cdd, cld, vs, ccs, csl, file, tf, ho, hcd, hcda, hvs, hfile, hcell, hline, js, a7, rfl⟩ := T.fn
  obtain ⟨nm, q, N, bs, bm, sn, sub, ab, col, dd, k0, k1, k2, k3, k5, hC, hbm⟩ := T.cls
  obtain ⟨oD, cdD, hD, hDd⟩ := T.clsD
  have hcl : clsIn K C = some { name := nm, bases := bs, mro := .ref C :: bm, ns := N, qualname := q, hasDict := true, slotNames := sn, subclasses := sub, abstract := ab, collection := col, hasDel := false } := by unfold clsIn; rw [hC] <;> rfl
  have hsup : alongIn K "__init__" ((((Value.ref C :: bm)).dropWhile (· != .ref D)).drop 1) = some (some (.builtin "ValueError.__init__")) := by
    have z := T.sup
    unfold ks_superIn at z
    rw [hcl] at z
    exact z
  refine ks_codeAny_call_defAt (fd := ksFn "__init__" qual (eArgs_line p1 p2) (eBody_line (.JoinedStr js a7) a1 a2 a3 a8 a9 q1 q2 q3 q4) eScope_line .none .none doc pm an (.ref cda) ct cc) (body := eBody_line (.JoinedStr js a7) a1 a2 a3 a8 a9 q1 q2 q3 q4)
    (binds := [("self", .ref x), ("line", v0)]) hroom (X _ _ ho) rfl hlim (codeRec_of X hcd) rfl (BindsTo.of_eq (by first | rfl | with_unfolding_all rfl)) (show ∀ x ∈ eScope_line.names, x.2 ≠ .cell by decide) (fun z hz => by
      rcases List.mem_cons.mp hz with rfl | hz
      · rfl
      rcases List.mem_cons.mp hz with rfl | hz
      · rfl
      cases hz) (fun h₁ hn k => ?_) rfl rfl rfl
  obtain ⟨hp, g, d, t, os⟩ := s
  have X₁ : K.In h₁ := X.keeps k
  have hx₁ := k _ _ hx
  have hC₁ := X₁ _ _ hC
  have hD₁ := X₁ _ _ hD
  show _root_.PySem.wpAt _ _ (.func _ (ksEnv qual eScope_line hp.objs.size fI (.ref cda) cc)) (execs _ (ksEnv qual eScope_line hp.objs.size fI (.ref cda) cc)) _ _ _
  have nxC : x ≠ C := fun z => by
    rw [z, hC] at hnx
    cases hnx
  have hxL : hp.objs.size ≠ x := Nat.ne_of_gt (Heap.lt_size hx)
  refine ks_wpAt_execs_cons (ks_wpAt_Expr_any (ks_wpAt_MethodCall (pl := do return (← importBound (.Call (.Name "super" a1) [] [] a2) (ksEnv qual eScope_line hp.objs.size fI (.ref cda) cc)).getD true) ?_ (call_tree hline)))
  refine ks_wpAt_super_base (env := ksEnv qual eScope_line hp.objs.size fI (.ref cda) cc) (file := file) (tf := tf) (vs := vs) rfl rfl (by decide) rfl (X₁ _ _ ho) rfl rfl rfl (X₁ _ _ hcda) rfl hvs hfile T.htop ?_
  refine ks_loadName_global rfl rfl (loadGlobal_builtin (env := ksEnv qual eScope_line hp.objs.size fI (.ref cda) cc) (mg := mg) (mb := mb) (hG.keeps k) mS (hB.keeps k) bS ⟨rfl, ?_⟩)
  refine wpAny_loadName_free rfl rfl rfl ⟨_, X₁ _ _ hcell, rfl⟩ ?_
  refine wpAny_loadName_local rfl rfl hn rfl ?_
  refine ks_wpAny_isType_cls hD₁ hDd ⟨rfl, ?_⟩
  refine ks_wpAny_call_super hD₁ hDd hx₁ rfl (fun c e => by cases e) (looks_mroIn X₁ T.sub) (fun h₂ hso k₂ => ?_)
  have X₂ : K.In h₂ := X₁.keeps k₂
  have hx₂ := k₂ _ _ hx₁
  have I₂ : InstAt h₂ x (excO C t0) C none := ⟨hx₂, rfl, rfl, trivial⟩
  refine kxs_getMethod kxs_ValueError hso (looks_opaque X₂ T.opq) (l₀ := .ref C :: bm) (fun A Q E s k q => wpAny_bind ((looks_clsIn X₂ hcl) A _ E s k (wpAny_pure q))) rfl X₂ hsup (I₂.type.andThen (looks_subIn X₂ T.veC)) nxC (by decide) ?_
  have k₃ : ∀ b o, h₂.get? b = some o → (h₂.push (kxs_mw "ValueError.__init__" x)).get? b = some o := fun b o e => Heap.get?_push_of_some _ e
  have hmw : (h₂.push (kxs_mw "ValueError.__init__" x)).get? h₂.objs.size = some (kxs_mw "ValueError.__init__" x) := Heap.get?_push_at rfl rfl
  refine kxs_callWith (i := "ValueError.__init__") (x := x) (by rfl) ?_
  refine evalArgs_plain (spliced_cons ?_)
  have hn₃ : (h₂.push (kxs_mw "ValueError.__init__" x)).Ns hp.objs.size (fun z => List.lookup z [((("line" : Str)), v0), ("self", Value.ref x)]) := (hn.keeps k₂).keeps k₃
  have kp : ∀ b o, hp.get? b = some o → (h₂.push (kxs_mw "ValueError.__init__" x)).get? b = some o := fun b o e => k₃ _ _ (k₂ _ _ (k b o e))
  refine hJ qual cda cc _ _ _ _ _ _ _ _ hn₃ kp fun v tk => ?_
  refine spliced_nil ⟨hmw, ?_⟩
  refine call_mw (h := h₂.push (kxs_mw "ValueError.__init__" x)) (X₂.keeps k₃ _ _ hC) (k₃ _ _ hx₂) hmw (one_size _) (fun h₄ t1 k₄ hx₄ => ?_)
  have keep4 : ∀ b o, b ≠ x → hp.get? b = some o → h₄.get? b = some o := fun b o hb e => k₄ b o hb (kp b o e)
  have X₄ : K.In h₄ := fun b o e => k₄ b o (fun z => by rw [z, hnx] at e; cases e) (k₃ _ _ (X₂ _ _ e))
  have hn₄ : h₄.Ns hp.objs.size (fun z => List.lookup z [((("line" : Str)), v0), ("self", Value.ref x)]) := by
    obtain ⟨oL, es, ep, e1, r⟩ := hn₃
    exact ⟨oL, es, ep, k₄ _ _ hxL e1, r⟩
  have big : hp.objs.size ≤ h₄.objs.size := by
    obtain ⟨oL, es, ep, e1, r⟩ := hn₄
    exact Nat.le_of_lt (Heap.lt_size e1)
  refine wpAt_of_wpAny ?_
  refine wpAny_execs_cons (plainObj_wpAny_Assign_Attribute ?_)
  refine ldN (v := v0) hn₄ rfl (ldN (v := .ref x) hn₄ rfl ?_)
  refine set_plain X₄ (ox := excO C t1) (od := none) ⟨hx₄, rfl, rfl, trivial⟩ T.sa ?_
  refine exc_osa X₄ hx₄ hcl (show refsVE (.ref C :: bm) = true from hbm) rfl T.no_line (fun h₅ tk₅ dx k₅ dn dne hx₅ hn₅ => ?_)
  exact wpAny_execs_nil (hq h₅ tk₅ dx t1 ⟨fun b o hb e => k₅ b o hb (keep4 b o hb e), hx₅, Nat.le_trans big dn, dne, hn₅⟩)
/-- a made error -/
structure Made_line (h h' : Heap) (e C d : Addr) (v0 : Value) : Prop where
  keep : ∀ b o, h.get? b = some o → h'.get? b = some o
  new : h.objs.size ≤ e
  obj : ∃ oe vs, h'.get? e = some oe ∧ oe.cls = .ref C ∧ oe.dict = some d ∧ oe.data = .fields vs ∧ vs[1]? = some .none
  dbig : h.objs.size ≤ d
  dne : d ≠ e
  ns : h'.Ns1 d (fun y => if y = "line" then some v0 else none)
theorem made_line (T : Err_line prog K mg nmx C D fI J) {v0 : Value} (X : K.In s.heap) (hG : s.heap.Ns mainGlobals mg) (hB : s.heap.Ns builtinsNs mb) (mS : mg "super" = none) (bS : mb "super" = some (.type "super"))
    (hlim : s.heap.NoLimit) (hroom : A.depth + 1 < recursionLimit) (hu : A.units + 200 < cLine)
    (hJ : ∀ (A' : Around) qual cda cc L x hp, A'.units + 5 < cLine → (∀ b o, s.heap.get? b = some o → hp.get? b = some o) → MsgOk prog w A' (ksEnv qual eScope_line L fI (.ref cda) cc) (fun z => List.lookup z [((("line" : Str)), v0), ("self", Value.ref x)]) L hp J)
    (hq : ∀ h' tk e d, Made_line s.heap h' e C d v0 → R (.ok (.ret (.ref e))) { s with heap := h', toks := tk }) :
    codeAny (model prog w) A (.call (.ref C) ⟨[v0], []⟩) R s := by
  obtain ⟨nm, q, N, bs, bm, sn, sub, ab, col, dd, k0, k1, k2, k3, k5, hC, hbm⟩ := T.cls
  obtain ⟨hp, g, dr, tk, os⟩ := s
  have k : ∀ b o, hp.get? b = some o → ((hp.push (kdv_tup [v0])).push (excO C hp.objs.size)).get? b = some o := fun b o e => Heap.get?_push_of_some _ (Heap.get?_push_of_some _ e)
  have hget : ((hp.push (kdv_tup [v0])).push (excO C hp.objs.size)).get? (hp.objs.size + 1) = some (excO C hp.objs.size) := by heap_get
  have hnx : K.lookup (hp.objs.size + 1) = none := by
    cases e : K.lookup (hp.objs.size + 1) with
    | none => rfl
    | some o =>
      have z : hp.get? (hp.objs.size + 1) = some o := X _ _ e
      exact absurd (Nat.lt_of_succ_lt (Heap.lt_size z)) (Nat.lt_irrefl _)
  refine call_own F.excBase_ValueError (fun X => refsVE_contains X bm hbm) (X _ _ hC) (looks_findIn X T.iC) (fun self => bind_fn X self T.tC) (one_size _) ?_
  refine init_line (s := ⟨(hp.push (kdv_tup [v0])).push (excO C hp.objs.size), g, dr, tk, os⟩) T (X.keeps k) (hG.keeps k) (hB.keeps k) mS bS (hlim.keeps k) hget hnx ?_ ?_ fun h' tk' dx t1 ⟨k', hx, dn, dne, hns⟩ => ?_
  · show A.depth + 1 < recursionLimit
    exact hroom
  · intro qual cda cc L
    refine hJ _ qual cda cc L _ _ ?_ k
    show A.units + 1 + 3 + 5 < cLine
    omega
  · have old : ∀ b o, hp.get? b = some o → h'.get? b = some o := fun b o e => k' b o (Nat.ne_of_lt (Nat.lt_succ_of_lt (Heap.lt_size e))) (k b o e)
    have z : hp.objs.size + 1 + 1 ≤ dx := by
      first
        | (simpa only [Heap.size_push] using dn)
        | exact dn
        | (have q := dn; rw [Heap.size_push, Heap.size_push] at q; exact q)
    exact ⟨rfl, hq h' tk' (hp.objs.size + 1) dx ⟨old, Nat.le_succ _, ⟨_, _, hx, rfl, rfl, rfl, rfl⟩, Nat.le_trans (Nat.le_trans (Nat.le_succ _) (Nat.le_succ _)) z, dne, hns⟩⟩
end
def eArgs_limit (p1 p2 : Pos) : Arguments := { posonlyargs := [], args := [{ arg := "self", annotation := none, pos := p1 }, { arg := "limit", annotation := none, pos := p2 }], vararg := none, kwonlyargs := [], kw_defaults := [], kwarg := none, defaults := [] }
def eBody_limit (J : Expr) (a1 a2 a3 a8 a9 : Pos) (q1 q2 q3 q4 : Pos) : List Stmt :=
  .Expr (.Call (.Attribute (.Call (.Name "super" a1) [] [] a2) "__init__" a3) [J] [] a8) a9 :: [.Assign [.Attribute (.Name "self" q1) "limit" q2] (.Name "limit" q3) q4]
def eScope_limit : Scope := { kind := .function, names := [(PySem.Str.ofString "self", .local), (PySem.Str.ofString "limit", .local), (PySem.Str.ofString "__class__", .free), (PySem.Str.ofString "super", .globalImplicit)], isGenerator := false, isCoroutine := false, more := [] }
structure Err_limit (prog : Program) (K : Frag) (mg : Str → Option Value) (x : Str) (C D fI : Addr) (J : Expr) : Prop extends ErrC prog K mg x C D fI where
  no_limit : findIn K (.ref C) "limit" = some none
  fn : ∃ (oc : Value) (od : Option Addr) (doc pm : Value) (an : Option Addr) (cda cc : Addr) (ct : Value) (osl : Array (Option Value)) (qual : Str) (p1 p2 a1 a2 a3 a8 a9 q1 q2 q3 q4 : Pos)
      (ccl cl : Value) (cdd cld : Option Addr) (vs : Array Value) (ccs csl : Array (Option Value)) (file : Str) (tf : Tok),
    K.lookup fI = some ⟨oc, od, .func (ksFn "__init__" qual (eArgs_limit p1 p2) (eBody_limit J a1 a2 a3 a8 a9 q1 q2 q3 q4) eScope_limit .none .none doc pm an (.ref cda) ct cc), osl⟩ ∧ codeIn K (.ref cda) qual = true ∧
    K.lookup cda = some ⟨ccl, cdd, .fields vs, ccs⟩ ∧ vs[2]? = some (.str file tf) ∧ ((prog.main.file : Str) == file) = true ∧ K.lookup cc = some ⟨cl, cld, .cell (some (.ref D)), csl⟩ ∧
    (a3.endLine == a8.line) = true ∧ ∃ js a7, J = .JoinedStr js a7
/-- what the maker leaves of a fresh error at x -/
structure IE_limit (h h' : Heap) (x C dx t1 : Addr) (v0 : Value) : Prop where
  keep : ∀ b o, b ≠ x → h.get? b = some o → h'.get? b = some o
  obj : h'.get? x = some { cls := .ref C, dict := some dx, data := .fields #[.ref t1, .none, .none, .none, .bool false, .none] }
  dbig : h.objs.size ≤ dx
  dne : dx ≠ x
  ns : h'.Ns1 dx (fun y => if y = "limit" then some v0 else none)
section
variable {prog : Program} {w : World} {A : Around} {E : Value → Shared → Prop} {R : Result → Shared → Prop} {s : Shared} {K : Frag} {mg mb : Str → Option Value} {nmx : Str} {C D fI : Addr} {J : Expr}
theorem init_limit (T : Err_limit prog K mg nmx C D fI J) {x t0 : Addr} {v0 : Value} (X : K.In s.heap) (hG : s.heap.Ns mainGlobals mg) (hB : s.heap.Ns builtinsNs mb) (mS : mg "super" = none) (bS : mb "super" = some (.type "super"))
    (hlim : s.heap.NoLimit) (hx : s.heap.get? x = some (excO C t0)) (hnx : K.lookup x = none) (hroom : A.depth < recursionLimit)
    (hJ : ∀ qual cda cc L, MsgOk prog w (A.deeper (ksEnv qual eScope_limit L fI (.ref cda) cc)) (ksEnv qual eScope_limit L fI (.ref cda) cc) (fun z => List.lookup z [((("limit" : Str)), v0), ("self", Value.ref x)]) L s.heap J)
    (hq : ∀ h' tk dx t1, IE_limit s.heap h' x C dx t1 v0 → R (.ok (.ret .none)) { s with heap := h', toks := tk }) :
    codeAny (model prog w) A (.call (.ref fI) ⟨[.ref x, v0], []⟩) R s := by
  obtain ⟨oc, od, doc, pm, an, cda, cc, ct, osl, qual, p1, p2, a1, a2, a3, a8, a9, q1, q2, q3, q4, ccl, cl, cdd, cld, vs, ccs, csl, file, tf, ho, hcd, hcda, hvs, hfile, hcell, hline, js, a7, rfl⟩ := T.fn
  obtain ⟨nm, q, N, bs, bm, sn, sub, ab, col, dd, k0, k1, k2, k3, k5, hC, hbm⟩ := T.cls
  obtain ⟨oD, cdD, hD, hDd⟩ := T.clsD
  have hcl : clsIn K C = some { name := nm, bases := bs, mro := .ref C :: bm, ns := N, qualname := q, hasDict := true, slotNames := sn, subclasses := sub, abstract := ab, collection := col, hasDel := false } := by unfold clsIn; rw [hC] <;> rfl
  have hsup : alongIn K "__init__" ((((Value.ref C :: bm)).dropWhile (· != .ref D)).drop 1) = some (some (.builtin "ValueError.__init__")) := by
    have z := T.sup
    unfold ks_superIn at z
    rw [hcl] at z
    exact z
  refine ks_codeAny_call_defAt (fd := ksFn "__init__" qual (eArgs_limit p1 p2) (eBody_limit (.JoinedStr js a7) a1 a2 a3 a8 a9 q1 q2 q3 q4) eScope_limit .none .none doc pm an (.ref cda) ct cc) (body := eBody_limit (.JoinedStr js a7) a1 a2 a3 a8 a9 q1 q2 q3 q4)
    (binds := [("self", .ref x), ("limit", v0)]) hroom (X _ _ ho) rfl hlim (codeRec_of X hcd) rfl (BindsTo.of_eq (by first | rfl | with_unfolding_all rfl)) (show ∀ x ∈ eScope_limit.names, x.2 ≠ .cell by decide) (fun z hz => by
      rcases List.mem_cons.mp hz with rfl | hz
      · rfl
      rcases List.mem_cons.mp hz with rfl | hz
      · rfl
      cases hz) (fun h₁ hn k => ?_) rfl rfl rfl
  obtain ⟨hp, g, d, t, os⟩ := s
  have X₁ : K.In h₁ := X.keeps k
  have hx₁ := k _ _ hx
  have hC₁ := X₁ _ _ hC
  have hD₁ := X₁ _ _ hD
  show _root_.PySem.wpAt _ _ (.func _ (ksEnv qual eScope_limit hp.objs.size fI (.ref cda) cc)) (execs _ (ksEnv qual eScope_limit hp.objs.size fI (.ref cda) cc)) _ _ _
  have nxC : x ≠ C := fun z => by
    rw [z, hC] at hnx
    cases hnx
  have hxL : hp.objs.size ≠ x := Nat.ne_of_gt (Heap.lt_size hx)
  refine ks_wpAt_execs_cons (ks_wpAt_Expr_any (ks_wpAt_MethodCall (pl := do return (← importBound (.Call (.Name "super" a1) [] [] a2) (ksEnv qual eScope_limit hp.objs.size fI (.ref cda) cc)).getD true) ?_ (call_tree hline)))
  refine ks_wpAt_super_base (env := ksEnv qual eScope_limit hp.objs.size fI (.ref cda) cc) (file := file) (tf := tf) (vs := vs) rfl rfl (by decide) rfl (X₁ _ _ ho) rfl rfl rfl (X₁ _ _ hcda) rfl hvs hfile T.htop ?_
  refine ks_loadName_global rfl rfl (loadGlobal_builtin (env := ksEnv qual eScope_limit hp.objs.size fI (.ref cda) cc) (mg := mg) (mb := mb) (hG.keeps k) mS (hB.keeps k) bS ⟨rfl, ?_⟩)
  refine wpAny_loadName_free rfl rfl rfl ⟨_, X₁ _ _ hcell, rfl⟩ ?_
  refine wpAny_loadName_local rfl rfl hn rfl ?_
  refine ks_wpAny_isType_cls hD₁ hDd ⟨rfl, ?_⟩
  refine ks_wpAny_call_super hD₁ hDd hx₁ rfl (fun c e => by cases e) (looks_mroIn X₁ T.sub) (fun h₂ hso k₂ => ?_)
  have X₂ : K.In h₂ := X₁.keeps k₂
  have hx₂ := k₂ _ _ hx₁
  have I₂ : InstAt h₂ x (excO C t0) C none := ⟨hx₂, rfl, rfl, trivial⟩
  refine kxs_getMethod kxs_ValueError hso (looks_opaque X₂ T.opq) (l₀ := .ref C :: bm) (fun A Q E s k q => wpAny_bind ((looks_clsIn X₂ hcl) A _ E s k (wpAny_pure q))) rfl X₂ hsup (I₂.type.andThen (looks_subIn X₂ T.veC)) nxC (by decide) ?_
  have k₃ : ∀ b o, h₂.get? b = some o → (h₂.push (kxs_mw "ValueError.__init__" x)).get? b = some o := fun b o e => Heap.get?_push_of_some _ e
  have hmw : (h₂.push (kxs_mw "ValueError.__init__" x)).get? h₂.objs.size = some (kxs_mw "ValueError.__init__" x) := Heap.get?_push_at rfl rfl
  refine kxs_callWith (i := "ValueError.__init__") (x := x) (by rfl) ?_
  refine evalArgs_plain (spliced_cons ?_)
  have hn₃ : (h₂.push (kxs_mw "ValueError.__init__" x)).Ns hp.objs.size (fun z => List.lookup z [((("limit" : Str)), v0), ("self", Value.ref x)]) := (hn.keeps k₂).keeps k₃
  have kp : ∀ b o, hp.get? b = some o → (h₂.push (kxs_mw "ValueError.__init__" x)).get? b = some o := fun b o e => k₃ _ _ (k₂ _ _ (k b o e))
  refine hJ qual cda cc _ _ _ _ _ _ _ _ hn₃ kp fun v tk => ?_
  refine spliced_nil ⟨hmw, ?_⟩
  refine call_mw (h := h₂.push (kxs_mw "ValueError.__init__" x)) (X₂.keeps k₃ _ _ hC) (k₃ _ _ hx₂) hmw (one_size _) (fun h₄ t1 k₄ hx₄ => ?_)
  have keep4 : ∀ b o, b ≠ x → hp.get? b = some o → h₄.get? b = some o := fun b o hb e => k₄ b o hb (kp b o e)
  have X₄ : K.In h₄ := fun b o e => k₄ b o (fun z => by rw [z, hnx] at e; cases e) (k₃ _ _ (X₂ _ _ e))
  have hn₄ : h₄.Ns hp.objs.size (fun z => List.lookup z [((("limit" : Str)), v0), ("self", Value.ref x)]) := by
    obtain ⟨oL, es, ep, e1, r⟩ := hn₃
    exact ⟨oL, es, ep, k₄ _ _ hxL e1, r⟩
  have big : hp.objs.size ≤ h₄.objs.size := by
    obtain ⟨oL, es, ep, e1, r⟩ := hn₄
    exact Nat.le_of_lt (Heap.lt_size e1)
  refine wpAt_of_wpAny ?_
  refine wpAny_execs_cons (plainObj_wpAny_Assign_Attribute ?_)
  refine ldN (v := v0) hn₄ rfl (ldN (v := .ref x) hn₄ rfl ?_)
  refine set_plain X₄ (ox := excO C t1) (od := none) ⟨hx₄, rfl, rfl, trivial⟩ T.sa ?_
  refine exc_osa X₄ hx₄ hcl (show refsVE (.ref C :: bm) = true from hbm) rfl T.no_limit (fun h₅ tk₅ dx k₅ dn dne hx₅ hn₅ => ?_)
  exact wpAny_execs_nil (hq h₅ tk₅ dx t1 ⟨fun b o hb e => k₅ b o hb (keep4 b o hb e), hx₅, Nat.le_trans big dn, dne, hn₅⟩)
/-- a made error -/
structure Made_limit (h h' : Heap) (e C d : Addr) (v0 : Value) : Prop where
  keep : ∀ b o, h.get? b = some o → h'.get? b = some o
  new : h.objs.size ≤ e
  obj : ∃ oe vs, h'.get? e = some oe ∧ oe.cls = .ref C ∧ oe.dict = some d ∧ oe.data = .fields vs ∧ vs[1]? = some .none
  dbig : h.objs.size ≤ d
  dne : d ≠ e
  ns : h'.Ns1 d (fun y => if y = "limit" then some v0 else none)
theorem made_limit (T : Err_limit prog K mg nmx C D fI J) {v0 : Value} (X : K.In s.heap) (hG : s.heap.Ns mainGlobals mg) (hB : s.heap.Ns builtinsNs mb) (mS : mg "super" = none) (bS : mb "super" = some (.type "super"))
    (hlim : s.heap.NoLimit) (hroom : A.depth + 1 < recursionLimit) (hu : A.units + 200 < cLine)
    (hJ : ∀ (A' : Around) qual cda cc L x hp, A'.units + 5 < cLine → (∀ b o, s.heap.get? b = some o → hp.get? b = some o) → MsgOk prog w A' (ksEnv qual eScope_limit L fI (.ref cda) cc) (fun z => List.lookup z [((("limit" : Str)), v0), ("self", Value.ref x)]) L hp J)
    (hq : ∀ h' tk e d, Made_limit s.heap h' e C d v0 → R (.ok (.ret (.ref e))) { s with heap := h', toks := tk }) :
    codeAny (model prog w) A (.call (.ref C) ⟨[v0], []⟩) R s := by
  obtain ⟨nm, q, N, bs, bm, sn, sub, ab, col, dd, k0, k1, k2, k3, k5, hC, hbm⟩ := T.cls
  obtain ⟨hp, g, dr, tk, os⟩ := s
  have k : ∀ b o, hp.get? b = some o → ((hp.push (kdv_tup [v0])).push (excO C hp.objs.size)).get? b = some o := fun b o e => Heap.get?_push_of_some _ (Heap.get?_push_of_some _ e)
  have hget : ((hp.push (kdv_tup [v0])).push (excO C hp.objs.size)).get? (hp.objs.size + 1) = some (excO C hp.objs.size) := by heap_get
  have hnx : K.lookup (hp.objs.size + 1) = none := by
    cases e : K.lookup (hp.objs.size + 1) with
    | none => rfl
    | some o =>
      have z : hp.get? (hp.objs.size + 1) = some o := X _ _ e
      exact absurd (Nat.lt_of_succ_lt (Heap.lt_size z)) (Nat.lt_irrefl _)
  refine call_own F.excBase_ValueError (fun X => refsVE_contains X bm hbm) (X _ _ hC) (looks_findIn X T.iC) (fun self => bind_fn X self T.tC) (one_size _) ?_
  refine init_limit (s := ⟨(hp.push (kdv_tup [v0])).push (excO C hp.objs.size), g, dr, tk, os⟩) T (X.keeps k) (hG.keeps k) (hB.keeps k) mS bS (hlim.keeps k) hget hnx ?_ ?_ fun h' tk' dx t1 ⟨k', hx, dn, dne, hns⟩ => ?_
  · show A.depth + 1 < recursionLimit
    exact hroom
  · intro qual cda cc L
    refine hJ _ qual cda cc L _ _ ?_ k
    show A.units + 1 + 3 + 5 < cLine
    omega
  · have old : ∀ b o, hp.get? b = some o → h'.get? b = some o := fun b o e => k' b o (Nat.ne_of_lt (Nat.lt_succ_of_lt (Heap.lt_size e))) (k b o e)
    have z : hp.objs.size + 1 + 1 ≤ dx := by
      first
        | (simpa only [Heap.size_push] using dn)
        | exact dn
        | (have q := dn; rw [Heap.size_push, Heap.size_push] at q; exact q)
    exact ⟨rfl, hq h' tk' (hp.objs.size + 1) dx ⟨old, Nat.le_succ _, ⟨_, _, hx, rfl, rfl, rfl, rfl⟩, Nat.le_trans (Nat.le_trans (Nat.le_succ _) (Nat.le_succ _)) z, dne, hns⟩⟩
end
def eArgs_name (p1 p2 : Pos) : Arguments := { posonlyargs := [], args := [{ arg := "self", annotation := none, pos := p1 }, { arg := "name", annotation := none, pos := p2 }], vararg := none, kwonlyargs := [], kw_defaults := [], kwarg := none, defaults := [] }
def eBody_name (J : Expr) (a1 a2 a3 a8 a9 : Pos) (q1 q2 q3 q4 : Pos) : List Stmt :=
  .Expr (.Call (.Attribute (.Call (.Name "super" a1) [] [] a2) "__init__" a3) [J] [] a8) a9 :: [.Assign [.Attribute (.Name "self" q1) "name" q2] (.Name "name" q3) q4]
def eScope_name : Scope := { kind := .function, names := [(PySem.Str.ofString "self", .local), (PySem.Str.ofString "name", .local), (PySem.Str.ofString "__class__", .free), (PySem.Str.ofString "super", .globalImplicit)], isGenerator := false, isCoroutine := false, more := [] }
structure Err_name (prog : Program) (K : Frag) (mg : Str → Option Value) (x : Str) (C D fI : Addr) (J : Expr) : Prop extends ErrC prog K mg x C D fI where
  no_name : findIn K (.ref C) "name" = some none
  fn : ∃ (oc : Value) (od : Option Addr) (doc pm : Value) (an : Option Addr) (cda cc : Addr) (ct : Value) (osl : Array (Option Value)) (qual : Str) (p1 p2 a1 a2 a3 a8 a9 q1 q2 q3 q4 : Pos)
      (ccl cl : Value) (cdd cld : Option Addr) (vs : Array Value) (ccs csl : Array (Option Value)) (file : Str) (tf : Tok),
    K.lookup fI = some ⟨oc, od, .func (ksFn "__init__" qual (eArgs_name p1 p2) (eBody_name J a1 a2 a3 a8 a9 q1 q2 q3 q4) eScope_name .none .none doc pm an (.ref cda) ct cc), osl⟩ ∧ codeIn K (.ref cda) qual = true ∧
    K.lookup cda = some ⟨ccl, cdd, .fields vs, ccs⟩ ∧ vs[2]? = some (.str file tf) ∧ ((prog.main.file : Str) == file) = true ∧ K.lookup cc = some ⟨cl, cld, .cell (some (.ref D)), csl⟩ ∧
    (a3.endLine == a8.line) = true ∧ ∃ js a7, J = .JoinedStr js a7
/-- what the maker leaves of a fresh error at x -/
structure IE_name (h h' : Heap) (x C dx t1 : Addr) (v0 : Value) : Prop where
  keep : ∀ b o, b ≠ x → h.get? b = some o → h'.get? b = some o
  obj : h'.get? x = some { cls := .ref C, dict := some dx, data := .fields #[.ref t1, .none, .none, .none, .bool false, .none] }
  dbig : h.objs.size ≤ dx
  dne : dx ≠ x
  ns : h'.Ns1 dx (fun y => if y = "name" then some v0 else none)
section
variable {prog : Program} {w : World} {A : Around} {E : Value → Shared → Prop} {R : Result → Shared → Prop} {s : Shared} {K : Frag} {mg mb : Str → Option Value} {nmx : Str} {C D fI : Addr} {J : Expr}
theorem init_name (T : Err_name prog K mg nmx C D fI J) {x t0 : Addr} {v0 : Value} (X : K.In s.heap) (hG : s.heap.Ns mainGlobals mg) (hB : s.heap.Ns builtinsNs mb) (mS : mg "super" = none) (bS : mb "super" = some (.type "super"))
    (hlim : s.heap.NoLimit) (hx : s.heap.get? x = some (excO C t0)) (hnx : K.lookup x = none) (hroom : A.depth < recursionLimit)
    (hJ : ∀ qual cda cc L, MsgOk prog w (A.deeper (ksEnv qual eScope_name L fI (.ref cda) cc)) (ksEnv qual eScope_name L fI (.ref cda) cc) (fun z => List.lookup z [((("name" : Str)), v0), ("self", Value.ref x)]) L s.heap J)
    (hq : ∀ h' tk dx t1, IE_name s.heap h' x C dx t1 v0 → R (.ok (.ret .none)) { s with heap := h', toks := tk }) :
    codeAny (model prog w) A (.call (.ref fI) ⟨[.ref x, v0], []⟩) R s := by
  obtain ⟨oc, od, doc, pm, an, cda, cc, ct, osl, qual, p1, p2, a1, a2, a3, a8, a9, q1, q2, q3, q4, ccl, cl, cdd, cld, vs, ccs, csl, file, tf, ho, hcd, hcda, hvs, hfile, hcell, hline, js, a7, rfl⟩ := T.fn
  obtain ⟨nm, q, N, bs, bm, sn, sub, ab, col, dd, k0, k1, k2, k3, k5, hC, hbm⟩ := T.cls
  obtain ⟨oD, cdD, hD, hDd⟩ := T.clsD
  have hcl : clsIn K C = some { name := nm, bases := bs, mro := .ref C :: bm, ns := N, qualname := q, hasDict := true, slotNames := sn, subclasses := sub, abstract := ab, collection := col, hasDel := false } := by unfold clsIn; rw [hC] <;> rfl
  have hsup : alongIn K "__init__" ((((Value.ref C :: bm)).dropWhile (· != .ref D)).drop 1) = some (some (.builtin "ValueError.__init__")) := by
    have z := T.sup
    unfold ks_superIn at z
    rw [hcl] at z
    exact z
  refine ks_codeAny_call_defAt (fd := ksFn "__init__" qual (eArgs_name p1 p2) (eBody_name (.JoinedStr js a7) a1 a2 a3 a8 a9 q1 q2 q3 q4) eScope_name .none .none doc pm an (.ref cda) ct cc) (body := eBody_name (.JoinedStr js a7) a1 a2 a3 a8 a9 q1 q2 q3 q4)
    (binds := [("self", .ref x), ("name", v0)]) hroom (X _ _ ho) rfl hlim (codeRec_of X hcd) rfl (BindsTo.of_eq (by first | rfl | with_unfolding_all rfl)) (show ∀ x ∈ eScope_name.names, x.2 ≠ .cell by decide) (fun z hz => by
      rcases List.mem_cons.mp hz with rfl | hz
      · rfl
      rcases List.mem_cons.mp hz with rfl | hz
      · rfl
      cases hz) (fun h₁ hn k => ?_) rfl rfl rfl
  obtain ⟨hp, g, d, t, os⟩ := s
  have X₁ : K.In h₁ := X.keeps k
  have hx₁ := k _ _ hx
  have hC₁ := X₁ _ _ hC
  have hD₁ := X₁ _ _ hD
  show _root_.PySem.wpAt _ _ (.func _ (ksEnv qual eScope_name hp.objs.size fI (.ref cda) cc)) (execs _ (ksEnv qual eScope_name hp.objs.size fI (.ref cda) cc)) _ _ _
  have nxC : x ≠ C := fun z => by
    rw [z, hC] at hnx
    cases hnx
  have hxL : hp.objs.size ≠ x := Nat.ne_of_gt (Heap.lt_size hx)
  refine ks_wpAt_execs_cons (ks_wpAt_Expr_any (ks_wpAt_MethodCall (pl := do return (← importBound (.Call (.Name "super" a1) [] [] a2) (ksEnv qual eScope_name hp.objs.size fI (.ref cda) cc)).getD true) ?_ (call_tree hline)))
  refine ks_wpAt_super_base (env := ksEnv qual eScope_name hp.objs.size fI (.ref cda) cc) (file := file) (tf := tf) (vs := vs) rfl rfl (by decide) rfl (X₁ _ _ ho) rfl rfl rfl (X₁ _ _ hcda) rfl hvs hfile T.htop ?_
  refine ks_loadName_global rfl rfl (loadGlobal_builtin (env := ksEnv qual eScope_name hp.objs.size fI (.ref cda) cc) (mg := mg) (mb := mb) (hG.keeps k) mS (hB.keeps k) bS ⟨rfl, ?_⟩)
  refine wpAny_loadName_free rfl rfl rfl ⟨_, X₁ _ _ hcell, rfl⟩ ?_
  refine wpAny_loadName_local rfl rfl hn rfl ?_
  refine ks_wpAny_isType_cls hD₁ hDd ⟨rfl, ?_⟩
  refine ks_wpAny_call_super hD₁ hDd hx₁ rfl (fun c e => by cases e) (looks_mroIn X₁ T.sub) (fun h₂ hso k₂ => ?_)
  have X₂ : K.In h₂ := X₁.keeps k₂
  have hx₂ := k₂ _ _ hx₁
  have I₂ : InstAt h₂ x (excO C t0) C none := ⟨hx₂, rfl, rfl, trivial⟩
  refine kxs_getMethod kxs_ValueError hso (looks_opaque X₂ T.opq) (l₀ := .ref C :: bm) (fun A Q E s k q => wpAny_bind ((looks_clsIn X₂ hcl) A _ E s k (wpAny_pure q))) rfl X₂ hsup (I₂.type.andThen (looks_subIn X₂ T.veC)) nxC (by decide) ?_
  have k₃ : ∀ b o, h₂.get? b = some o → (h₂.push (kxs_mw "ValueError.__init__" x)).get? b = some o := fun b o e => Heap.get?_push_of_some _ e
  have hmw : (h₂.push (kxs_mw "ValueError.__init__" x)).get? h₂.objs.size = some (kxs_mw "ValueError.__init__" x) := Heap.get?_push_at rfl rfl
  refine kxs_callWith (i := "ValueError.__init__") (x := x) (by rfl) ?_
  refine evalArgs_plain (spliced_cons ?_)
  have hn₃ : (h₂.push (kxs_mw "ValueError.__init__" x)).Ns hp.objs.size (fun z => List.lookup z [((("name" : Str)), v0), ("self", Value.ref x)]) := (hn.keeps k₂).keeps k₃
  have kp : ∀ b o, hp.get? b = some o → (h₂.push (kxs_mw "ValueError.__init__" x)).get? b = some o := fun b o e => k₃ _ _ (k₂ _ _ (k b o e))
  refine hJ qual cda cc _ _ _ _ _ _ _ _ hn₃ kp fun v tk => ?_
  refine spliced_nil ⟨hmw, ?_⟩
  refine call_mw (h := h₂.push (kxs_mw "ValueError.__init__" x)) (X₂.keeps k₃ _ _ hC) (k₃ _ _ hx₂) hmw (one_size _) (fun h₄ t1 k₄ hx₄ => ?_)
  have keep4 : ∀ b o, b ≠ x → hp.get? b = some o → h₄.get? b = some o := fun b o hb e => k₄ b o hb (kp b o e)
  have X₄ : K.In h₄ := fun b o e => k₄ b o (fun z => by rw [z, hnx] at e; cases e) (k₃ _ _ (X₂ _ _ e))
  have hn₄ : h₄.Ns hp.objs.size (fun z => List.lookup z [((("name" : Str)), v0), ("self", Value.ref x)]) := by
    obtain ⟨oL, es, ep, e1, r⟩ := hn₃
    exact ⟨oL, es, ep, k₄ _ _ hxL e1, r⟩
  have big : hp.objs.size ≤ h₄.objs.size := by
    obtain ⟨oL, es, ep, e1, r⟩ := hn₄
    exact Nat.le_of_lt (Heap.lt_size e1)
  refine wpAt_of_wpAny ?_
  refine wpAny_execs_cons (plainObj_wpAny_Assign_Attribute ?_)
  refine ldN (v := v0) hn₄ rfl (ldN (v := .ref x) hn₄ rfl ?_)
  refine set_plain X₄ (ox := excO C t1) (od := none) ⟨hx₄, rfl, rfl, trivial⟩ T.sa ?_
  refine exc_osa X₄ hx₄ hcl (show refsVE (.ref C :: bm) = true from hbm) rfl T.no_name (fun h₅ tk₅ dx k₅ dn dne hx₅ hn₅ => ?_)
  exact wpAny_execs_nil (hq h₅ tk₅ dx t1 ⟨fun b o hb e => k₅ b o hb (keep4 b o hb e), hx₅, Nat.le_trans big dn, dne, hn₅⟩)
/-- a made error -/
structure Made_name (h h' : Heap) (e C d : Addr) (v0 : Value) : Prop where
  keep : ∀ b o, h.get? b = some o → h'.get? b = some o
  new : h.objs.size ≤ e
  obj : ∃ oe vs, h'.get? e = some oe ∧ oe.cls = .ref C ∧ oe.dict = some d ∧ oe.data = .fields vs ∧ vs[1]? = some .none
  dbig : h.objs.size ≤ d
  dne : d ≠ e
  ns : h'.Ns1 d (fun y => if y = "name" then some v0 else none)
theorem made_name (T : Err_name prog K mg nmx C D fI J) {v0 : Value} (X : K.In s.heap) (hG : s.heap.Ns mainGlobals mg) (hB : s.heap.Ns builtinsNs mb) (mS : mg "super" = none) (bS : mb "super" = some (.type "super"))
    (hlim : s.heap.NoLimit) (hroom : A.depth + 1 < recursionLimit) (hu : A.units + 200 < cLine)
    (hJ : ∀ (A' : Around) qual cda cc L x hp, A'.units + 5 < cLine → (∀ b o, s.heap.get? b = some o → hp.get? b = some o) → MsgOk prog w A' (ksEnv qual eScope_name L fI (.ref cda) cc) (fun z => List.lookup z [((("name" : Str)), v0), ("self", Value.ref x)]) L hp J)
    (hq : ∀ h' tk e d, Made_name s.heap h' e C d v0 → R (.ok (.ret (.ref e))) { s with heap := h', toks := tk }) :
    codeAny (model prog w) A (.call (.ref C) ⟨[v0], []⟩) R s := by
  obtain ⟨nm, q, N, bs, bm, sn, sub, ab, col, dd, k0, k1, k2, k3, k5, hC, hbm⟩ := T.cls
  obtain ⟨hp, g, dr, tk, os⟩ := s
  have k : ∀ b o, hp.get? b = some o → ((hp.push (kdv_tup [v0])).push (excO C hp.objs.size)).get? b = some o := fun b o e => Heap.get?_push_of_some _ (Heap.get?_push_of_some _ e)
  have hget : ((hp.push (kdv_tup [v0])).push (excO C hp.objs.size)).get? (hp.objs.size + 1) = some (excO C hp.objs.size) := by heap_get
  have hnx : K.lookup (hp.objs.size + 1) = none := by
    cases e : K.lookup (hp.objs.size + 1) with
    | none => rfl
    | some o =>
      have z : hp.get? (hp.objs.size + 1) = some o := X _ _ e
      exact absurd (Nat.lt_of_succ_lt (Heap.lt_size z)) (Nat.lt_irrefl _)
  refine call_own F.excBase_ValueError (fun X => refsVE_contains X bm hbm) (X _ _ hC) (looks_findIn X T.iC) (fun self => bind_fn X self T.tC) (one_size _) ?_
  refine init_name (s := ⟨(hp.push (kdv_tup [v0])).push (excO C hp.objs.size), g, dr, tk, os⟩) T (X.keeps k) (hG.keeps k) (hB.keeps k) mS bS (hlim.keeps k) hget hnx ?_ ?_ fun h' tk' dx t1 ⟨k', hx, dn, dne, hns⟩ => ?_
  · show A.depth + 1 < recursionLimit
    exact hroom
  · intro qual cda cc L
    refine hJ _ qual cda cc L _ _ ?_ k
    show A.units + 1 + 3 + 5 < cLine
    omega
  · have old : ∀ b o, hp.get? b = some o → h'.get? b = some o := fun b o e => k' b o (Nat.ne_of_lt (Nat.lt_succ_of_lt (Heap.lt_size e))) (k b o e)
    have z : hp.objs.size + 1 + 1 ≤ dx := by
      first
        | (simpa only [Heap.size_push] using dn)
        | exact dn
        | (have q := dn; rw [Heap.size_push, Heap.size_push] at q; exact q)
    exact ⟨rfl, hq h' tk' (hp.objs.size + 1) dx ⟨old, Nat.le_succ _, ⟨_, _, hx, rfl, rfl, rfl, rfl⟩, Nat.le_trans (Nat.le_trans (Nat.le_succ _) (Nat.le_succ _)) z, dne, hns⟩⟩
end
def eArgs_part_where (p1 p2 p3 : Pos) : Arguments := { posonlyargs := [], args := [{ arg := "self", annotation := none, pos := p1 }, { arg := "part", annotation := none, pos := p2 }, { arg := "where", annotation := none, pos := p3 }], vararg := none, kwonlyargs := [], kw_defaults := [], kwarg := none, defaults := [] }
def eBody_part_where (J : Expr) (a1 a2 a3 a8 a9 : Pos) (q1 q2 q3 q4 r1 r2 r3 r4 : Pos) : List Stmt :=
  .Expr (.Call (.Attribute (.Call (.Name "super" a1) [] [] a2) "__init__" a3) [J] [] a8) a9 :: [.Assign [.Attribute (.Name "self" q1) "part" q2] (.Name "part" q3) q4, .Assign [.Attribute (.Name "self" r1) "where" r2] (.Name "where" r3) r4]
def eScope_part_where : Scope := { kind := .function, names := [(PySem.Str.ofString "self", .local), (PySem.Str.ofString "part", .local), (PySem.Str.ofString "where", .local), (PySem.Str.ofString "__class__", .free), (PySem.Str.ofString "super", .globalImplicit)], isGenerator := false, isCoroutine := false, more := [] }
structure Err_part_where (prog : Program) (K : Frag) (mg : Str → Option Value) (x : Str) (C D fI : Addr) (J : Expr) : Prop extends ErrC prog K mg x C D fI where
  no_part : findIn K (.ref C) "part" = some none
  no_where : findIn K (.ref C) "where" = some none
  fn : ∃ (oc : Value) (od : Option Addr) (doc pm : Value) (an : Option Addr) (cda cc : Addr) (ct : Value) (osl : Array (Option Value)) (qual : Str) (p1 p2 p3 a1 a2 a3 a8 a9 q1 q2 q3 q4 r1 r2 r3 r4 : Pos)
      (ccl cl : Value) (cdd cld : Option Addr) (vs : Array Value) (ccs csl : Array (Option Value)) (file : Str) (tf : Tok),
    K.lookup fI = some ⟨oc, od, .func (ksFn "__init__" qual (eArgs_part_where p1 p2 p3) (eBody_part_where J a1 a2 a3 a8 a9 q1 q2 q3 q4 r1 r2 r3 r4) eScope_part_where .none .none doc pm an (.ref cda) ct cc), osl⟩ ∧ codeIn K (.ref cda) qual = true ∧
    K.lookup cda = some ⟨ccl, cdd, .fields vs, ccs⟩ ∧ vs[2]? = some (.str file tf) ∧ ((prog.main.file : Str) == file) = true ∧ K.lookup cc = some ⟨cl, cld, .cell (some (.ref D)), csl⟩ ∧
    (a3.endLine == a8.line) = true ∧ ∃ js a7, J = .JoinedStr js a7
/-- what the maker leaves of a fresh error at x -/
structure IE_part_where (h h' : Heap) (x C dx t1 : Addr) (v0 v1 : Value) : Prop where
  keep : ∀ b o, b ≠ x → h.get? b = some o → h'.get? b = some o
  obj : h'.get? x = some { cls := .ref C, dict := some dx, data := .fields #[.ref t1, .none, .none, .none, .bool false, .none] }
  dbig : h.objs.size ≤ dx
  dne : dx ≠ x
  ns : h'.Ns1 dx (fun y => if y = "where" then some v1 else if y = "part" then some v0 else none)
section
variable {prog : Program} {w : World} {A : Around} {E : Value → Shared → Prop} {R : Result → Shared → Prop} {s : Shared} {K : Frag} {mg mb : Str → Option Value} {nmx : Str} {C D fI : Addr} {J : Expr}
theorem init_part_where (T : Err_part_where prog K mg nmx C D fI J) {x t0 : Addr} {v0 v1 : Value} (X : K.In s.heap) (hG : s.heap.Ns mainGlobals mg) (hB : s.heap.Ns builtinsNs mb) (mS : mg "super" = none) (bS : mb "super" = some (.type "super"))
    (hlim : s.heap.NoLimit) (hx : s.heap.get? x = some (excO C t0)) (hnx : K.lookup x = none) (hroom : A.depth < recursionLimit)
    (hJ : ∀ qual cda cc L, MsgOk prog w (A.deeper (ksEnv qual eScope_part_where L fI (.ref cda) cc)) (ksEnv qual eScope_part_where L fI (.ref cda) cc) (fun z => List.lookup z [((("where" : Str)), v1), ("part", v0), ("self", Value.ref x)]) L s.heap J)
    (hq : ∀ h' tk dx t1, IE_part_where s.heap h' x C dx t1 v0 v1 → R (.ok (.ret .none)) { s with heap := h', toks := tk }) :
    codeAny (model prog w) A (.call (.ref fI) ⟨[.ref x, v0, v1], []⟩) R s := by
  obtain ⟨oc, od, doc, pm, an, cda, cc, ct, osl, qual, p1, p2, p3, a1, a2, a3, a8, a9, q1, q2, q3, q4, r1, r2, r3, r4, ccl, cl, cdd, cld, vs, ccs, csl, file, tf, ho, hcd, hcda, hvs, hfile, hcell, hline, js, a7, rfl⟩ := T.fn
  obtain ⟨nm, q, N, bs, bm, sn, sub, ab, col, dd, k0, k1, k2, k3, k5, hC, hbm⟩ := T.cls
  obtain ⟨oD, cdD, hD, hDd⟩ := T.clsD
  have hcl : clsIn K C = some { name := nm, bases := bs, mro := .ref C :: bm, ns := N, qualname := q, hasDict := true, slotNames := sn, subclasses := sub, abstract := ab, collection := col, hasDel := false } := by unfold clsIn; rw [hC] <;> rfl
  have hsup : alongIn K "__init__" ((((Value.ref C :: bm)).dropWhile (· != .ref D)).drop 1) = some (some (.builtin "ValueError.__init__")) := by
    have z := T.sup
    unfold ks_superIn at z
    rw [hcl] at z
    exact z
  refine ks_codeAny_call_defAt (fd := ksFn "__init__" qual (eArgs_part_where p1 p2 p3) (eBody_part_where (.JoinedStr js a7) a1 a2 a3 a8 a9 q1 q2 q3 q4 r1 r2 r3 r4) eScope_part_where .none .none doc pm an (.ref cda) ct cc) (body := eBody_part_where (.JoinedStr js a7) a1 a2 a3 a8 a9 q1 q2 q3 q4 r1 r2 r3 r4)
    (binds := [("self", .ref x), ("part", v0), ("where", v1)]) hroom (X _ _ ho) rfl hlim (codeRec_of X hcd) rfl (BindsTo.of_eq (by first | rfl | with_unfolding_all rfl)) (show ∀ x ∈ eScope_part_where.names, x.2 ≠ .cell by decide) (fun z hz => by
      rcases List.mem_cons.mp hz with rfl | hz
      · rfl
      rcases List.mem_cons.mp hz with rfl | hz
      · rfl
      rcases List.mem_cons.mp hz with rfl | hz
      · rfl
      cases hz) (fun h₁ hn k => ?_) rfl rfl rfl
  obtain ⟨hp, g, d, t, os⟩ := s
  have X₁ : K.In h₁ := X.keeps k
  have hx₁ := k _ _ hx
  have hC₁ := X₁ _ _ hC
  have hD₁ := X₁ _ _ hD
  show _root_.PySem.wpAt _ _ (.func _ (ksEnv qual eScope_part_where hp.objs.size fI (.ref cda) cc)) (execs _ (ksEnv qual eScope_part_where hp.objs.size fI (.ref cda) cc)) _ _ _
  have nxC : x ≠ C := fun z => by
    rw [z, hC] at hnx
    cases hnx
  have hxL : hp.objs.size ≠ x := Nat.ne_of_gt (Heap.lt_size hx)
  refine ks_wpAt_execs_cons (ks_wpAt_Expr_any (ks_wpAt_MethodCall (pl := do return (← importBound (.Call (.Name "super" a1) [] [] a2) (ksEnv qual eScope_part_where hp.objs.size fI (.ref cda) cc)).getD true) ?_ (call_tree hline)))
  refine ks_wpAt_super_base (env := ksEnv qual eScope_part_where hp.objs.size fI (.ref cda) cc) (file := file) (tf := tf) (vs := vs) rfl rfl (by decide) rfl (X₁ _ _ ho) rfl rfl rfl (X₁ _ _ hcda) rfl hvs hfile T.htop ?_
  refine ks_loadName_global rfl rfl (loadGlobal_builtin (env := ksEnv qual eScope_part_where hp.objs.size fI (.ref cda) cc) (mg := mg) (mb := mb) (hG.keeps k) mS (hB.keeps k) bS ⟨rfl, ?_⟩)
  refine wpAny_loadName_free rfl rfl rfl ⟨_, X₁ _ _ hcell, rfl⟩ ?_
  refine wpAny_loadName_local rfl rfl hn rfl ?_
  refine ks_wpAny_isType_cls hD₁ hDd ⟨rfl, ?_⟩
  refine ks_wpAny_call_super hD₁ hDd hx₁ rfl (fun c e => by cases e) (looks_mroIn X₁ T.sub) (fun h₂ hso k₂ => ?_)
  have X₂ : K.In h₂ := X₁.keeps k₂
  have hx₂ := k₂ _ _ hx₁
  have I₂ : InstAt h₂ x (excO C t0) C none := ⟨hx₂, rfl, rfl, trivial⟩
  refine kxs_getMethod kxs_ValueError hso (looks_opaque X₂ T.opq) (l₀ := .ref C :: bm) (fun A Q E s k q => wpAny_bind ((looks_clsIn X₂ hcl) A _ E s k (wpAny_pure q))) rfl X₂ hsup (I₂.type.andThen (looks_subIn X₂ T.veC)) nxC (by decide) ?_
  have k₃ : ∀ b o, h₂.get? b = some o → (h₂.push (kxs_mw "ValueError.__init__" x)).get? b = some o := fun b o e => Heap.get?_push_of_some _ e
  have hmw : (h₂.push (kxs_mw "ValueError.__init__" x)).get? h₂.objs.size = some (kxs_mw "ValueError.__init__" x) := Heap.get?_push_at rfl rfl
  refine kxs_callWith (i := "ValueError.__init__") (x := x) (by rfl) ?_
  refine evalArgs_plain (spliced_cons ?_)
  have hn₃ : (h₂.push (kxs_mw "ValueError.__init__" x)).Ns hp.objs.size (fun z => List.lookup z [((("where" : Str)), v1), ("part", v0), ("self", Value.ref x)]) := (hn.keeps k₂).keeps k₃
  have kp : ∀ b o, hp.get? b = some o → (h₂.push (kxs_mw "ValueError.__init__" x)).get? b = some o := fun b o e => k₃ _ _ (k₂ _ _ (k b o e))
  refine hJ qual cda cc _ _ _ _ _ _ _ _ hn₃ kp fun v tk => ?_
  refine spliced_nil ⟨hmw, ?_⟩
  refine call_mw (h := h₂.push (kxs_mw "ValueError.__init__" x)) (X₂.keeps k₃ _ _ hC) (k₃ _ _ hx₂) hmw (one_size _) (fun h₄ t1 k₄ hx₄ => ?_)
  have keep4 : ∀ b o, b ≠ x → hp.get? b = some o → h₄.get? b = some o := fun b o hb e => k₄ b o hb (kp b o e)
  have X₄ : K.In h₄ := fun b o e => k₄ b o (fun z => by rw [z, hnx] at e; cases e) (k₃ _ _ (X₂ _ _ e))
  have hn₄ : h₄.Ns hp.objs.size (fun z => List.lookup z [((("where" : Str)), v1), ("part", v0), ("self", Value.ref x)]) := by
    obtain ⟨oL, es, ep, e1, r⟩ := hn₃
    exact ⟨oL, es, ep, k₄ _ _ hxL e1, r⟩
  have big : hp.objs.size ≤ h₄.objs.size := by
    obtain ⟨oL, es, ep, e1, r⟩ := hn₄
    exact Nat.le_of_lt (Heap.lt_size e1)
  refine wpAt_of_wpAny ?_
  refine wpAny_execs_cons (plainObj_wpAny_Assign_Attribute ?_)
  refine ldN (v := v0) hn₄ rfl (ldN (v := .ref x) hn₄ rfl ?_)
  refine set_plain X₄ (ox := excO C t1) (od := none) ⟨hx₄, rfl, rfl, trivial⟩ T.sa ?_
  refine exc_osa X₄ hx₄ hcl (show refsVE (.ref C :: bm) = true from hbm) rfl T.no_part (fun h₅ tk₅ dx k₅ dn dne hx₅ hn₅ => ?_)
  have keep5 : ∀ b o, b ≠ x → hp.get? b = some o → h₅.get? b = some o := fun b o hb e => k₅ b o hb (keep4 b o hb e)
  have X₅ : K.In h₅ := fun b o e => k₅ b o (fun z => by rw [z, hnx] at e; cases e) (X₄ _ _ e)
  have hn₅' : h₅.Ns hp.objs.size (fun z => List.lookup z [((("where" : Str)), v1), ("part", v0), ("self", Value.ref x)]) := by
    obtain ⟨oL, es, ep, e1, r⟩ := hn₄
    exact ⟨oL, es, ep, k₅ _ _ hxL e1, r⟩
  obtain ⟨oD', _, _, hoD, _, _⟩ := hn₅.count (Within.cons "part" v0 Within.nil)
  refine wpAny_execs_cons (plainObj_wpAny_Assign_Attribute ?_)
  refine ldN (v := v1) hn₅' rfl (ldN (v := .ref x) hn₅' rfl ?_)
  refine set_plain X₅ (ox := { cls := .ref C, dict := some dx, data := .fields #[.ref t1, .none, .none, .none, .bool false, .none] }) (od := some oD') ⟨hx₅, rfl, rfl, hoD⟩ T.sa ?_
  refine OEX.osa_old X₅ hx₅ hn₅ (Within.cons "part" v0 Within.nil) (by decide) hcl (show refsVE (.ref C :: bm) = true from hbm) rfl T.no_where (fun h₆ tk₆ k₆ hn₆ => ?_)
  have ndx : ∀ {b : Addr} {o : Obj}, h₅.get? b = some o → hp.get? b = some o → b ≠ dx := fun {b o} _ e => Nat.ne_of_lt (Nat.lt_of_lt_of_le (Heap.lt_size e) (Nat.le_trans big dn))
  exact wpAny_execs_nil (hq h₆ tk₆ dx t1 ⟨fun b o hb e => k₆ b o (ndx (keep5 b o hb e) e) (keep5 b o hb e), k₆ _ _ (Ne.symm dne) hx₅, Nat.le_trans big dn, dne, hn₆⟩)
/-- a made error -/
structure Made_part_where (h h' : Heap) (e C d : Addr) (v0 v1 : Value) : Prop where
  keep : ∀ b o, h.get? b = some o → h'.get? b = some o
  new : h.objs.size ≤ e
  obj : ∃ oe vs, h'.get? e = some oe ∧ oe.cls = .ref C ∧ oe.dict = some d ∧ oe.data = .fields vs ∧ vs[1]? = some .none
  dbig : h.objs.size ≤ d
  dne : d ≠ e
  ns : h'.Ns1 d (fun y => if y = "where" then some v1 else if y = "part" then some v0 else none)
theorem made_part_where (T : Err_part_where prog K mg nmx C D fI J) {v0 v1 : Value} (X : K.In s.heap) (hG : s.heap.Ns mainGlobals mg) (hB : s.heap.Ns builtinsNs mb) (mS : mg "super" = none) (bS : mb "super" = some (.type "super"))
    (hlim : s.heap.NoLimit) (hroom : A.depth + 1 < recursionLimit) (hu : A.units + 200 < cLine)
    (hJ : ∀ (A' : Around) qual cda cc L x hp, A'.units + 5 < cLine → (∀ b o, s.heap.get? b = some o → hp.get? b = some o) → MsgOk prog w A' (ksEnv qual eScope_part_where L fI (.ref cda) cc) (fun z => List.lookup z [((("where" : Str)), v1), ("part", v0), ("self", Value.ref x)]) L hp J)
    (hq : ∀ h' tk e d, Made_part_where s.heap h' e C d v0 v1 → R (.ok (.ret (.ref e))) { s with heap := h', toks := tk }) :
    codeAny (model prog w) A (.call (.ref C) ⟨[v0, v1], []⟩) R s := by
  obtain ⟨nm, q, N, bs, bm, sn, sub, ab, col, dd, k0, k1, k2, k3, k5, hC, hbm⟩ := T.cls
  obtain ⟨hp, g, dr, tk, os⟩ := s
  have k : ∀ b o, hp.get? b = some o → ((hp.push (kdv_tup [v0, v1])).push (excO C hp.objs.size)).get? b = some o := fun b o e => Heap.get?_push_of_some _ (Heap.get?_push_of_some _ e)
  have hget : ((hp.push (kdv_tup [v0, v1])).push (excO C hp.objs.size)).get? (hp.objs.size + 1) = some (excO C hp.objs.size) := by heap_get
  have hnx : K.lookup (hp.objs.size + 1) = none := by
    cases e : K.lookup (hp.objs.size + 1) with
    | none => rfl
    | some o =>
      have z : hp.get? (hp.objs.size + 1) = some o := X _ _ e
      exact absurd (Nat.lt_of_succ_lt (Heap.lt_size z)) (Nat.lt_irrefl _)
  refine call_own F.excBase_ValueError (fun X => refsVE_contains X bm hbm) (X _ _ hC) (looks_findIn X T.iC) (fun self => bind_fn X self T.tC) (two_sz _ _) ?_
  refine init_part_where (s := ⟨(hp.push (kdv_tup [v0, v1])).push (excO C hp.objs.size), g, dr, tk, os⟩) T (X.keeps k) (hG.keeps k) (hB.keeps k) mS bS (hlim.keeps k) hget hnx ?_ ?_ fun h' tk' dx t1 ⟨k', hx, dn, dne, hns⟩ => ?_
  · show A.depth + 1 < recursionLimit
    exact hroom
  · intro qual cda cc L
    refine hJ _ qual cda cc L _ _ ?_ k
    show A.units + 1 + 3 + 5 < cLine
    omega
  · have old : ∀ b o, hp.get? b = some o → h'.get? b = some o := fun b o e => k' b o (Nat.ne_of_lt (Nat.lt_succ_of_lt (Heap.lt_size e))) (k b o e)
    have z : hp.objs.size + 1 + 1 ≤ dx := by
      first
        | (simpa only [Heap.size_push] using dn)
        | exact dn
        | (have q := dn; rw [Heap.size_push, Heap.size_push] at q; exact q)
    exact ⟨rfl, hq h' tk' (hp.objs.size + 1) dx ⟨old, Nat.le_succ _, ⟨_, _, hx, rfl, rfl, rfl, rfl⟩, Nat.le_trans (Nat.le_trans (Nat.le_succ _) (Nat.le_succ _)) z, dne, hns⟩⟩
end
def eArgs_part_place (p1 p2 p3 : Pos) : Arguments := { posonlyargs := [], args := [{ arg := "self", annotation := none, pos := p1 }, { arg := "part", annotation := none, pos := p2 }, { arg := "place", annotation := none, pos := p3 }], vararg := none, kwonlyargs := [], kw_defaults := [], kwarg := none, defaults := [] }
def eBody_part_place (J : Expr) (a1 a2 a3 a8 a9 : Pos) (q1 q2 q3 q4 r1 r2 r3 r4 : Pos) : List Stmt :=
  .Expr (.Call (.Attribute (.Call (.Name "super" a1) [] [] a2) "__init__" a3) [J] [] a8) a9 :: [.Assign [.Attribute (.Name "self" q1) "part" q2] (.Name "part" q3) q4, .Assign [.Attribute (.Name "self" r1) "place" r2] (.Name "place" r3) r4]
def eScope_part_place : Scope := { kind := .function, names := [(PySem.Str.ofString "self", .local), (PySem.Str.ofString "part", .local), (PySem.Str.ofString "place", .local), (PySem.Str.ofString "__class__", .free), (PySem.Str.ofString "super", .globalImplicit)], isGenerator := false, isCoroutine := false, more := [] }
structure Err_part_place (prog : Program) (K : Frag) (mg : Str → Option Value) (x : Str) (C D fI : Addr) (J : Expr) : Prop extends ErrC prog K mg x C D fI where
  no_part : findIn K (.ref C) "part" = some none
  no_place : findIn K (.ref C) "place" = some none
  fn : ∃ (oc : Value) (od : Option Addr) (doc pm : Value) (an : Option Addr) (cda cc : Addr) (ct : Value) (osl : Array (Option Value)) (qual : Str) (p1 p2 p3 a1 a2 a3 a8 a9 q1 q2 q3 q4 r1 r2 r3 r4 : Pos)
      (ccl cl : Value) (cdd cld : Option Addr) (vs : Array Value) (ccs csl : Array (Option Value)) (file : Str) (tf : Tok),
    K.lookup fI = some ⟨oc, od, .func (ksFn "__init__" qual (eArgs_part_place p1 p2 p3) (eBody_part_place J a1 a2 a3 a8 a9 q1 q2 q3 q4 r1 r2 r3 r4) eScope_part_place .none .none doc pm an (.ref cda) ct cc), osl⟩ ∧ codeIn K (.ref cda) qual = true ∧
    K.lookup cda = some ⟨ccl, cdd, .fields vs, ccs⟩ ∧ vs[2]? = some (.str file tf) ∧ ((prog.main.file : Str) == file) = true ∧ K.lookup cc = some ⟨cl, cld, .cell (some (.ref D)), csl⟩ ∧
    (a3.endLine == a8.line) = true ∧ ∃ js a7, J = .JoinedStr js a7
/-- what the maker leaves of a fresh error at x -/
structure IE_part_place (h h' : Heap) (x C dx t1 : Addr) (v0 v1 : Value) : Prop where
  keep : ∀ b o, b ≠ x → h.get? b = some o → h'.get? b = some o
  obj : h'.get? x = some { cls := .ref C, dict := some dx, data := .fields #[.ref t1, .none, .none, .none, .bool false, .none] }
  dbig : h.objs.size ≤ dx
  dne : dx ≠ x
  ns : h'.Ns1 dx (fun y => if y = "place" then some v1 else if y = "part" then some v0 else none)
section
variable {prog : Program} {w : World} {A : Around} {E : Value → Shared → Prop} {R : Result → Shared → Prop} {s : Shared} {K : Frag} {mg mb : Str → Option Value} {nmx : Str} {C D fI : Addr} {J : Expr}
theorem init_part_place (T : Err_part_place prog K mg nmx C D fI J) {x t0 : Addr} {v0 v1 : Value} (X : K.In s.heap) (hG : s.heap.Ns mainGlobals mg) (hB : s.heap.Ns builtinsNs mb) (mS : mg "super" = none) (bS : mb "super" = some (.type "super"))
    (hlim : s.heap.NoLimit) (hx : s.heap.get? x = some (excO C t0)) (hnx : K.lookup x = none) (hroom : A.depth < recursionLimit)
    (hJ : ∀ qual cda cc L, MsgOk prog w (A.deeper (ksEnv qual eScope_part_place L fI (.ref cda) cc)) (ksEnv qual eScope_part_place L fI (.ref cda) cc) (fun z => List.lookup z [((("place" : Str)), v1), ("part", v0), ("self", Value.ref x)]) L s.heap J)
    (hq : ∀ h' tk dx t1, IE_part_place s.heap h' x C dx t1 v0 v1 → R (.ok (.ret .none)) { s with heap := h', toks := tk }) :
    codeAny (model prog w) A (.call (.ref fI) ⟨[.ref x, v0, v1], []⟩) R s := by
  obtain ⟨oc, od, doc, pm, an, cda, cc, ct, osl, qual, p1, p2, p3, a1, a2, a3, a8, a9, q1, q2, q3, q4, r1, r2, r3, r4, ccl, cl, cdd, cld, vs, ccs, csl, file, tf, ho, hcd, hcda, hvs, hfile, hcell, hline, js, a7, rfl⟩ := T.fn
  obtain ⟨nm, q, N, bs, bm, sn, sub, ab, col, dd, k0, k1, k2, k3, k5, hC, hbm⟩ := T.cls
  obtain ⟨oD, cdD, hD, hDd⟩ := T.clsD
  have hcl : clsIn K C = some { name := nm, bases := bs, mro := .ref C :: bm, ns := N, qualname := q, hasDict := true, slotNames := sn, subclasses := sub, abstract := ab, collection := col, hasDel := false } := by unfold clsIn; rw [hC] <;> rfl
  have hsup : alongIn K "__init__" ((((Value.ref C :: bm)).dropWhile (· != .ref D)).drop 1) = some (some (.builtin "ValueError.__init__")) := by
    have z := T.sup
    unfold ks_superIn at z
    rw [hcl] at z
    exact z
  refine ks_codeAny_call_defAt (fd := ksFn "__init__" qual (eArgs_part_place p1 p2 p3) (eBody_part_place (.JoinedStr js a7) a1 a2 a3 a8 a9 q1 q2 q3 q4 r1 r2 r3 r4) eScope_part_place .none .none doc pm an (.ref cda) ct cc) (body := eBody_part_place (.JoinedStr js a7) a1 a2 a3 a8 a9 q1 q2 q3 q4 r1 r2 r3 r4)
    (binds := [("self", .ref x), ("part", v0), ("place", v1)]) hroom (X _ _ ho) rfl hlim (codeRec_of X hcd) rfl (BindsTo.of_eq (by first | rfl | with_unfolding_all rfl)) (show ∀ x ∈ eScope_part_place.names, x.2 ≠ .cell by decide) (fun z hz => by
      rcases List.mem_cons.mp hz with rfl | hz
      · rfl
      rcases List.mem_cons.mp hz with rfl | hz
      · rfl
      rcases List.mem_cons.mp hz with rfl | hz
      · rfl
      cases hz) (fun h₁ hn k => ?_) rfl rfl rfl
  obtain ⟨hp, g, d, t, os⟩ := s
  have X₁ : K.In h₁ := X.keeps k
  have hx₁ := k _ _ hx
  have hC₁ := X₁ _ _ hC
  have hD₁ := X₁ _ _ hD
  show _root_.PySem.wpAt _ _ (.func _ (ksEnv qual eScope_part_place hp.objs.size fI (.ref cda) cc)) (execs _ (ksEnv qual eScope_part_place hp.objs.size fI (.ref cda) cc)) _ _ _
  have nxC : x ≠ C := fun z => by
    rw [z, hC] at hnx
    cases hnx
  have hxL : hp.objs.size ≠ x := Nat.ne_of_gt (Heap.lt_size hx)
  refine ks_wpAt_execs_cons (ks_wpAt_Expr_any (ks_wpAt_MethodCall (pl := do return (← importBound (.Call (.Name "super" a1) [] [] a2) (ksEnv qual eScope_part_place hp.objs.size fI (.ref cda) cc)).getD true) ?_ (call_tree hline)))
  refine ks_wpAt_super_base (env := ksEnv qual eScope_part_place hp.objs.size fI (.ref cda) cc) (file := file) (tf := tf) (vs := vs) rfl rfl (by decide) rfl (X₁ _ _ ho) rfl rfl rfl (X₁ _ _ hcda) rfl hvs hfile T.htop ?_
  refine ks_loadName_global rfl rfl (loadGlobal_builtin (env := ksEnv qual eScope_part_place hp.objs.size fI (.ref cda) cc) (mg := mg) (mb := mb) (hG.keeps k) mS (hB.keeps k) bS ⟨rfl, ?_⟩)
  refine wpAny_loadName_free rfl rfl rfl ⟨_, X₁ _ _ hcell, rfl⟩ ?_
  refine wpAny_loadName_local rfl rfl hn rfl ?_
  refine ks_wpAny_isType_cls hD₁ hDd ⟨rfl, ?_⟩
  refine ks_wpAny_call_super hD₁ hDd hx₁ rfl (fun c e => by cases e) (looks_mroIn X₁ T.sub) (fun h₂ hso k₂ => ?_)
  have X₂ : K.In h₂ := X₁.keeps k₂
  have hx₂ := k₂ _ _ hx₁
  have I₂ : InstAt h₂ x (excO C t0) C none := ⟨hx₂, rfl, rfl, trivial⟩
  refine kxs_getMethod kxs_ValueError hso (looks_opaque X₂ T.opq) (l₀ := .ref C :: bm) (fun A Q E s k q => wpAny_bind ((looks_clsIn X₂ hcl) A _ E s k (wpAny_pure q))) rfl X₂ hsup (I₂.type.andThen (looks_subIn X₂ T.veC)) nxC (by decide) ?_
  have k₃ : ∀ b o, h₂.get? b = some o → (h₂.push (kxs_mw "ValueError.__init__" x)).get? b = some o := fun b o e => Heap.get?_push_of_some _ e
  have hmw : (h₂.push (kxs_mw "ValueError.__init__" x)).get? h₂.objs.size = some (kxs_mw "ValueError.__init__" x) := Heap.get?_push_at rfl rfl
  refine kxs_callWith (i := "ValueError.__init__") (x := x) (by rfl) ?_
  refine evalArgs_plain (spliced_cons ?_)
  have hn₃ : (h₂.push (kxs_mw "ValueError.__init__" x)).Ns hp.objs.size (fun z => List.lookup z [((("place" : Str)), v1), ("part", v0), ("self", Value.ref x)]) := (hn.keeps k₂).keeps k₃
  have kp : ∀ b o, hp.get? b = some o → (h₂.push (kxs_mw "ValueError.__init__" x)).get? b = some o := fun b o e => k₃ _ _ (k₂ _ _ (k b o e))
  refine hJ qual cda cc _ _ _ _ _ _ _ _ hn₃ kp fun v tk => ?_
  refine spliced_nil ⟨hmw, ?_⟩
  refine call_mw (h := h₂.push (kxs_mw "ValueError.__init__" x)) (X₂.keeps k₃ _ _ hC) (k₃ _ _ hx₂) hmw (one_size _) (fun h₄ t1 k₄ hx₄ => ?_)
  have keep4 : ∀ b o, b ≠ x → hp.get? b = some o → h₄.get? b = some o := fun b o hb e => k₄ b o hb (kp b o e)
  have X₄ : K.In h₄ := fun b o e => k₄ b o (fun z => by rw [z, hnx] at e; cases e) (k₃ _ _ (X₂ _ _ e))
  have hn₄ : h₄.Ns hp.objs.size (fun z => List.lookup z [((("place" : Str)), v1), ("part", v0), ("self", Value.ref x)]) := by
    obtain ⟨oL, es, ep, e1, r⟩ := hn₃
    exact ⟨oL, es, ep, k₄ _ _ hxL e1, r⟩
  have big : hp.objs.size ≤ h₄.objs.size := by
    obtain ⟨oL, es, ep, e1, r⟩ := hn₄
    exact Nat.le_of_lt (Heap.lt_size e1)
  refine wpAt_of_wpAny ?_
  refine wpAny_execs_cons (plainObj_wpAny_Assign_Attribute ?_)
  refine ldN (v := v0) hn₄ rfl (ldN (v := .ref x) hn₄ rfl ?_)
  refine set_plain X₄ (ox := excO C t1) (od := none) ⟨hx₄, rfl, rfl, trivial⟩ T.sa ?_
  refine exc_osa X₄ hx₄ hcl (show refsVE (.ref C :: bm) = true from hbm) rfl T.no_part (fun h₅ tk₅ dx k₅ dn dne hx₅ hn₅ => ?_)
  have keep5 : ∀ b o, b ≠ x → hp.get? b = some o → h₅.get? b = some o := fun b o hb e => k₅ b o hb (keep4 b o hb e)
  have X₅ : K.In h₅ := fun b o e => k₅ b o (fun z => by rw [z, hnx] at e; cases e) (X₄ _ _ e)
  have hn₅' : h₅.Ns hp.objs.size (fun z => List.lookup z [((("place" : Str)), v1), ("part", v0), ("self", Value.ref x)]) := by
    obtain ⟨oL, es, ep, e1, r⟩ := hn₄
    exact ⟨oL, es, ep, k₅ _ _ hxL e1, r⟩
  obtain ⟨oD', _, _, hoD, _, _⟩ := hn₅.count (Within.cons "part" v0 Within.nil)
  refine wpAny_execs_cons (plainObj_wpAny_Assign_Attribute ?_)
  refine ldN (v := v1) hn₅' rfl (ldN (v := .ref x) hn₅' rfl ?_)
  refine set_plain X₅ (ox := { cls := .ref C, dict := some dx, data := .fields #[.ref t1, .none, .none, .none, .bool false, .none] }) (od := some oD') ⟨hx₅, rfl, rfl, hoD⟩ T.sa ?_
  refine OEX.osa_old X₅ hx₅ hn₅ (Within.cons "part" v0 Within.nil) (by decide) hcl (show refsVE (.ref C :: bm) = true from hbm) rfl T.no_place (fun h₆ tk₆ k₆ hn₆ => ?_)
  have ndx : ∀ {b : Addr} {o : Obj}, h₅.get? b = some o → hp.get? b = some o → b ≠ dx := fun {b o} _ e => Nat.ne_of_lt (Nat.lt_of_lt_of_le (Heap.lt_size e) (Nat.le_trans big dn))
  exact wpAny_execs_nil (hq h₆ tk₆ dx t1 ⟨fun b o hb e => k₆ b o (ndx (keep5 b o hb e) e) (keep5 b o hb e), k₆ _ _ (Ne.symm dne) hx₅, Nat.le_trans big dn, dne, hn₆⟩)
/-- a made error -/
structure Made_part_place (h h' : Heap) (e C d : Addr) (v0 v1 : Value) : Prop where
  keep : ∀ b o, h.get? b = some o → h'.get? b = some o
  new : h.objs.size ≤ e
  obj : ∃ oe vs, h'.get? e = some oe ∧ oe.cls = .ref C ∧ oe.dict = some d ∧ oe.data = .fields vs ∧ vs[1]? = some .none
  dbig : h.objs.size ≤ d
  dne : d ≠ e
  ns : h'.Ns1 d (fun y => if y = "place" then some v1 else if y = "part" then some v0 else none)
theorem made_part_place (T : Err_part_place prog K mg nmx C D fI J) {v0 v1 : Value} (X : K.In s.heap) (hG : s.heap.Ns mainGlobals mg) (hB : s.heap.Ns builtinsNs mb) (mS : mg "super" = none) (bS : mb "super" = some (.type "super"))
    (hlim : s.heap.NoLimit) (hroom : A.depth + 1 < recursionLimit) (hu : A.units + 200 < cLine)
    (hJ : ∀ (A' : Around) qual cda cc L x hp, A'.units + 5 < cLine → (∀ b o, s.heap.get? b = some o → hp.get? b = some o) → MsgOk prog w A' (ksEnv qual eScope_part_place L fI (.ref cda) cc) (fun z => List.lookup z [((("place" : Str)), v1), ("part", v0), ("self", Value.ref x)]) L hp J)
    (hq : ∀ h' tk e d, Made_part_place s.heap h' e C d v0 v1 → R (.ok (.ret (.ref e))) { s with heap := h', toks := tk }) :
    codeAny (model prog w) A (.call (.ref C) ⟨[v0, v1], []⟩) R s := by
  obtain ⟨nm, q, N, bs, bm, sn, sub, ab, col, dd, k0, k1, k2, k3, k5, hC, hbm⟩ := T.cls
  obtain ⟨hp, g, dr, tk, os⟩ := s
  have k : ∀ b o, hp.get? b = some o → ((hp.push (kdv_tup [v0, v1])).push (excO C hp.objs.size)).get? b = some o := fun b o e => Heap.get?_push_of_some _ (Heap.get?_push_of_some _ e)
  have hget : ((hp.push (kdv_tup [v0, v1])).push (excO C hp.objs.size)).get? (hp.objs.size + 1) = some (excO C hp.objs.size) := by heap_get
  have hnx : K.lookup (hp.objs.size + 1) = none := by
    cases e : K.lookup (hp.objs.size + 1) with
    | none => rfl
    | some o =>
      have z : hp.get? (hp.objs.size + 1) = some o := X _ _ e
      exact absurd (Nat.lt_of_succ_lt (Heap.lt_size z)) (Nat.lt_irrefl _)
  refine call_own F.excBase_ValueError (fun X => refsVE_contains X bm hbm) (X _ _ hC) (looks_findIn X T.iC) (fun self => bind_fn X self T.tC) (two_sz _ _) ?_
  refine init_part_place (s := ⟨(hp.push (kdv_tup [v0, v1])).push (excO C hp.objs.size), g, dr, tk, os⟩) T (X.keeps k) (hG.keeps k) (hB.keeps k) mS bS (hlim.keeps k) hget hnx ?_ ?_ fun h' tk' dx t1 ⟨k', hx, dn, dne, hns⟩ => ?_
  · show A.depth + 1 < recursionLimit
    exact hroom
  · intro qual cda cc L
    refine hJ _ qual cda cc L _ _ ?_ k
    show A.units + 1 + 3 + 5 < cLine
    omega
  · have old : ∀ b o, hp.get? b = some o → h'.get? b = some o := fun b o e => k' b o (Nat.ne_of_lt (Nat.lt_succ_of_lt (Heap.lt_size e))) (k b o e)
    have z : hp.objs.size + 1 + 1 ≤ dx := by
      first
        | (simpa only [Heap.size_push] using dn)
        | exact dn
        | (have q := dn; rw [Heap.size_push, Heap.size_push] at q; exact q)
    exact ⟨rfl, hq h' tk' (hp.objs.size + 1) dx ⟨old, Nat.le_succ _, ⟨_, _, hx, rfl, rfl, rfl, rfl⟩, Nat.le_trans (Nat.le_trans (Nat.le_succ _) (Nat.le_succ _)) z, dne, hns⟩⟩
end
def jmsg_part (ms : Str) (a4 a5 a6 a7 : Pos) : Expr := .JoinedStr [.Constant (.str ms) 0 a4, .FormattedValue (.Name "part" a5) (-1) none a6] a7
theorem msg_part {prog : Program} {w : World} {A : Around} {qual : Str} {L fI cda cc x : Addr} {v0 : Value} {hp : Heap} {ms : Str} {a4 a5 a6 a7 : Pos} (hms : ms.length ≤ 1000) (f0 : FmtOk prog w A hp v0) : MsgOk prog w A (ksEnv qual eScope_part L fI (.ref cda) cc) (fun z => List.lookup z [((("part" : Str)), v0), ("self", Value.ref x)]) L hp (jmsg_part ms a4 a5 a6 a7) := by
  intro h E Q g d t os hn k q
  have l0 : (Str.empty ++ ms).length ≤ 1000 := by rw [Str.length_append]; show 0 + ms.length ≤ 1000; omega
  refine wpAny_JoinedStr (pos := a7) ?_
  refine Calls.Constant_str ⟨ms, _, rfl, sz_small (by omega), ?_⟩
  refine wpAny_FormattedValue_plain (ldN (v := v0) hn rfl ?_)
  refine f0 _ _ _ _ _ _ _ k fun m u tk hm => ?_
  have l1 : ((Str.empty ++ ms) ++ m).length ≤ 2100 := by rw [Str.length_append]; omega
  exact ⟨m, u, rfl, sz_small (by omega), sz_small (by omega), q _ _⟩
def jmsg_line (ms : Str) (a4 a5 a6 a7 : Pos) : Expr := .JoinedStr [.Constant (.str ms) 0 a4, .FormattedValue (.Name "line" a5) (-1) none a6] a7
theorem msg_line {prog : Program} {w : World} {A : Around} {qual : Str} {L fI cda cc x : Addr} {v0 : Value} {hp : Heap} {ms : Str} {a4 a5 a6 a7 : Pos} (hms : ms.length ≤ 1000) (f0 : FmtOk prog w A hp v0) : MsgOk prog w A (ksEnv qual eScope_line L fI (.ref cda) cc) (fun z => List.lookup z [((("line" : Str)), v0), ("self", Value.ref x)]) L hp (jmsg_line ms a4 a5 a6 a7) := by
  intro h E Q g d t os hn k q
  have l0 : (Str.empty ++ ms).length ≤ 1000 := by rw [Str.length_append]; show 0 + ms.length ≤ 1000; omega
  refine wpAny_JoinedStr (pos := a7) ?_
  refine Calls.Constant_str ⟨ms, _, rfl, sz_small (by omega), ?_⟩
  refine wpAny_FormattedValue_plain (ldN (v := v0) hn rfl ?_)
  refine f0 _ _ _ _ _ _ _ k fun m u tk hm => ?_
  have l1 : ((Str.empty ++ ms) ++ m).length ≤ 2100 := by rw [Str.length_append]; omega
  exact ⟨m, u, rfl, sz_small (by omega), sz_small (by omega), q _ _⟩
def jmsg_limit (ms : Str) (a4 a5 a6 a7 : Pos) : Expr := .JoinedStr [.Constant (.str ms) 0 a4, .FormattedValue (.Name "limit" a5) (-1) none a6] a7
theorem msg_limit {prog : Program} {w : World} {A : Around} {qual : Str} {L fI cda cc x : Addr} {v0 : Value} {hp : Heap} {ms : Str} {a4 a5 a6 a7 : Pos} (hms : ms.length ≤ 1000) (f0 : FmtOk prog w A hp v0) : MsgOk prog w A (ksEnv qual eScope_limit L fI (.ref cda) cc) (fun z => List.lookup z [((("limit" : Str)), v0), ("self", Value.ref x)]) L hp (jmsg_limit ms a4 a5 a6 a7) := by
  intro h E Q g d t os hn k q
  have l0 : (Str.empty ++ ms).length ≤ 1000 := by rw [Str.length_append]; show 0 + ms.length ≤ 1000; omega
  refine wpAny_JoinedStr (pos := a7) ?_
  refine Calls.Constant_str ⟨ms, _, rfl, sz_small (by omega), ?_⟩
  refine wpAny_FormattedValue_plain (ldN (v := v0) hn rfl ?_)
  refine f0 _ _ _ _ _ _ _ k fun m u tk hm => ?_
  have l1 : ((Str.empty ++ ms) ++ m).length ≤ 2100 := by rw [Str.length_append]; omega
  exact ⟨m, u, rfl, sz_small (by omega), sz_small (by omega), q _ _⟩
def jmsgs_name (ms mt : Str) (a4 a5 a6 a7 b1 : Pos) : Expr := .JoinedStr [.Constant (.str ms) 0 a4, .FormattedValue (.Name "name" a5) (-1) none a6, .Constant (.str mt) 0 b1] a7
theorem msgs_name {prog : Program} {w : World} {A : Around} {qual : Str} {L fI cda cc x : Addr} {v0 : Value} {hp : Heap} {ms mt : Str} {a4 a5 a6 a7 b1 : Pos} (hms : ms.length ≤ 1000) (hmt : mt.length ≤ 1000) (f0 : FmtOk prog w A hp v0) : MsgOk prog w A (ksEnv qual eScope_name L fI (.ref cda) cc) (fun z => List.lookup z [((("name" : Str)), v0), ("self", Value.ref x)]) L hp (jmsgs_name ms mt a4 a5 a6 a7 b1) := by
  intro h E Q g d t os hn k q
  have l0 : (Str.empty ++ ms).length ≤ 1000 := by rw [Str.length_append]; show 0 + ms.length ≤ 1000; omega
  refine wpAny_JoinedStr (pos := a7) ?_
  refine Calls.Constant_str ⟨ms, _, rfl, sz_small (by omega), ?_⟩
  refine wpAny_FormattedValue_plain (ldN (v := v0) hn rfl ?_)
  refine f0 _ _ _ _ _ _ _ k fun m u tk hm => ?_
  have l1 : ((Str.empty ++ ms) ++ m).length ≤ 2100 := by rw [Str.length_append]; omega
  refine ⟨m, u, rfl, sz_small (by omega), ?_⟩
  have l2 : (((Str.empty ++ ms) ++ m) ++ mt).length ≤ 3100 := by rw [Str.length_append]; omega
  exact Calls.Constant_str ⟨mt, _, rfl, sz_small (by omega), sz_small (by omega), q _ _⟩
def jmsg_part_where (ms mt : Str) (a4 a5 a6 a7 b1 b2 b3 : Pos) : Expr := .JoinedStr [.Constant (.str ms) 0 a4, .FormattedValue (.Name "part" a5) (-1) none a6, .Constant (.str mt) 0 b1, .FormattedValue (.Name "where" b2) (-1) none b3] a7
theorem msg_part_where {prog : Program} {w : World} {A : Around} {qual : Str} {L fI cda cc x : Addr} {v0 v1 : Value} {hp : Heap} {ms mt : Str} {a4 a5 a6 a7 b1 b2 b3 : Pos} (hms : ms.length ≤ 1000) (hmt : mt.length ≤ 1000) (f0 : FmtOk prog w A hp v0) (f1 : FmtOk prog w A hp v1) : MsgOk prog w A (ksEnv qual eScope_part_where L fI (.ref cda) cc) (fun z => List.lookup z [((("where" : Str)), v1), ("part", v0), ("self", Value.ref x)]) L hp (jmsg_part_where ms mt a4 a5 a6 a7 b1 b2 b3) := by
  intro h E Q g d t os hn k q
  have l0 : (Str.empty ++ ms).length ≤ 1000 := by rw [Str.length_append]; show 0 + ms.length ≤ 1000; omega
  refine wpAny_JoinedStr (pos := a7) ?_
  refine Calls.Constant_str ⟨ms, _, rfl, sz_small (by omega), ?_⟩
  refine wpAny_FormattedValue_plain (ldN (v := v0) hn rfl ?_)
  refine f0 _ _ _ _ _ _ _ k fun m u tk hm => ?_
  have l1 : ((Str.empty ++ ms) ++ m).length ≤ 2100 := by rw [Str.length_append]; omega
  refine ⟨m, u, rfl, sz_small (by omega), ?_⟩
  have l2 : (((Str.empty ++ ms) ++ m) ++ mt).length ≤ 3100 := by rw [Str.length_append]; omega
  refine Calls.Constant_str ⟨mt, _, rfl, sz_small (by omega), ?_⟩
  refine wpAny_FormattedValue_plain (ldN (v := v1) hn rfl ?_)
  refine f1 _ _ _ _ _ _ _ k fun m2 u2 tk2 hm2 => ?_
  have l3 : ((((Str.empty ++ ms) ++ m) ++ mt) ++ m2).length ≤ 4200 := by rw [Str.length_append]; omega
  exact ⟨m2, u2, rfl, sz_small (by omega), sz_small (by omega), q _ _⟩
def jmsg_part_place (ms mt : Str) (a4 a5 a6 a7 b1 b2 b3 : Pos) : Expr := .JoinedStr [.Constant (.str ms) 0 a4, .FormattedValue (.Name "part" a5) (-1) none a6, .Constant (.str mt) 0 b1, .FormattedValue (.Name "place" b2) (-1) none b3] a7
theorem msg_part_place {prog : Program} {w : World} {A : Around} {qual : Str} {L fI cda cc x : Addr} {v0 v1 : Value} {hp : Heap} {ms mt : Str} {a4 a5 a6 a7 b1 b2 b3 : Pos} (hms : ms.length ≤ 1000) (hmt : mt.length ≤ 1000) (f0 : FmtOk prog w A hp v0) (f1 : FmtOk prog w A hp v1) : MsgOk prog w A (ksEnv qual eScope_part_place L fI (.ref cda) cc) (fun z => List.lookup z [((("place" : Str)), v1), ("part", v0), ("self", Value.ref x)]) L hp (jmsg_part_place ms mt a4 a5 a6 a7 b1 b2 b3) := by
  intro h E Q g d t os hn k q
  have l0 : (Str.empty ++ ms).length ≤ 1000 := by rw [Str.length_append]; show 0 + ms.length ≤ 1000; omega
  refine wpAny_JoinedStr (pos := a7) ?_
  refine Calls.Constant_str ⟨ms, _, rfl, sz_small (by omega), ?_⟩
  refine wpAny_FormattedValue_plain (ldN (v := v0) hn rfl ?_)
  refine f0 _ _ _ _ _ _ _ k fun m u tk hm => ?_
  have l1 : ((Str.empty ++ ms) ++ m).length ≤ 2100 := by rw [Str.length_append]; omega
  refine ⟨m, u, rfl, sz_small (by omega), ?_⟩
  have l2 : (((Str.empty ++ ms) ++ m) ++ mt).length ≤ 3100 := by rw [Str.length_append]; omega
  refine Calls.Constant_str ⟨mt, _, rfl, sz_small (by omega), ?_⟩
  refine wpAny_FormattedValue_plain (ldN (v := v1) hn rfl ?_)
  refine f1 _ _ _ _ _ _ _ k fun m2 u2 tk2 hm2 => ?_
  have l3 : ((((Str.empty ++ ms) ++ m) ++ mt) ++ m2).length ≤ 4200 := by rw [Str.length_append]; omega
  exact ⟨m2, u2, rfl, sz_small (by omega), sz_small (by omega), q _ _⟩
end ErrG
end PySem
set_option Elab.async false
set_option linter.all false
set_option maxRecDepth 100000
set_option maxHeartbeats 4000000
namespace L2
open PySem PySem.Spec PyProof.Rows
/-- an error of the class C with its dict d, at a -/
def ExD (C d a : Addr) : HO := .ext fun h => ∃ (oe : Obj) (vs : Array Value), h.get? a = some oe ∧ Zc (.ref C) (some d) oe ∧ oe.data = .fields vs
theorem exD_ok {P : Program} {w : World} {H : Hp} {h : Heap} {a C d : Addr} {oe : Obj} {vs : Array Value} (e : h.get? a = some oe) (z : Zc (.ref C) (some d) oe) (dt : oe.data = .fields vs) : ObjOk P w H h a (ExD C d a) :=
  ⟨⟨oe, vs, e, z, dt⟩, ⟨oe, e⟩, fun _ _ ⟨o, v, q, r⟩ k => ⟨o, v, k o q, r⟩⟩
/-- an error of the class C with these fields -/
def EV (H : Hp) (e C : Addr) (fs : List (Str × V)) : Prop := ∃ d, d ≠ e ∧ H e = some (ExD C d e) ∧ H d = some (.xd fs)
theorem EV.same {H H' : Hp} {e C : Addr} {fs : List (Str × V)} (x : EV H e C fs) (s : ∀ b o, H b = some o → H' b = some o) : EV H' e C fs := by
  obtain ⟨d, n, h1, h2⟩ := x
  exact ⟨d, n, s _ _ h1, s _ _ h2⟩
/-- what a text of an error may be made of -/
def OkV (K : PySem.W.Frag) (H : Hp) (v : V) : Prop := (∃ y : Str, v = .str y ∧ y.length ≤ 1000) ∨ (∃ i : Int, v = .int i ∧ i.natAbs < 10 ^ 31)
def OkT (K : PySem.W.Frag) (H : Hp) (v : V) : Prop := ∃ (ap : Addr) (pl : List Int), v = .ref ap ∧ SqT K H ap (pl.map V.int) ∧ pl.length ≤ 50 ∧ ∀ i ∈ pl, 0 ≤ i ∧ i < 100
section
variable {X : Cx}
theorem fmt_of {pins : List (Addr × Obj)} {σ : St} {H : Hp} {s : Shared} {v : V} {v' : Value} (r : RelV v v') (o : OkV X.K H v) : ∀ (A' : Around) hp, PySem.ErrG.FmtOk X.prog X.w A' hp v' := by
  intro A' hp
  rcases o with ⟨y, rfl, hy⟩ | ⟨i, rfl, hi⟩
  · obtain ⟨t, rfl⟩ := r
    exact PySem.ErrG.fmt_str (by omega)
  · obtain ⟨t, rfl⟩ := r
    exact PySem.ErrG.fmt_int hi
/-- the texts of small ints -/
def intTx1 (pl : List Int) : List Str := pl.map fun i => ((toString i : String) : Str)
theorem short_int1 {i : Int} (h0 : 0 ≤ i) (h1 : i < 100) : (((toString i : String) : Str)).length ≤ 4 := by
  have key : ∀ n : Fin 100, (((toString ((n : Nat) : Int) : String) : Str)).length ≤ 4 := by decide +kernel
  obtain ⟨n, rfl⟩ : ∃ n : Nat, i = (n : Int) := ⟨i.toNat, by omega⟩
  exact key ⟨n, by omega⟩
theorem repr_ints1 {prog : Program} {w : World} : ∀ {pl : List Int} {its : List Value}, Vals (pl.map V.int) its → (∀ i ∈ pl, 0 ≤ i ∧ i < 100) → ReprAll prog w its (intTx1 pl)
  | [], _, r, _ => by
    cases r
    exact .nil
  | i :: pl, _, r, h => by
    cases r with
    | cons r1 r2 =>
      obtain ⟨t, rfl⟩ := r1
      have hi := h i List.mem_cons_self
      exact .cons (ReprIs.int t (by
        have : i.natAbs < 2 ^ 1920 := Nat.lt_of_lt_of_le (by omega : i.natAbs < 128) (by decide +kernel)
        by_cases z : i.natAbs = 0
        · rw [z]; decide
        · exact (Nat.log2_lt z).mpr this)) (repr_ints1 r2 fun z hz => h z (List.mem_cons_of_mem _ hz))
theorem tup_short1 {pl : List Int} (h : ∀ i ∈ pl, 0 ≤ i ∧ i < 100) (l : pl.length ≤ 50) : (tupleText (intTx1 pl)).length ≤ 1000 := by
  have h1 := fmt_text (intTx1 pl)
  have h2 : ∀ pl : List Int, (∀ i ∈ pl, 0 ≤ i ∧ i < 100) → piled (intTx1 pl) ≤ 6 * pl.length := fun pl => by
    induction pl with
    | nil => intro _; exact Nat.le_refl _
    | cons i pl ih =>
      intro h
      have a := short_int1 (h i List.mem_cons_self).1 (h i List.mem_cons_self).2
      have b := ih fun z hz => h z (List.mem_cons_of_mem _ hz)
      show piled (((toString i : String) : Str) :: intTx1 pl) ≤ _
      rw [piled_cons, List.length_cons]
      omega
  have := h2 pl h
  omega
theorem fmt_ofT {pins : List (Addr × Obj)} {σ : St} {H : Hp} {s : Shared} {v : V} {v' : Value} (I : Inv X pins σ H s) (r : RelV v v') (o : OkT X.K H v) : ∀ (A' : Around) hp, A'.units + 5 < cLine → (∀ b o, s.heap.get? b = some o → hp.get? b = some o) → PySem.ErrG.FmtOk X.prog X.w A' hp v' := by
  intro A' hp hu k
  obtain ⟨ap, pl, rfl, ht, hl, hb⟩ := o
  obtain rfl : v' = Value.ref ap := r
  obtain ⟨its, rvs, ⟨o, ho, hcl, n, hdt⟩, _⟩ := I.tuple ht
  exact PySem.ErrG.fmt_tup (by omega) (k _ _ ho) hcl hdt (repr_ints1 rvs hb) (tup_short1 hb hl)
/-- C(v) -/
def tMk1 (C : Addr) (f : Str) (K : PySem.W.Frag) (ta : TA) : TE := fun σ H Q => ta σ H fun vs H1 => ∃ v, vs = [v] ∧ OkV K H1 v ∧ ∀ e H2, (∀ b o, H1 b = some o → H2 b = some o) → H1 e = none → EV H2 e C [(f, v)] → Q (.ref e) H2
/-- C(v, u) -/
def tMk2 (C : Addr) (f g : Str) (ok : PySem.W.Frag → Hp → V → Prop) (K : PySem.W.Frag) (ta : TA) : TE := fun σ H Q => ta σ H fun vs H1 => ∃ v u, vs = [v, u] ∧ OkV K H1 v ∧ ok K H1 u ∧ ∀ e H2, (∀ b o, H1 b = some o → H2 b = some o) → H1 e = none → EV H2 e C [(g, u), (f, v)] → Q (.ref e) H2
theorem rel_part {v : V} {v' : Value} (r : RelV v v') (y : Str) : RelO (List.lookup y [(("part" : Str), v)]) (if y = "part" then some v' else none) := by
  by_cases hw : y = "part"
  · subst hw
    rw [if_pos rfl]
    have q : List.lookup ("part" : Str) [(("part" : Str), v)] = some v := by simp [List.lookup]
    rw [q]
    exact r
  · rw [if_neg hw]
    have qw : (y == ("part" : Str)) = false := by simpa using hw
    have q2 : List.lookup y [(("part" : Str), v)] = none := by simp [List.lookup, qw]
    rw [q2]
    trivial
theorem rel_line {v : V} {v' : Value} (r : RelV v v') (y : Str) : RelO (List.lookup y [(("line" : Str), v)]) (if y = "line" then some v' else none) := by
  by_cases hw : y = "line"
  · subst hw
    rw [if_pos rfl]
    have q : List.lookup ("line" : Str) [(("line" : Str), v)] = some v := by simp [List.lookup]
    rw [q]
    exact r
  · rw [if_neg hw]
    have qw : (y == ("line" : Str)) = false := by simpa using hw
    have q2 : List.lookup y [(("line" : Str), v)] = none := by simp [List.lookup, qw]
    rw [q2]
    trivial
theorem rel_limit {v : V} {v' : Value} (r : RelV v v') (y : Str) : RelO (List.lookup y [(("limit" : Str), v)]) (if y = "limit" then some v' else none) := by
  by_cases hw : y = "limit"
  · subst hw
    rw [if_pos rfl]
    have q : List.lookup ("limit" : Str) [(("limit" : Str), v)] = some v := by simp [List.lookup]
    rw [q]
    exact r
  · rw [if_neg hw]
    have qw : (y == ("limit" : Str)) = false := by simpa using hw
    have q2 : List.lookup y [(("limit" : Str), v)] = none := by simp [List.lookup, qw]
    rw [q2]
    trivial
theorem rel_name {v : V} {v' : Value} (r : RelV v v') (y : Str) : RelO (List.lookup y [(("name" : Str), v)]) (if y = "name" then some v' else none) := by
  by_cases hw : y = "name"
  · subst hw
    rw [if_pos rfl]
    have q : List.lookup ("name" : Str) [(("name" : Str), v)] = some v := by simp [List.lookup]
    rw [q]
    exact r
  · rw [if_neg hw]
    have qw : (y == ("name" : Str)) = false := by simpa using hw
    have q2 : List.lookup y [(("name" : Str), v)] = none := by simp [List.lookup, qw]
    rw [q2]
    trivial
theorem rel_part_where {v u : V} {v' u' : Value} (r : RelV v v') (q : RelV u u') (y : Str) : RelO (List.lookup y [(("where" : Str), u), ("part", v)]) (if y = "where" then some u' else if y = "part" then some v' else none) := by
  by_cases hp : y = "where"
  · subst hp
    rw [if_pos rfl]
    have e : List.lookup ("where" : Str) [(("where" : Str), u), ("part", v)] = some u := by simp [List.lookup]
    rw [e]
    exact q
  · rw [if_neg hp]
    have qw : (y == ("where" : Str)) = false := by simpa using hp
    have e : List.lookup y [(("where" : Str), u), ("part", v)] = List.lookup y [(("part" : Str), v)] := by simp [List.lookup, qw]
    rw [e]
    exact rel_part r y
theorem rel_part_place {v u : V} {v' u' : Value} (r : RelV v v') (q : RelV u u') (y : Str) : RelO (List.lookup y [(("place" : Str), u), ("part", v)]) (if y = "place" then some u' else if y = "part" then some v' else none) := by
  by_cases hp : y = "place"
  · subst hp
    rw [if_pos rfl]
    have e : List.lookup ("place" : Str) [(("place" : Str), u), ("part", v)] = some u := by simp [List.lookup]
    rw [e]
    exact q
  · rw [if_neg hp]
    have qw : (y == ("place" : Str)) = false := by simpa using hp
    have e : List.lookup y [(("place" : Str), u), ("part", v)] = List.lookup y [(("part" : Str), v)] := by simp [List.lookup, qw]
    rw [e]
    exact rel_part r y
theorem pe_mk_part {nm : Str} {C D fI : Addr} {a : Expr} {ta : TA} {p pos : Pos} {k : Nat} {ms : Str} {a4 a5 a6 a7 : Pos} (T : PySem.ErrG.Err_part X.prog X.K X.mg nm C D fI (PySem.ErrG.jmsg_part ms a4 a5 a6 a7)) (hms : ms.length ≤ 1000) (hr : Room (k + 1) X.A) (mS : X.mg "super" = none) (ha : PA X [a] ta) (hg : Gl X nm) (hd : (nm == ("__debug__" : Str)) = false)
    (he : starEach ([a]) X.env = (false, eval a X.env) :: starEach [] X.env := by rfl) (hpl : (backTo pos (starEach [] X.env)).any (·.1) = false := by rfl) :
    PE X (.Call (.Name nm p) [a] [] pos) (tMk1 C "part" X.K ta) := by
  refine ⟨fun pins s σ H Q I h => ?_⟩
  refine wpAny_Call_Name_kw (ld_glob I hg T.gC ?_ hd)
  refine PySem.W.callWith_K (h₀ := X.base) I.ok.mod.kin T.kC (thn (ha.run pos pins s σ H _ I h) fun us s1 hh => ?_) he hpl
  obtain ⟨vs, H1, I1, r1, v, ev, o0, q1⟩ := hh
  subst ev
  refine ⟨I1.kIn, ?_⟩
  cases r1 with
  | cons rv rn =>
    rename_i v' us'
    cases rn
    show wpAny _ _ (call (.ref C) [v']) _ _ _
    have hlim := I1.nolimit
    have hG := I1.mod.glob.keeps I1.bk
    obtain ⟨mb, hB0, hB1⟩ := I1.mod.blt
    have hB := hB0.keeps I1.bk
    have bS : mb "super" = some (.type "super") := (hB1 "super" (by decide)).trans rfl
    have f0 := fmt_of (pins := pins) (σ := σ) (s := s1) rv o0
    obtain ⟨hp, g, dr, tk, os⟩ := s1
    refine wpAny_call (PySem.ErrG.made_part T I1.kIn hG hB mS bS hlim (by have := hr.dp; omega) (by have := hr.un; omega) (fun A' qual cda cc L x hp' hu' k' => PySem.ErrG.msg_part hms (f0 A' hp') ) fun h' tk' e d M => ?_)
    obtain ⟨oe, fv, hoe, hc, hd, hdat, h1⟩ := M.obj
    have hns := M.ns
    obtain ⟨G', g1, g2⟩ := restrict h' fun b => decide (b ≠ e)
    have gk : ∀ b, b ≠ e → G'.get? b = h'.get? b := fun b hb => g1 b (decide_eq_true hb)
    have ge : G'.get? e = none := g2 e (by simp)
    have old : ∀ b o, hp.get? b = some o → G'.get? b = some o := fun b o q => (gk b (Nat.ne_of_lt (Nat.lt_of_lt_of_le (Heap.lt_size q) M.new))).trans (M.keep b o q)
    have ob : ObjOk X.prog X.w (upd H1 d (.xd [(("part" : Str), v)])) G' d (.xd [(("part" : Str), v)]) :=
      ⟨_, hns.at (fun o q => (gk d M.dne).trans q), fun f => rel_part rv f⟩
    have J : Inv X pins σ (upd H1 d (.xd [(("part" : Str), v)])) ⟨G', g, dr, tk', os⟩ := I1.laid (t' := tk') old M.dbig ob
    have he0 : H1 e = none := I1.hok.fresh M.new
    have hd0 : H1 d = none := I1.hok.fresh M.dbig
    have he1 : upd H1 d (.xd [(("part" : Str), v)]) e = none := by rw [upd_ne (Ne.symm M.dne)]; exact he0
    have gk' : ∀ b u, G'.get? b = some u → h'.get? b = some u := fun b u q => by
      by_cases hb : b = e
      · rw [hb, ge] at q; cases q
      · rw [← gk b hb]; exact q
    have J2 := J.laidN (o := ExD C d e) (t' := tk') gk' ge he1 (exD_ok hoe ⟨hc, hd⟩ hdat)
    refine ⟨.ref e, _, J2, rfl, q1 e _ (fun b o q => ?_) he0 ⟨d, M.dne, upd_same, (upd_ne M.dne).trans upd_same⟩⟩
    have n1 : b ≠ e := fun z => by rw [z, he0] at q; cases q
    have n2 : b ≠ d := fun z => by rw [z, hd0] at q; cases q
    rw [upd_ne n1, upd_ne n2]
    exact q
theorem pe_mk_line {nm : Str} {C D fI : Addr} {a : Expr} {ta : TA} {p pos : Pos} {k : Nat} {ms : Str} {a4 a5 a6 a7 : Pos} (T : PySem.ErrG.Err_line X.prog X.K X.mg nm C D fI (PySem.ErrG.jmsg_line ms a4 a5 a6 a7)) (hms : ms.length ≤ 1000) (hr : Room (k + 1) X.A) (mS : X.mg "super" = none) (ha : PA X [a] ta) (hg : Gl X nm) (hd : (nm == ("__debug__" : Str)) = false)
    (he : starEach ([a]) X.env = (false, eval a X.env) :: starEach [] X.env := by rfl) (hpl : (backTo pos (starEach [] X.env)).any (·.1) = false := by rfl) :
    PE X (.Call (.Name nm p) [a] [] pos) (tMk1 C "line" X.K ta) := by
  refine ⟨fun pins s σ H Q I h => ?_⟩
  refine wpAny_Call_Name_kw (ld_glob I hg T.gC ?_ hd)
  refine PySem.W.callWith_K (h₀ := X.base) I.ok.mod.kin T.kC (thn (ha.run pos pins s σ H _ I h) fun us s1 hh => ?_) he hpl
  obtain ⟨vs, H1, I1, r1, v, ev, o0, q1⟩ := hh
  subst ev
  refine ⟨I1.kIn, ?_⟩
  cases r1 with
  | cons rv rn =>
    rename_i v' us'
    cases rn
    show wpAny _ _ (call (.ref C) [v']) _ _ _
    have hlim := I1.nolimit
    have hG := I1.mod.glob.keeps I1.bk
    obtain ⟨mb, hB0, hB1⟩ := I1.mod.blt
    have hB := hB0.keeps I1.bk
    have bS : mb "super" = some (.type "super") := (hB1 "super" (by decide)).trans rfl
    have f0 := fmt_of (pins := pins) (σ := σ) (s := s1) rv o0
    obtain ⟨hp, g, dr, tk, os⟩ := s1
    refine wpAny_call (PySem.ErrG.made_line T I1.kIn hG hB mS bS hlim (by have := hr.dp; omega) (by have := hr.un; omega) (fun A' qual cda cc L x hp' hu' k' => PySem.ErrG.msg_line hms (f0 A' hp') ) fun h' tk' e d M => ?_)
    obtain ⟨oe, fv, hoe, hc, hd, hdat, h1⟩ := M.obj
    have hns := M.ns
    obtain ⟨G', g1, g2⟩ := restrict h' fun b => decide (b ≠ e)
    have gk : ∀ b, b ≠ e → G'.get? b = h'.get? b := fun b hb => g1 b (decide_eq_true hb)
    have ge : G'.get? e = none := g2 e (by simp)
    have old : ∀ b o, hp.get? b = some o → G'.get? b = some o := fun b o q => (gk b (Nat.ne_of_lt (Nat.lt_of_lt_of_le (Heap.lt_size q) M.new))).trans (M.keep b o q)
    have ob : ObjOk X.prog X.w (upd H1 d (.xd [(("line" : Str), v)])) G' d (.xd [(("line" : Str), v)]) :=
      ⟨_, hns.at (fun o q => (gk d M.dne).trans q), fun f => rel_line rv f⟩
    have J : Inv X pins σ (upd H1 d (.xd [(("line" : Str), v)])) ⟨G', g, dr, tk', os⟩ := I1.laid (t' := tk') old M.dbig ob
    have he0 : H1 e = none := I1.hok.fresh M.new
    have hd0 : H1 d = none := I1.hok.fresh M.dbig
    have he1 : upd H1 d (.xd [(("line" : Str), v)]) e = none := by rw [upd_ne (Ne.symm M.dne)]; exact he0
    have gk' : ∀ b u, G'.get? b = some u → h'.get? b = some u := fun b u q => by
      by_cases hb : b = e
      · rw [hb, ge] at q; cases q
      · rw [← gk b hb]; exact q
    have J2 := J.laidN (o := ExD C d e) (t' := tk') gk' ge he1 (exD_ok hoe ⟨hc, hd⟩ hdat)
    refine ⟨.ref e, _, J2, rfl, q1 e _ (fun b o q => ?_) he0 ⟨d, M.dne, upd_same, (upd_ne M.dne).trans upd_same⟩⟩
    have n1 : b ≠ e := fun z => by rw [z, he0] at q; cases q
    have n2 : b ≠ d := fun z => by rw [z, hd0] at q; cases q
    rw [upd_ne n1, upd_ne n2]
    exact q
theorem pe_mk_limit {nm : Str} {C D fI : Addr} {a : Expr} {ta : TA} {p pos : Pos} {k : Nat} {ms : Str} {a4 a5 a6 a7 : Pos} (T : PySem.ErrG.Err_limit X.prog X.K X.mg nm C D fI (PySem.ErrG.jmsg_limit ms a4 a5 a6 a7)) (hms : ms.length ≤ 1000) (hr : Room (k + 1) X.A) (mS : X.mg "super" = none) (ha : PA X [a] ta) (hg : Gl X nm) (hd : (nm == ("__debug__" : Str)) = false)
    (he : starEach ([a]) X.env = (false, eval a X.env) :: starEach [] X.env := by rfl) (hpl : (backTo pos (starEach [] X.env)).any (·.1) = false := by rfl) :
    PE X (.Call (.Name nm p) [a] [] pos) (tMk1 C "limit" X.K ta) := by
  refine ⟨fun pins s σ H Q I h => ?_⟩
  refine wpAny_Call_Name_kw (ld_glob I hg T.gC ?_ hd)
  refine PySem.W.callWith_K (h₀ := X.base) I.ok.mod.kin T.kC (thn (ha.run pos pins s σ H _ I h) fun us s1 hh => ?_) he hpl
  obtain ⟨vs, H1, I1, r1, v, ev, o0, q1⟩ := hh
  subst ev
  refine ⟨I1.kIn, ?_⟩
  cases r1 with
  | cons rv rn =>
    rename_i v' us'
    cases rn
    show wpAny _ _ (call (.ref C) [v']) _ _ _
    have hlim := I1.nolimit
    have hG := I1.mod.glob.keeps I1.bk
    obtain ⟨mb, hB0, hB1⟩ := I1.mod.blt
    have hB := hB0.keeps I1.bk
    have bS : mb "super" = some (.type "super") := (hB1 "super" (by decide)).trans rfl
    have f0 := fmt_of (pins := pins) (σ := σ) (s := s1) rv o0
    obtain ⟨hp, g, dr, tk, os⟩ := s1
    refine wpAny_call (PySem.ErrG.made_limit T I1.kIn hG hB mS bS hlim (by have := hr.dp; omega) (by have := hr.un; omega) (fun A' qual cda cc L x hp' hu' k' => PySem.ErrG.msg_limit hms (f0 A' hp') ) fun h' tk' e d M => ?_)
    obtain ⟨oe, fv, hoe, hc, hd, hdat, h1⟩ := M.obj
    have hns := M.ns
    obtain ⟨G', g1, g2⟩ := restrict h' fun b => decide (b ≠ e)
    have gk : ∀ b, b ≠ e → G'.get? b = h'.get? b := fun b hb => g1 b (decide_eq_true hb)
    have ge : G'.get? e = none := g2 e (by simp)
    have old : ∀ b o, hp.get? b = some o → G'.get? b = some o := fun b o q => (gk b (Nat.ne_of_lt (Nat.lt_of_lt_of_le (Heap.lt_size q) M.new))).trans (M.keep b o q)
    have ob : ObjOk X.prog X.w (upd H1 d (.xd [(("limit" : Str), v)])) G' d (.xd [(("limit" : Str), v)]) :=
      ⟨_, hns.at (fun o q => (gk d M.dne).trans q), fun f => rel_limit rv f⟩
    have J : Inv X pins σ (upd H1 d (.xd [(("limit" : Str), v)])) ⟨G', g, dr, tk', os⟩ := I1.laid (t' := tk') old M.dbig ob
    have he0 : H1 e = none := I1.hok.fresh M.new
    have hd0 : H1 d = none := I1.hok.fresh M.dbig
    have he1 : upd H1 d (.xd [(("limit" : Str), v)]) e = none := by rw [upd_ne (Ne.symm M.dne)]; exact he0
    have gk' : ∀ b u, G'.get? b = some u → h'.get? b = some u := fun b u q => by
      by_cases hb : b = e
      · rw [hb, ge] at q; cases q
      · rw [← gk b hb]; exact q
    have J2 := J.laidN (o := ExD C d e) (t' := tk') gk' ge he1 (exD_ok hoe ⟨hc, hd⟩ hdat)
    refine ⟨.ref e, _, J2, rfl, q1 e _ (fun b o q => ?_) he0 ⟨d, M.dne, upd_same, (upd_ne M.dne).trans upd_same⟩⟩
    have n1 : b ≠ e := fun z => by rw [z, he0] at q; cases q
    have n2 : b ≠ d := fun z => by rw [z, hd0] at q; cases q
    rw [upd_ne n1, upd_ne n2]
    exact q
theorem pe_mk_name {nm : Str} {C D fI : Addr} {a : Expr} {ta : TA} {p pos : Pos} {k : Nat} {ms mt : Str} {a4 a5 a6 a7 b1 : Pos} (T : PySem.ErrG.Err_name X.prog X.K X.mg nm C D fI (PySem.ErrG.jmsgs_name ms mt a4 a5 a6 a7 b1)) (hms : ms.length ≤ 1000) (hmt : mt.length ≤ 1000) (hr : Room (k + 1) X.A) (mS : X.mg "super" = none) (ha : PA X [a] ta) (hg : Gl X nm) (hd : (nm == ("__debug__" : Str)) = false)
    (he : starEach ([a]) X.env = (false, eval a X.env) :: starEach [] X.env := by rfl) (hpl : (backTo pos (starEach [] X.env)).any (·.1) = false := by rfl) :
    PE X (.Call (.Name nm p) [a] [] pos) (tMk1 C "name" X.K ta) := by
  refine ⟨fun pins s σ H Q I h => ?_⟩
  refine wpAny_Call_Name_kw (ld_glob I hg T.gC ?_ hd)
  refine PySem.W.callWith_K (h₀ := X.base) I.ok.mod.kin T.kC (thn (ha.run pos pins s σ H _ I h) fun us s1 hh => ?_) he hpl
  obtain ⟨vs, H1, I1, r1, v, ev, o0, q1⟩ := hh
  subst ev
  refine ⟨I1.kIn, ?_⟩
  cases r1 with
  | cons rv rn =>
    rename_i v' us'
    cases rn
    show wpAny _ _ (call (.ref C) [v']) _ _ _
    have hlim := I1.nolimit
    have hG := I1.mod.glob.keeps I1.bk
    obtain ⟨mb, hB0, hB1⟩ := I1.mod.blt
    have hB := hB0.keeps I1.bk
    have bS : mb "super" = some (.type "super") := (hB1 "super" (by decide)).trans rfl
    have f0 := fmt_of (pins := pins) (σ := σ) (s := s1) rv o0
    obtain ⟨hp, g, dr, tk, os⟩ := s1
    refine wpAny_call (PySem.ErrG.made_name T I1.kIn hG hB mS bS hlim (by have := hr.dp; omega) (by have := hr.un; omega) (fun A' qual cda cc L x hp' hu' k' => PySem.ErrG.msgs_name hms hmt (f0 A' hp') ) fun h' tk' e d M => ?_)
    obtain ⟨oe, fv, hoe, hc, hd, hdat, h1⟩ := M.obj
    have hns := M.ns
    obtain ⟨G', g1, g2⟩ := restrict h' fun b => decide (b ≠ e)
    have gk : ∀ b, b ≠ e → G'.get? b = h'.get? b := fun b hb => g1 b (decide_eq_true hb)
    have ge : G'.get? e = none := g2 e (by simp)
    have old : ∀ b o, hp.get? b = some o → G'.get? b = some o := fun b o q => (gk b (Nat.ne_of_lt (Nat.lt_of_lt_of_le (Heap.lt_size q) M.new))).trans (M.keep b o q)
    have ob : ObjOk X.prog X.w (upd H1 d (.xd [(("name" : Str), v)])) G' d (.xd [(("name" : Str), v)]) :=
      ⟨_, hns.at (fun o q => (gk d M.dne).trans q), fun f => rel_name rv f⟩
    have J : Inv X pins σ (upd H1 d (.xd [(("name" : Str), v)])) ⟨G', g, dr, tk', os⟩ := I1.laid (t' := tk') old M.dbig ob
    have he0 : H1 e = none := I1.hok.fresh M.new
    have hd0 : H1 d = none := I1.hok.fresh M.dbig
    have he1 : upd H1 d (.xd [(("name" : Str), v)]) e = none := by rw [upd_ne (Ne.symm M.dne)]; exact he0
    have gk' : ∀ b u, G'.get? b = some u → h'.get? b = some u := fun b u q => by
      by_cases hb : b = e
      · rw [hb, ge] at q; cases q
      · rw [← gk b hb]; exact q
    have J2 := J.laidN (o := ExD C d e) (t' := tk') gk' ge he1 (exD_ok hoe ⟨hc, hd⟩ hdat)
    refine ⟨.ref e, _, J2, rfl, q1 e _ (fun b o q => ?_) he0 ⟨d, M.dne, upd_same, (upd_ne M.dne).trans upd_same⟩⟩
    have n1 : b ≠ e := fun z => by rw [z, he0] at q; cases q
    have n2 : b ≠ d := fun z => by rw [z, hd0] at q; cases q
    rw [upd_ne n1, upd_ne n2]
    exact q
theorem pe_mk_part_where {nm : Str} {C D fI : Addr} {a a2 : Expr} {ta : TA} {p pos : Pos} {k : Nat} {ms mt : Str} {a4 a5 a6 a7 b1 b2 b3 : Pos} (T : PySem.ErrG.Err_part_where X.prog X.K X.mg nm C D fI (PySem.ErrG.jmsg_part_where ms mt a4 a5 a6 a7 b1 b2 b3)) (hms : ms.length ≤ 1000) (hmt : mt.length ≤ 1000) (hr : Room (k + 1) X.A) (mS : X.mg "super" = none) (ha : PA X [a, a2] ta) (hg : Gl X nm) (hd : (nm == ("__debug__" : Str)) = false)
    (he : starEach ([a, a2]) X.env = (false, eval a X.env) :: starEach [a2] X.env := by rfl) (hpl : (backTo pos (starEach [a2] X.env)).any (·.1) = false := by rfl) :
    PE X (.Call (.Name nm p) [a, a2] [] pos) (tMk2 C "part" "where" OkV X.K ta) := by
  refine ⟨fun pins s σ H Q I h => ?_⟩
  refine wpAny_Call_Name_kw (ld_glob I hg T.gC ?_ hd)
  refine PySem.W.callWith_K (h₀ := X.base) I.ok.mod.kin T.kC (thn (ha.run pos pins s σ H _ I h) fun us s1 hh => ?_) he hpl
  obtain ⟨vs, H1, I1, r1, v, u, ev, o0, o1, q1⟩ := hh
  subst ev
  refine ⟨I1.kIn, ?_⟩
  cases r1 with
  | cons rv rn =>
    rename_i v' us'
    cases rn with
    | cons ru rn2 =>
    rename_i u' us2
    cases rn2
    show wpAny _ _ (call (.ref C) [v', u']) _ _ _
    have hlim := I1.nolimit
    have hG := I1.mod.glob.keeps I1.bk
    obtain ⟨mb, hB0, hB1⟩ := I1.mod.blt
    have hB := hB0.keeps I1.bk
    have bS : mb "super" = some (.type "super") := (hB1 "super" (by decide)).trans rfl
    have f0 := fmt_of (pins := pins) (σ := σ) (s := s1) rv o0
    have f1 := fmt_of (pins := pins) (σ := σ) (s := s1) ru o1
    obtain ⟨hp, g, dr, tk, os⟩ := s1
    refine wpAny_call (PySem.ErrG.made_part_where T I1.kIn hG hB mS bS hlim (by have := hr.dp; omega) (by have := hr.un; omega) (fun A' qual cda cc L x hp' hu' k' => PySem.ErrG.msg_part_where hms hmt (f0 A' hp') (f1 A' hp')) fun h' tk' e d M => ?_)
    obtain ⟨oe, fv, hoe, hc, hd, hdat, h1⟩ := M.obj
    have hns := M.ns
    obtain ⟨G', g1, g2⟩ := restrict h' fun b => decide (b ≠ e)
    have gk : ∀ b, b ≠ e → G'.get? b = h'.get? b := fun b hb => g1 b (decide_eq_true hb)
    have ge : G'.get? e = none := g2 e (by simp)
    have old : ∀ b o, hp.get? b = some o → G'.get? b = some o := fun b o q => (gk b (Nat.ne_of_lt (Nat.lt_of_lt_of_le (Heap.lt_size q) M.new))).trans (M.keep b o q)
    have ob : ObjOk X.prog X.w (upd H1 d (.xd [(("where" : Str), u), ("part", v)])) G' d (.xd [(("where" : Str), u), ("part", v)]) :=
      ⟨_, hns.at (fun o q => (gk d M.dne).trans q), fun f => rel_part_where rv ru f⟩
    have J : Inv X pins σ (upd H1 d (.xd [(("where" : Str), u), ("part", v)])) ⟨G', g, dr, tk', os⟩ := I1.laid (t' := tk') old M.dbig ob
    have he0 : H1 e = none := I1.hok.fresh M.new
    have hd0 : H1 d = none := I1.hok.fresh M.dbig
    have he1 : upd H1 d (.xd [(("where" : Str), u), ("part", v)]) e = none := by rw [upd_ne (Ne.symm M.dne)]; exact he0
    have gk' : ∀ b u, G'.get? b = some u → h'.get? b = some u := fun b u q => by
      by_cases hb : b = e
      · rw [hb, ge] at q; cases q
      · rw [← gk b hb]; exact q
    have J2 := J.laidN (o := ExD C d e) (t' := tk') gk' ge he1 (exD_ok hoe ⟨hc, hd⟩ hdat)
    refine ⟨.ref e, _, J2, rfl, q1 e _ (fun b o q => ?_) he0 ⟨d, M.dne, upd_same, (upd_ne M.dne).trans upd_same⟩⟩
    have n1 : b ≠ e := fun z => by rw [z, he0] at q; cases q
    have n2 : b ≠ d := fun z => by rw [z, hd0] at q; cases q
    rw [upd_ne n1, upd_ne n2]
    exact q
theorem pe_mk_part_place {nm : Str} {C D fI : Addr} {a a2 : Expr} {ta : TA} {p pos : Pos} {k : Nat} {ms mt : Str} {a4 a5 a6 a7 b1 b2 b3 : Pos} (T : PySem.ErrG.Err_part_place X.prog X.K X.mg nm C D fI (PySem.ErrG.jmsg_part_place ms mt a4 a5 a6 a7 b1 b2 b3)) (hms : ms.length ≤ 1000) (hmt : mt.length ≤ 1000) (hr : Room (k + 1) X.A) (mS : X.mg "super" = none) (ha : PA X [a, a2] ta) (hg : Gl X nm) (hd : (nm == ("__debug__" : Str)) = false)
    (he : starEach ([a, a2]) X.env = (false, eval a X.env) :: starEach [a2] X.env := by rfl) (hpl : (backTo pos (starEach [a2] X.env)).any (·.1) = false := by rfl) :
    PE X (.Call (.Name nm p) [a, a2] [] pos) (tMk2 C "part" "place" OkT X.K ta) := by
  refine ⟨fun pins s σ H Q I h => ?_⟩
  refine wpAny_Call_Name_kw (ld_glob I hg T.gC ?_ hd)
  refine PySem.W.callWith_K (h₀ := X.base) I.ok.mod.kin T.kC (thn (ha.run pos pins s σ H _ I h) fun us s1 hh => ?_) he hpl
  obtain ⟨vs, H1, I1, r1, v, u, ev, o0, o1, q1⟩ := hh
  subst ev
  refine ⟨I1.kIn, ?_⟩
  cases r1 with
  | cons rv rn =>
    rename_i v' us'
    cases rn with
    | cons ru rn2 =>
    rename_i u' us2
    cases rn2
    show wpAny _ _ (call (.ref C) [v', u']) _ _ _
    have hlim := I1.nolimit
    have hG := I1.mod.glob.keeps I1.bk
    obtain ⟨mb, hB0, hB1⟩ := I1.mod.blt
    have hB := hB0.keeps I1.bk
    have bS : mb "super" = some (.type "super") := (hB1 "super" (by decide)).trans rfl
    have f0 := fmt_of (pins := pins) (σ := σ) (s := s1) rv o0
    have f1 := fmt_ofT I1 ru o1
    obtain ⟨hp, g, dr, tk, os⟩ := s1
    refine wpAny_call (PySem.ErrG.made_part_place T I1.kIn hG hB mS bS hlim (by have := hr.dp; omega) (by have := hr.un; omega) (fun A' qual cda cc L x hp' hu' k' => PySem.ErrG.msg_part_place hms hmt (f0 A' hp') (f1 A' hp' hu' k')) fun h' tk' e d M => ?_)
    obtain ⟨oe, fv, hoe, hc, hd, hdat, h1⟩ := M.obj
    have hns := M.ns
    obtain ⟨G', g1, g2⟩ := restrict h' fun b => decide (b ≠ e)
    have gk : ∀ b, b ≠ e → G'.get? b = h'.get? b := fun b hb => g1 b (decide_eq_true hb)
    have ge : G'.get? e = none := g2 e (by simp)
    have old : ∀ b o, hp.get? b = some o → G'.get? b = some o := fun b o q => (gk b (Nat.ne_of_lt (Nat.lt_of_lt_of_le (Heap.lt_size q) M.new))).trans (M.keep b o q)
    have ob : ObjOk X.prog X.w (upd H1 d (.xd [(("place" : Str), u), ("part", v)])) G' d (.xd [(("place" : Str), u), ("part", v)]) :=
      ⟨_, hns.at (fun o q => (gk d M.dne).trans q), fun f => rel_part_place rv ru f⟩
    have J : Inv X pins σ (upd H1 d (.xd [(("place" : Str), u), ("part", v)])) ⟨G', g, dr, tk', os⟩ := I1.laid (t' := tk') old M.dbig ob
    have he0 : H1 e = none := I1.hok.fresh M.new
    have hd0 : H1 d = none := I1.hok.fresh M.dbig
    have he1 : upd H1 d (.xd [(("place" : Str), u), ("part", v)]) e = none := by rw [upd_ne (Ne.symm M.dne)]; exact he0
    have gk' : ∀ b u, G'.get? b = some u → h'.get? b = some u := fun b u q => by
      by_cases hb : b = e
      · rw [hb, ge] at q; cases q
      · rw [← gk b hb]; exact q
    have J2 := J.laidN (o := ExD C d e) (t' := tk') gk' ge he1 (exD_ok hoe ⟨hc, hd⟩ hdat)
    refine ⟨.ref e, _, J2, rfl, q1 e _ (fun b o q => ?_) he0 ⟨d, M.dne, upd_same, (upd_ne M.dne).trans upd_same⟩⟩
    have n1 : b ≠ e := fun z => by rw [z, he0] at q; cases q
    have n2 : b ≠ d := fun z => by rw [z, hd0] at q; cases q
    rw [upd_ne n1, upd_ne n2]
    exact q
/-- what an own class of errors says -/
structure ExcC (K : PySem.W.Frag) (D : Addr) : Prop where
  hc : (PySem.W.clsIn K D).isSome = true
  hd : PySem.W.hasDictIn K D = true
  hg : PySem.W.findIn K (.ref D) "__getattribute__" = some (some (.builtin "BaseException.__getattribute__"))
  hk : PySem.W.findIn K (.ref D) "__getattr__" = some none
  hs : PySem.W.subIn K (.ref D) (.type "BaseException") = some true
  ha : PySem.W.findIn K (.ref D) "__class__" = some (some (.builtin "object.__class__"))
  hn : PySem.W.specialIn K (.builtin "object.__class__") "__get__" = some (some (.builtin "getset_descriptor.__get__"))
  ht : PySem.W.takesIn K (.builtin "object.__class__") = some true
  hm : PySem.W.mroIn K D (.type "object") = some true
theorem ev_inst {pins : List (Addr × Obj)} {τ : St} {H : Hp} {s : Shared} {e C : Addr} {fs : List (Str × V)} (x : EV H e C fs) (I : Inv X pins τ H s) : ∃ (oe od : Obj) (mA : Str → Option Value), PySem.W.InstAt s.heap e oe C (some od) ∧ (∀ f, PySem.W.lookIn f od = some (mA f)) ∧ ∀ f, RelO (fs.lookup f) (mA f) := by
  obtain ⟨d, n, h1, h2⟩ := x
  obtain ⟨⟨oe, vs, ho, hz, hdt⟩, _, _⟩ := I.hok e _ h1
  have hx : ObjOk X.prog X.w H s.heap d (.xd fs) := I.hok d _ h2
  obtain ⟨mA, hns, hr⟩ := hx
  obtain ⟨od, ho2, hl⟩ := lookIn_ns hns
  exact ⟨oe, od, _, ⟨ho, hz.1, by unfold PySem.W.notCls; rw [hdt] <;> rfl, by rw [hz.2]; exact ho2⟩, hl, hr⟩
/-- x.f, x an own error -/
def tFldV (K : PySem.W.Frag) (f : Str) (te : TE) : TE := fun σ H Q => te σ H fun x H1 => ∃ (e C : Addr) (fs : List (Str × V)) (v : V), x = .ref e ∧ EV H1 e C fs ∧ ExcC K C ∧ PySem.W.findIn K (.ref C) f = some none ∧ fs.lookup f = some v ∧ Q v H1
theorem pe_fldV {f : Str} {e : Expr} {te : TE} {pos : Pos} (he : PE X e te) (hb : attributeBase e f X.env (eval e X.env) = eval e X.env := by rfl) : PE X (.Attribute e f pos) (tFldV X.K f te) := by
  refine ⟨fun pins s σ H Q I h => ?_⟩
  refine attr_of hb (thn (he.run pins s σ H _ I h) fun u s1 hh => ?_)
  obtain ⟨x, H1, I1, rx, a, C, fs, v, ex, ev, T, nf, l, q⟩ := hh
  subst ex
  obtain rfl : u = Value.ref a := rx
  obtain ⟨oe, od, mA, J, hl, hr⟩ := ev_inst ev I1
  obtain ⟨u, hu, ru⟩ := RelO.some_of (v := v) (o := mA f) (by rw [← l]; exact hr f)
  exact HandSPX.exc_get I1.kIn J T.hg T.hk T.hs (PySem.W.findObj_own T.hd nf rfl (by rw [hl, hu])) (handed_of ru) ⟨v, H1, I1.tok _, ru, q⟩
/-- isinstance(e, c), e an own error held as a value -/
def rIsV (K : PySem.W.Frag) : List V → Hp → VK → Prop := fun xs H Q => ∃ (e C : Addr) (fs : List (Str × V)) (c : V) (cv : Value) (b : Bool), xs = [.ref e, c] ∧ EV H e C fs ∧ ExcC K C ∧ (∀ u, RelV c u → u = cv) ∧ PySem.W.kitOne K (.ref C) cv = some b ∧ Q (.bl b) H
theorem call_isV : CallR X (.builtin "isinstance") (rIsV X.K) := by
  intro pins s σ H xs us Q I r h
  obtain ⟨a, C, fs, c, cv, b, rfl, ev, T, hcv, e, q⟩ := h
  obtain ⟨u1, u2, rfl, r1, r2⟩ := vals2 r
  cases (show u1 = Value.ref a from r1)
  obtain rfl := hcv _ r2
  obtain ⟨oe, od, mA, J, hl, hr⟩ := ev_inst ev I
  exact PySem.W.kia_one (PySem.W.kitx_exc T.hc T.hg T.hk T.hs T.ha T.hn T.ht T.hm) I.kIn J e (fun z => nomatch z) fun tk => ⟨.bl b, H, I.kept (t' := tk) fun _ _ z => z, rfl, q⟩
end
end L2
set_option Elab.async false
set_option linter.all false
set_option maxRecDepth 100000
namespace TW
open PySem PySem.Spec PyProof.Rows L2 TL
theorem ix_listK {X : Cx} {K : PySem.W.Frag} (h : X.K = K) : IxR X (rIxL K) := h ▸ ix_list
theorem ix_tupK {X : Cx} {K : PySem.W.Frag} (h : X.K = K) : IxR X (rIxT K) := h ▸ ix_tup
theorem ix_seqK {X : Cx} {K : PySem.W.Frag} (h : X.K = K) : IxR X (rIx K) := h ▸ ix_seq
theorem pi_listK {X : Cx} {K : PySem.W.Frag} {tg l : Expr} {tl : TE} (h : X.K = K) (hl : PE X l tl) : PI X tg l (iList K tl) := h ▸ pi_list hl
theorem pi_tupK {X : Cx} {K : PySem.W.Frag} {tg l : Expr} {tl : TE} (h : X.K = K) (hl : PE X l tl) : PI X tg l (iTup K tl) := h ▸ pi_tup hl
theorem sl_listK {X : Cx} {K : PySem.W.Frag} (h : X.K = K) : SlR X (rSlL K) := h ▸ sl_list
theorem op_in_seqK {X : Cx} {K : PySem.W.Frag} (h : X.K = K) : OpR X (compareOp .In) (rIn K false) := h ▸ op_in_seq
theorem op_notIn_seqK {X : Cx} {K : PySem.W.Frag} (h : X.K = K) : OpR X (compareOp .NotIn) (rIn K true) := h ▸ op_notIn_seq
theorem call_isiK {X : Cx} {K : PySem.W.Frag} (h : X.K = K) : CallR X (.builtin "isinstance") (rIsi K) := h ▸ call_isi
end TW
set_option Elab.async false
set_option linter.all false
set_option maxRecDepth 100000
namespace L2
open PySem PySem.Spec PyProof.Rows
/-- a statement behind which a mark of one's own choice holds -/
def tCut (t : TS) : TS := fun D σ H => ∃ J : St → Hp → Prop, t { D with nx := J } σ H ∧ ∀ σ' H', J σ' H' → D.nx σ' H'
theorem ps_cut {X : Cx} {st : Stmt} {t : TS} (h : PS X st t) : PS X st (tCut t) := by
  refine ⟨fun pins s σ H D I q => ?_⟩
  obtain ⟨J, q1, q2⟩ := q
  refine thn (h.run pins s σ H { D with nx := J } I q1) fun f s1 z => ?_
  cases f with
  | next =>
    obtain ⟨σ', H', I', q⟩ := z
    exact ⟨σ', H', I', q2 _ _ q⟩
  | ret v => exact z
  | brk => exact z
  | cont => exact z
end L2
set_option Elab.async false
set_option linter.all false
set_option maxRecDepth 100000
namespace TW
open PySem PySem.Spec PyProof.Rows L2 TL
theorem cut_ints (ns : List Int) (lo hi : Option Int) : ∃ ms : List Int, cutV (ns.map V.int) lo hi = ms.map V.int ∧ ms.length ≤ ns.length := by
  refine ⟨(ns.drop (HT.sIx (ns.map V.int).length 0 lo)).take (HT.sIx (ns.map V.int).length (ns.map V.int).length hi - HT.sIx (ns.map V.int).length 0 lo), ?_, ?_⟩
  · unfold cutV
    rw [List.map_take, List.map_drop]
  · rw [List.length_take, List.length_drop]
    omega
/-- the ten classes are the globals of these names -/
structure Ten (mg : Str → Option Value) (c0 c1 c2 c3 c4 c5 c6 c7 c8 c9 : Addr) : Prop where
  g_c0 : mg "ThawError" = some (.ref c0)
  g_c1 : mg "InvalidHeap" = some (.ref c1)
  g_c2 : mg "InvalidProgram" = some (.ref c2)
  g_c3 : mg "InvalidFacts" = some (.ref c3)
  g_c4 : mg "InvalidArgument" = some (.ref c4)
  g_c5 : mg "InvalidText" = some (.ref c5)
  g_c6 : mg "LimitExceeded" = some (.ref c6)
  g_c7 : mg "RunError" = some (.ref c7)
  g_c8 : mg "Hollow" = some (.ref c8)
  g_c9 : mg "Refused" = some (.ref c9)
/-- what isinstance says of an error of the class C -/
structure Fam (K : PySem.W.Frag) (C c0 c1 c2 c3 c4 c5 c6 c7 c8 c9 : Addr) (bs : Nat → Bool) : Prop where
  k0 : PySem.W.kitOne K (.ref C) (.ref c0) = some true
  kv : PySem.W.kitOne K (.ref C) (.type "ValueError") = some true
  k1 : PySem.W.kitOne K (.ref C) (.ref c1) = some (bs 2)
  k2 : PySem.W.kitOne K (.ref C) (.ref c2) = some (bs 3)
  k3 : PySem.W.kitOne K (.ref C) (.ref c3) = some (bs 4)
  k4 : PySem.W.kitOne K (.ref C) (.ref c4) = some (bs 5)
  k5 : PySem.W.kitOne K (.ref C) (.ref c5) = some (bs 6)
  k6 : PySem.W.kitOne K (.ref C) (.ref c6) = some (bs 7)
  k7 : PySem.W.kitOne K (.ref C) (.ref c7) = some (bs 8)
  k8 : PySem.W.kitOne K (.ref C) (.ref c8) = some (bs 9)
  k9 : PySem.W.kitOne K (.ref C) (.ref c9) = some (bs 10)
def famL (bs : Nat → Bool) : List Bool := [true, true, bs 2, bs 3, bs 4, bs 5, bs 6, bs 7, bs 8, bs 9, bs 10]
def spFam (K : PySem.W.Frag) (c0 c1 c2 c3 c4 c5 c6 c7 c8 c9 : Addr) : Sp := fun vs H Q _ => ∃ (e C : Addr) (fs : List (Str × V)) (bs : Nat → Bool), vs = [.ref e] ∧ EV H e C fs ∧ ExcC K C ∧ Fam K C c0 c1 c2 c3 c4 c5 c6 c7 c8 c9 bs ∧
  ∀ q H', Same H H' → H' q = some (.lst ((famL bs).map V.bl)) → Q (.ref q) H'
def spDue81 : Sp := fun vs H Q _ => ∃ (a : Addr) (ps : List Int), vs = [.ref a] ∧ H a = some (.lst (ps.map V.int)) ∧ ∀ q H', H q = none → Same H H' → H' q = some (.lst (((List.range 11).map fun k : Nat => V.bl (decide (k < 2) || decide ((k : Int) ∈ ps))))) → Q (.ref q) H'
theorem same_one {H H' : Hp} {q : Addr} {o : HO} (s : Same H H') (n : H' q = none) : Same H (upd H' q o) := fun b u e => by
  have e2 := s _ _ e
  exact (upd_ne (ne_of_none e2 n)).trans e2
theorem inV_intsD {i : Int} {ps : List Int} : inV (.int i) (ps.map V.int) = decide (i ∈ ps) := by
  unfold inV
  rw [List.any_map]
  induction ps with
  | nil => rfl
  | cons j ps ih =>
    rw [List.any_cons, ih]
    show ((j == i) || _) = _
    by_cases z : j = i
    · subst z
      simp
    · have z2 : (j == i) = false := by simpa using z
      rw [z2, Bool.false_or]
      have z3 : (i ∈ j :: ps) ↔ i ∈ ps := by
        rw [List.mem_cons]
        exact ⟨fun h => h.resolve_left fun e => z e.symm, .inr⟩
      simp only [z3]
theorem flat_ints (ps : List Int) : (ps.map V.int).all flatV = true := by
  rw [List.all_map]
  exact List.all_eq_true.mpr fun _ _ => rfl
abbrev S_law_family : Stmt := topS 17
abbrev N_law_family : List Str := ["_law_e", "_law_base", "_law_first", "_law_second"]
abbrev P_law_family : List Str := ["_law_e"]
theorem sc_law_family : FnScope N_law_family P_law_family (defScope S_law_family) := ⟨rfl, rfl, rfl, by decide +kernel, rfl, by decide +kernel, by decide +kernel⟩
abbrev S_law_due : Stmt := topS 18
abbrev N_law_due : List Str := ["_law_places", "_law_k"]
abbrev P_law_due : List Str := ["_law_places"]
theorem sc_law_due : FnScope N_law_due P_law_due (defScope S_law_due) := ⟨rfl, rfl, rfl, by decide +kernel, rfl, by decide +kernel, by decide +kernel⟩
section
variable {P : Program} {w : World} {K : PySem.W.Frag} {mg : Str → Option Value} {base : Heap}
set_option maxHeartbeats 8000000 in
theorem ok_law_family {f c0 c1 c2 c3 c4 c5 c6 c7 c8 c9 : Addr} {fd : FuncData} (F : Fun K "_law_family" "_law_family" S_law_family f fd) (B : Bl mg) (T11 : Ten mg c0 c1 c2 c3 c4 c5 c6 c7 c8 c9) : FnOk P w K mg base CX0 1 f fd P_law_family (spFam K c0 c1 c2 c3 c4 c5 c6 c7 c8 c9) := by
  refine F.ok sc_law_family (fun vs H Q E h => ?_) (fun cdv A outer s H vs Q E hr h => ?_)
  · obtain ⟨e, C, fs, bs, rfl, _⟩ := h
    rfl
  · obtain ⟨e, C, fs, bs, rfl, ev, TC, FA, k⟩ := h
    refine ⟨_, (pss_cons (ps_set (i := 1) sc_law_family.nd rfl (by first | exact Or.inl rfl | exact Or.inr rfl) (pe_lst (pa_cons (pe_callB call_isV (by rfl) B.m_isinstance (by decide +kernel) (pa_cons (pv 0) (pa_cons (pe_glob (v := .ref c0) rfl T11.g_c0 rfl) pa_nil))) (pa_cons (pe_callB call_isV (by rfl) B.m_isinstance (by decide +kernel) (pa_cons (pv 0) (pa_cons (pe_bltn (v := .ty "ValueError") (by rfl) B.m_ValueError (by decide +kernel) rfl) pa_nil))) pa_nil))))
 (pss_cons (ps_set (i := 2) sc_law_family.nd rfl (by first | exact Or.inl rfl | exact Or.inr rfl) (pe_lst (pa_cons (pe_callB call_isV (by rfl) B.m_isinstance (by decide +kernel) (pa_cons (pv 0) (pa_cons (pe_glob (v := .ref c1) rfl T11.g_c1 rfl) pa_nil))) (pa_cons (pe_callB call_isV (by rfl) B.m_isinstance (by decide +kernel) (pa_cons (pv 0) (pa_cons (pe_glob (v := .ref c2) rfl T11.g_c2 rfl) pa_nil))) (pa_cons (pe_callB call_isV (by rfl) B.m_isinstance (by decide +kernel) (pa_cons (pv 0) (pa_cons (pe_glob (v := .ref c3) rfl T11.g_c3 rfl) pa_nil))) pa_nil)))))
 (pss_cons (ps_set (i := 3) sc_law_family.nd rfl (by first | exact Or.inl rfl | exact Or.inr rfl) (pe_lst (pa_cons (pe_callB call_isV (by rfl) B.m_isinstance (by decide +kernel) (pa_cons (pv 0) (pa_cons (pe_glob (v := .ref c4) rfl T11.g_c4 rfl) pa_nil))) (pa_cons (pe_callB call_isV (by rfl) B.m_isinstance (by decide +kernel) (pa_cons (pv 0) (pa_cons (pe_glob (v := .ref c5) rfl T11.g_c5 rfl) pa_nil))) (pa_cons (pe_callB call_isV (by rfl) B.m_isinstance (by decide +kernel) (pa_cons (pv 0) (pa_cons (pe_glob (v := .ref c6) rfl T11.g_c6 rfl) pa_nil))) pa_nil)))))
 (pss_one (ps_ret (pe_op op_cat (pe_op op_cat (pe_op op_cat (pv 1) (pv 2)) (pv 3)) (pe_lst (pa_cons (pe_callB call_isV (by rfl) B.m_isinstance (by decide +kernel) (pa_cons (pv 0) (pa_cons (pe_glob (v := .ref c7) rfl T11.g_c7 rfl) pa_nil))) (pa_cons (pe_callB call_isV (by rfl) B.m_isinstance (by decide +kernel) (pa_cons (pv 0) (pa_cons (pe_glob (v := .ref c8) rfl T11.g_c8 rfl) pa_nil))) (pa_cons (pe_callB call_isV (by rfl) B.m_isinstance (by decide +kernel) (pa_cons (pv 0) (pa_cons (pe_glob (v := .ref c9) rfl T11.g_c9 rfl) pa_nil))) pa_nil)))))))))), ?_⟩
    have s0 : Same H H := fun _ _ e => e
    refine ⟨_, rfl, e, C, fs, _, _, _, rfl, ev.same s0, TC, fun u r => r, FA.k0, ?_⟩
    refine ⟨_, rfl, e, C, fs, _, _, _, rfl, ev.same s0, TC, fun u r => r, FA.kv, ?_⟩
    refine ⟨by show 2 ≤ sizeLine; decide, fun q1 n1 => ?_⟩
    have s1 := same_one (o := .lst [.bl true, .bl true]) s0 n1
    refine ⟨_, rfl, e, C, fs, _, _, _, rfl, ev.same s1, TC, fun u r => r, FA.k1, ?_⟩
    refine ⟨_, rfl, e, C, fs, _, _, _, rfl, ev.same s1, TC, fun u r => r, FA.k2, ?_⟩
    refine ⟨_, rfl, e, C, fs, _, _, _, rfl, ev.same s1, TC, fun u r => r, FA.k3, ?_⟩
    refine ⟨by show 3 ≤ sizeLine; decide, fun q2 n2 => ?_⟩
    have s2 := same_one (o := .lst [.bl (bs 2), .bl (bs 3), .bl (bs 4)]) s1 n2
    refine ⟨_, rfl, e, C, fs, _, _, _, rfl, ev.same s2, TC, fun u r => r, FA.k4, ?_⟩
    refine ⟨_, rfl, e, C, fs, _, _, _, rfl, ev.same s2, TC, fun u r => r, FA.k5, ?_⟩
    refine ⟨_, rfl, e, C, fs, _, _, _, rfl, ev.same s2, TC, fun u r => r, FA.k6, ?_⟩
    refine ⟨by show 3 ≤ sizeLine; decide, fun q3 n3 => ?_⟩
    have s3 := same_one (o := .lst [.bl (bs 5), .bl (bs 6), .bl (bs 7)]) s2 n3
    have w3 : upd (upd (upd H q1 (.lst [.bl true, .bl true])) q2 (.lst [.bl (bs 2), .bl (bs 3), .bl (bs 4)])) q3 (.lst [.bl (bs 5), .bl (bs 6), .bl (bs 7)]) q3 = some (.lst [.bl (bs 5), .bl (bs 6), .bl (bs 7)]) := upd_same
    have w2 : upd (upd (upd H q1 (.lst [.bl true, .bl true])) q2 (.lst [.bl (bs 2), .bl (bs 3), .bl (bs 4)])) q3 (.lst [.bl (bs 5), .bl (bs 6), .bl (bs 7)]) q2 = some (.lst [.bl (bs 2), .bl (bs 3), .bl (bs 4)]) := same_new n3 _ _ upd_same
    have w1 : upd (upd (upd H q1 (.lst [.bl true, .bl true])) q2 (.lst [.bl (bs 2), .bl (bs 3), .bl (bs 4)])) q3 (.lst [.bl (bs 5), .bl (bs 6), .bl (bs 7)]) q1 = some (.lst [.bl true, .bl true]) := same_new n3 _ _ (same_new n2 _ _ upd_same)
    obtain ⟨G, eG⟩ : ∃ G, G = upd (upd (upd H q1 (.lst [.bl true, .bl true])) q2 (.lst [.bl (bs 2), .bl (bs 3), .bl (bs 4)])) q3 (.lst [.bl (bs 5), .bl (bs 6), .bl (bs 7)]) := ⟨_, rfl⟩
    rw [← eG] at s3 w1 w2 w3
    rw [← eG]
    clear eG
    refine ⟨_, rfl, _, rfl, q1, q2, _, _, rfl, rfl, w1, w2, by show 5 ≤ sizeLine; decide, fun q4 n4 => ?_⟩
    refine ⟨_, rfl, q4, q3, _, _, rfl, rfl, upd_same, same_new n4 _ _ w3, by show 8 ≤ sizeLine; decide, fun q5 n5 => ?_⟩
    have s5 : Same H (upd (upd G q4 _) q5 _) := same_one (o := .lst ([.bl true, .bl true] ++ [.bl (bs 2), .bl (bs 3), .bl (bs 4)] ++ [.bl (bs 5), .bl (bs 6), .bl (bs 7)])) (same_one (o := .lst ([.bl true, .bl true] ++ [.bl (bs 2), .bl (bs 3), .bl (bs 4)])) s3 n4) n5
    refine ⟨_, rfl, e, C, fs, _, _, _, rfl, ev.same s5, TC, fun u r => r, FA.k7, ?_⟩
    refine ⟨_, rfl, e, C, fs, _, _, _, rfl, ev.same s5, TC, fun u r => r, FA.k8, ?_⟩
    refine ⟨_, rfl, e, C, fs, _, _, _, rfl, ev.same s5, TC, fun u r => r, FA.k9, ?_⟩
    refine ⟨by show 3 ≤ sizeLine; decide, fun q6 n6 => ?_⟩
    refine ⟨q5, q6, _, _, rfl, rfl, same_new n6 _ _ upd_same, upd_same, by show 11 ≤ sizeLine; decide, fun q7 n7 => ?_⟩
    exact k _ _ (same_one (same_one s5 n6) n7) upd_same
set_option maxHeartbeats 8000000 in
theorem ok_law_due {f : Addr} {fd : FuncData} (F : Fun K "_law_due" "_law_due" S_law_due f fd) (B : Bl mg) : FnOk P w K mg base CX0 1 f fd P_law_due spDue81 := by
  refine F.ok sc_law_due (fun vs H Q E h => ?_) (fun cdv A outer s H vs Q E hr h => ?_)
  · obtain ⟨a, ps, rfl, _⟩ := h
    rfl
  · obtain ⟨a, ps, rfl, wa, k⟩ := h
    refine ⟨_, (pss_one (ps_ret (pe_lc (own := [("_law_k", 1)]) (g := gName 1) (tt := tYes) rfl sc_law_due.nd (pi_range1 (by rfl) B.m_range (pa_cons pe_int pa_nil)) (blkOk_by (own := [("_law_k", 1)]) (N := N_law_due) (sc := defScope S_law_due) (by decide +kernel)) (fun _ _ _ _ _ => (pg_name (i := 1) sc_law_due.nd rfl (by first | exact Or.inl rfl | exact Or.inr rfl))) (fun _ _ _ _ _ => pts_nil) (fun _ _ _ _ _ => (pe_or (pe_cmpR op_lt (pv 1) pe_int (nomark _)) (pe_one (pe_cmpR (op_in_seqK (K := K) rfl) (pv 1) (pv 0) (by rfl)))))))), ?_⟩
    refine ⟨_, rfl, by decide, by decide, fun D hD => ?_⟩
    refine lc_range (lo := 0) (n := (11 : Int).toNat) (fun i H2 => Same H H2 ∧ H2 D = some (.lst ((List.range i).map fun k : Nat => V.bl (decide (k < 2) || decide ((k : Int) ∈ ps))))) ⟨same_new hD, upd_same⟩ ?_ ?_
    · rintro i H2 hi ⟨s2, w2⟩
      have e0 : (0 : Int) + (i : Int) = (i : Int) := by omega
      rw [e0]
      have inj : inV (.int (i : Int)) (ps.map V.int) = decide ((i : Int) ∈ ps) := inV_intsD
      have fin : ∀ b : Bool, b = (decide (i < 2) || decide ((i : Int) ∈ ps)) → ∃ acc, H2 D = some (.lst acc) ∧ acc.length < sizeLine ∧ Same H (upd H2 D (.lst (acc ++ [.bl b]))) ∧ upd H2 D (.lst (acc ++ [.bl b])) D = some (.lst ((List.range (i + 1)).map fun k : Nat => V.bl (decide (k < 2) || decide ((k : Int) ∈ ps)))) := fun b hb => by
        refine ⟨_, w2, by rw [List.length_map, List.length_range]; exact Nat.lt_of_lt_of_le (show i < 100 from Nat.lt_of_lt_of_le hi (by decide)) (by decide), fun b' o e => ?_, ?_⟩
        · rw [upd_ne (ne_of_none e hD)]
          exact s2 _ _ e
        · rw [upd_same, hb, List.range_succ, List.map_append]
          rfl
      refine ⟨rfl, yes_of ?_⟩
      refine ⟨_, rfl, _, _, rfl, rfl, _, rfl, ?_⟩
      by_cases z : (i : Int) < 2
      · rw [decide_eq_true z, if_pos rfl]
        exact fin true (by rw [decide_eq_true (show i < 2 by omega)]; rfl)
      · rw [decide_eq_false z, if_neg Bool.false_ne_true]
        refine ⟨_, rfl, _, rfl, a, _, rfl, .inl (SqL.of (s2 _ _ wa)), rfl, flat_ints ps, ?_⟩
        refine fin _ ?_
        rw [decide_eq_false (show ¬ i < 2 by omega)]
        exact inj
    · rintro H2 ⟨s2, w2⟩
      exact k _ _ hD s2 w2

/-- what repr asks of data -/
structure Sw (d : PyData) (D W : Nat) : Prop where
  sS : d.showable = true
  sH : d.hasDict = false
  sD : d.depth ≤ D
  sL : d.leavesShort 40 = true
  sW : d.weight ≤ W
structure SwA (ds : List PyData) (D W : Nat) : Prop where
  sS : PyData.showableAll ds = true
  sH : PyData.hasDictAll ds = false
  sD : PyData.depthAll ds ≤ D
  sL : PyData.leavesShortAll 40 ds = true
  sW : PyData.weightAll ds ≤ W
theorem SwA.up {d : List PyData} {D D' W W' : Nat} (x : SwA d D W) (h1 : D ≤ D') (h2 : W ≤ W') : SwA d D' W' := ⟨x.sS, x.sH, Nat.le_trans x.sD h1, x.sL, Nat.le_trans x.sW h2⟩
theorem Sw.up {d : PyData} {D D' W W' : Nat} (x : Sw d D W) (h1 : D ≤ D') (h2 : W ≤ W') : Sw d D' W' := ⟨x.sS, x.sH, Nat.le_trans x.sD h1, x.sL, Nat.le_trans x.sW h2⟩
theorem SwA.nil {D : Nat} : SwA [] D 0 := ⟨rfl, rfl, Nat.zero_le _, rfl, Nat.le_refl _⟩
theorem SwA.cons {d : PyData} {ds : List PyData} {D V W : Nat} (x : Sw d D V) (y : SwA ds D W) : SwA (d :: ds) D (V + 1 + W) := by
  refine ⟨?_, ?_, ?_, ?_, ?_⟩
  · simp only [PyData.showableAll, x.sS, y.sS, Bool.and_self]
  · simp only [PyData.hasDictAll, x.sH, y.sH, Bool.or_self]
  · have a := x.sD
    have b := y.sD
    simp only [PyData.depthAll]
    omega
  · simp only [PyData.leavesShortAll, x.sL, y.sL, Bool.and_self]
  · have a := x.sW
    have b := y.sW
    simp only [PyData.weightAll]
    omega
theorem Sw.tup {ds : List PyData} {D W : Nat} (x : SwA ds D W) : Sw (.tuple ds) (D + 1) W := ⟨by simp only [PyData.showable, x.sS], by simp only [PyData.hasDict, x.sH], by have := x.sD; simp only [PyData.depth]; omega, by simp only [PyData.leavesShort, x.sL], by simp only [PyData.weight]; exact x.sW⟩
theorem Sw.lst {ds : List PyData} {D W : Nat} (x : SwA ds D W) : Sw (.list ds) (D + 1) W := ⟨by simp only [PyData.showable, x.sS], by simp only [PyData.hasDict, x.sH], by have := x.sD; simp only [PyData.depth]; omega, by simp only [PyData.leavesShort, x.sL], by simp only [PyData.weight]; exact x.sW⟩
theorem Sw.word {z : Str} (h : IsW z) {D : Nat} : Sw (.str z) D 8 := by
  refine ⟨by simp only [PyData.showable], by simp only [PyData.hasDict], by simp only [PyData.depth]; exact Nat.zero_le _, ?_, by simp only [PyData.weight]; exact h.2.1⟩
  simp only [PyData.leavesShort, List.all_eq_true, decide_eq_true_eq]
  exact fun c m => Nat.lt_of_le_of_lt (h.2.2 c m).2 (by decide)
theorem log_31 {i : Int} (hi : i.natAbs < 10 ^ 31) : i.natAbs.log2 < 1920 := by
  by_cases z : i.natAbs = 0
  · rw [z]; decide
  · exact (Nat.log2_lt z).mpr (Nat.lt_trans hi (by decide +kernel))
theorem Sw.int {i : Int} (hi : i.natAbs < 10 ^ 31) {D : Nat} : Sw (.int i) D 104 := by
  refine ⟨?_, by simp only [PyData.hasDict], by simp only [PyData.depth]; exact Nat.zero_le _, ?_, ?_⟩
  · simp only [PyData.showable]
    exact decide_eq_true (log_31 hi)
  · simp only [PyData.leavesShort]
    refine decide_eq_true ?_
    show (Str.ofString (toString i)).length ≤ 40
    have := int_text_length_le10 (k := 31) (by decide) hi
    rw [PySem.ofString_length]
    omega
  · simp only [PyData.weight]
    split
    · exact Nat.zero_le _
    · rename_i z
      have := (Nat.log2_lt (k := 103) (show i.natAbs ≠ 0 from fun e => z (by rw [Int.natAbs_eq_zero.mp e]; rfl))).mpr (Nat.lt_trans hi (by decide +kernel))
      omega
theorem Sw.bl {b : Bool} {D : Nat} : Sw (.bool b) D 1 := ⟨by simp only [PyData.showable], by simp only [PyData.hasDict], by simp only [PyData.depth]; exact Nat.zero_le _, by simp only [PyData.leavesShort], by simp [PyData.weight]⟩
theorem SwA.ints {D : Nat} : ∀ {pl : List Int}, (∀ i ∈ pl, 0 ≤ i ∧ i < 100) → SwA (pl.map PyData.int) D (105 * pl.length)
  | [], _ => .nil
  | i :: pl, h => (SwA.cons (.int (by have := h i List.mem_cons_self; have := (show 100 < 10 ^ 31 by decide); omega)) (SwA.ints fun z m => h z (List.mem_cons_of_mem _ m))).up (Nat.le_refl _) (by rw [List.length_cons]; omega)
theorem SwA.bls {D : Nat} : ∀ {bs : List Bool}, SwA (bs.map PyData.bool) D (2 * bs.length)
  | [] => .nil
  | b :: bs => (SwA.cons .bl SwA.bls).up (Nat.le_refl _) (by rw [List.length_cons]; omega)
theorem Sw.fits {d : PyData} {D W : Nat} (x : Sw d D W) (hW : W ≤ 10000) : d.shown.length ≤ sizeLine := by
  have h := PyData.shown_le 40 (by decide) d x.sL
  have h2 := x.sW
  rw [sizeLine_eq]
  omega
theorem dp_ints {K : PySem.W.Frag} {H : Hp} : ∀ {pl : List Int}, DpAll K H (pl.map V.int) (pl.map PyData.int)
  | [] => .nil
  | i :: pl => .cons (.int i) dp_ints
theorem dp_bls {K : PySem.W.Frag} {H : Hp} : ∀ {bs : List Bool}, DpAll K H (bs.map V.bl) (bs.map PyData.bool)
  | [] => .nil
  | b :: bs => .cons (.bl b) dp_bls
mutual
theorem Dp.same81 {K : PySem.W.Frag} {H H' : Hp} (s : Same H H') : ∀ {v : V} {d : PyData}, Dp K H v d → Dp K H' v d
  | _, _, .non => .non
  | _, _, .bl b => .bl b
  | _, _, .int i => .int i
  | _, _, .str x => .str x
  | _, _, .lst q a => .lst (q.elim (fun h => .inl (h.elim (fun e => .inl (s _ _ e)) (fun ⟨o, e⟩ => .inr ⟨o, s _ _ e⟩))) .inr) (DpAll.same81 s a)
  | _, _, .tup q a => .tup (q.elim (fun h => .inl (h.elim (fun e => .inl (s _ _ e)) (fun ⟨o, e⟩ => .inr ⟨o, s _ _ e⟩))) .inr) (DpAll.same81 s a)
theorem DpAll.same81 {K : PySem.W.Frag} {H H' : Hp} (s : Same H H') : ∀ {vs : List V} {ds : List PyData}, DpAll K H vs ds → DpAll K H' vs ds
  | _, _, .nil => .nil
  | _, _, .cons a b => .cons (Dp.same81 s a) (DpAll.same81 s b)
end
def dueL (ps : List Int) : List Bool := (List.range 11).map fun k : Nat => (decide (k < 2) || decide ((k : Int) ∈ ps))
theorem due_map (ps : List Int) : ((List.range 11).map fun k : Nat => V.bl (decide (k < 2) || decide ((k : Int) ∈ ps))) = (dueL ps).map V.bl := by
  unfold dueL
  rw [List.map_map]
  rfl
theorem due_fam : ∀ i : Fin 6, dueL [2 + ((i : Nat) : Int)] = famL (fun k => decide (k = 2 + (i : Nat))) := by decide +kernel
theorem due_89 : dueL [8, 9] = famL (fun k => decide (k = 8 ∨ k = 9)) := by decide +kernel
theorem due_810 : dueL [8, 10] = famL (fun k => decide (k = 8 ∨ k = 10)) := by decide +kernel
def fDt (b : Nat → Bool) : PyData := .list ((famL b).map PyData.bool)
theorem sw_fD {b : Nat → Bool} : Sw (fDt b) 1 22 := .lst .bls
theorem dp_fD {K : PySem.W.Frag} {H : Hp} {q : Addr} {b : Nat → Bool} (w : H q = some (.lst ((famL b).map V.bl))) : Dp K H (.ref q) (fDt b) := .lst (SqL.of w) dp_bls
def allD : PyData := .list [fDt (fun k => decide (k = 2)), fDt (fun k => decide (k = 3)), fDt (fun k => decide (k = 4)), fDt (fun k => decide (k = 5)), fDt (fun k => decide (k = 6)), fDt (fun k => decide (k = 7)), fDt (fun k => decide (k = 8 ∨ k = 9)), fDt (fun k => decide (k = 8 ∨ k = 10))]
theorem sw_allD : Sw allD 2 1000 := (Sw.lst (.cons sw_fD (.cons sw_fD (.cons sw_fD (.cons sw_fD (.cons sw_fD (.cons sw_fD (.cons sw_fD (.cons sw_fD .nil))))))))).up (Nat.le_refl _) (by decide)
structure Evs (c1 c2 c3 c4 c5 c6 c8 c9 e1 e2 e3 e4 e5 e6 e8 e9 t : Addr) (wd : Str) (n : Int) (G : Hp) : Prop where
  v1 : EV G e1 c1 [("where", .int n), ("part", .str wd)]
  v2 : EV G e2 c2 [("place", .ref t), ("part", .str wd)]
  v3 : EV G e3 c3 [("part", .str wd)]
  v4 : EV G e4 c4 [("part", .str wd)]
  v5 : EV G e5 c5 [("line", .int n)]
  v6 : EV G e6 c6 [("limit", .int n)]
  v8 : EV G e8 c8 [("name", .str wd)]
  v9 : EV G e9 c9 [("name", .str wd)]
theorem Evs.same {c1 c2 c3 c4 c5 c6 c8 c9 e1 e2 e3 e4 e5 e6 e8 e9 t : Addr} {wd : Str} {n : Int} {G G' : Hp} (x : Evs c1 c2 c3 c4 c5 c6 c8 c9 e1 e2 e3 e4 e5 e6 e8 e9 t wd n G) (s : Same G G') : Evs c1 c2 c3 c4 c5 c6 c8 c9 e1 e2 e3 e4 e5 e6 e8 e9 t wd n G' :=
  ⟨x.v1.same s, x.v2.same s, x.v3.same s, x.v4.same s, x.v5.same s, x.v6.same s, x.v8.same s, x.v9.same s⟩
def spLaw (K : PySem.W.Frag) : Sp := fun vs H Q _ => ∃ (a : Addr) (ns : List Int), vs = [.ref a] ∧ SqL K H a (ns.map V.int) ∧ ns.length ≤ 63 ∧ ∀ H', Q (.bl true) H'
abbrev S_law : Stmt := topS 19
abbrev N_law : List Str := ["_law_script", "_law_pool", "_law_word_here", "_law_number", "_law_place", "_law_k", "_law_heap", "_law_program", "_law_facts", "_law_argument", "_law_text", "_law_limit", "_law_hollow", "_law_refused", "_law_told", "_law_families", "_law_due_here"]
abbrev P_law : List Str := ["_law_script"]
theorem sc_law : FnScope N_law P_law (defScope S_law) := ⟨rfl, rfl, rfl, by decide +kernel, rfl, by decide +kernel, by decide +kernel⟩
set_option maxHeartbeats 16000000 in
theorem ok_law {f fD fW fX fF fDu c0 c1 c2 c3 c4 c5 c6 c7 c8 c9 i1 i2 i3 i4 i5 i6 i7 : Addr} {fd fdD fdW fdX fdF fdDu : FuncData} (F : Fun K "law" "law" S_law f fd) (B : Bl mg) (T11 : Ten mg c0 c1 c2 c3 c4 c5 c6 c7 c8 c9)
    {m1 m1' m2 m2' m3 m4 m5 m6 m7 m7' : Str} {x11 x12 x13 x14 x15 x16 x17 x21 x22 x23 x24 x25 x26 x27 x31 x32 x33 x34 x41 x42 x43 x44 x51 x52 x53 x54 x61 x62 x63 x64 x71 x72 x73 x74 x75 : Pos}
    (l1 : m1.length ≤ 1000) (l1' : m1'.length ≤ 1000) (l2 : m2.length ≤ 1000) (l2' : m2'.length ≤ 1000) (l3 : m3.length ≤ 1000) (l4 : m4.length ≤ 1000) (l5 : m5.length ≤ 1000) (l6 : m6.length ≤ 1000) (l7 : m7.length ≤ 1000) (l7' : m7'.length ≤ 1000)
    (T1 : PySem.ErrG.Err_part_where P K mg "InvalidHeap" c1 c1 i1 (PySem.ErrG.jmsg_part_where m1 m1' x11 x12 x13 x14 x15 x16 x17))
    (T2 : PySem.ErrG.Err_part_place P K mg "InvalidProgram" c2 c2 i2 (PySem.ErrG.jmsg_part_place m2 m2' x21 x22 x23 x24 x25 x26 x27))
    (T3 : PySem.ErrG.Err_part P K mg "InvalidFacts" c3 c3 i3 (PySem.ErrG.jmsg_part m3 x31 x32 x33 x34))
    (T4 : PySem.ErrG.Err_part P K mg "InvalidArgument" c4 c4 i4 (PySem.ErrG.jmsg_part m4 x41 x42 x43 x44))
    (T5 : PySem.ErrG.Err_line P K mg "InvalidText" c5 c5 i5 (PySem.ErrG.jmsg_line m5 x51 x52 x53 x54))
    (T6 : PySem.ErrG.Err_limit P K mg "LimitExceeded" c6 c6 i6 (PySem.ErrG.jmsg_limit m6 x61 x62 x63 x64))
    (T8 : PySem.ErrG.Err_name P K mg "Hollow" c8 c7 i7 (PySem.ErrG.jmsgs_name m7 m7' x71 x72 x73 x74 x75))
    (T9 : PySem.ErrG.Err_name P K mg "Refused" c9 c7 i7 (PySem.ErrG.jmsgs_name m7 m7' x71 x72 x73 x74 x75))
    (X1 : ExcC K c1) (X2 : ExcC K c2) (X3 : ExcC K c3) (X4 : ExcC K c4) (X5 : ExcC K c5) (X6 : ExcC K c6) (X8 : ExcC K c8) (X9 : ExcC K c9)
    (F1 : Fam K c1 c0 c1 c2 c3 c4 c5 c6 c7 c8 c9 (fun k => decide (k = 2))) (F2 : Fam K c2 c0 c1 c2 c3 c4 c5 c6 c7 c8 c9 (fun k => decide (k = 3))) (F3 : Fam K c3 c0 c1 c2 c3 c4 c5 c6 c7 c8 c9 (fun k => decide (k = 4))) (F4 : Fam K c4 c0 c1 c2 c3 c4 c5 c6 c7 c8 c9 (fun k => decide (k = 5)))
    (F5 : Fam K c5 c0 c1 c2 c3 c4 c5 c6 c7 c8 c9 (fun k => decide (k = 6))) (F6 : Fam K c6 c0 c1 c2 c3 c4 c5 c6 c7 c8 c9 (fun k => decide (k = 7))) (F8 : Fam K c8 c0 c1 c2 c3 c4 c5 c6 c7 c8 c9 (fun k => decide (k = 8 ∨ k = 9))) (F9 : Fam K c9 c0 c1 c2 c3 c4 c5 c6 c7 c8 c9 (fun k => decide (k = 8 ∨ k = 10)))
    (d_law_draw : Df K mg "_law_draw" S_law_draw fD fdD P_law_draw) (G_law_draw : FnOk P w K mg base CX0 1 fD fdD P_law_draw spDraw)
    (d_law_word : Df K mg "_law_word" S_law_word fW fdW P_law_word) (G_law_word : FnOk P w K mg base CX0 2 fW fdW P_law_word spWord)
    (d_law_exact : Df K mg "_law_exact" S_law_exact fX fdX P_law_exact) (G_law_exact : FnG P w K mg base CX0 1 fX fdX P_law_exact (spExact K))
    (d_law_family : Df K mg "_law_family" S_law_family fF fdF P_law_family) (G_law_family : FnOk P w K mg base CX0 1 fF fdF P_law_family (spFam K c0 c1 c2 c3 c4 c5 c6 c7 c8 c9))
    (d_law_due : Df K mg "_law_due" S_law_due fDu fdDu P_law_due) (G_law_due : FnOk P w K mg base CX0 1 fDu fdDu P_law_due spDue81) : FnG P w K mg base CX0 6 f fd P_law (spLaw K) := by
  refine F.still sc_law (fun vs H Q E h => ?_) (fun cdv A outer s H vs Q E hg hr h => ?_)
  · obtain ⟨a, ns, rfl, _⟩ := h
    rfl
  · obtain ⟨a, ns, rfl, hS, hl, k⟩ := h
    have hr_law_draw : Room 1 _ := hr.mono (by decide)
    have hr_law_word : Room 2 _ := hr.mono (by decide)
    have hr_law_exact : Room 1 _ := hr.mono (by decide)
    have hr_law_family : Room 1 _ := hr.mono (by decide)
    have hr_law_due : Room 1 _ := hr.mono (by decide)
    have hr0 : Room (4 + 1) _ := hr.mono (by decide)
    refine ⟨_, (pss_cons (ps_set (i := 1) sc_law.nd rfl (by first | exact Or.inl rfl | exact Or.inr rfl) (pe_lst (pa_cons (pe_callTy call_list_of (by rfl) B.m_list (by decide +kernel) (pa_cons (pe_slice sl_list (pv 0) po_none (po_some pe_int)) pa_nil)) (pa_cons pe_int (pa_cons pe_int pa_nil)))))
 (pss_cons (ps_set (i := 2) sc_law.nd rfl (by first | exact Or.inl rfl | exact Or.inr rfl) (pe_call G_law_word hr_law_word rfl d_law_word.g d_law_word.F.kp d_law_word.b .nil pass0 (pa_cons (pv 1) (pa_cons (pe_lst pa_nil) pa_nil))))
 (pss_cons (ps_set (i := 3) sc_law.nd rfl (by first | exact Or.inl rfl | exact Or.inr rfl) (pe_call G_law_draw hr_law_draw rfl d_law_draw.g d_law_draw.F.kp d_law_draw.b .nil pass0 (pa_cons (pv 1) (pa_cons (pe_op op_pow pe_int pe_int) pa_nil))))
 (pss_cons (ps_cut (ps_set (i := 4) sc_law.nd rfl (by first | exact Or.inl rfl | exact Or.inr rfl) (pe_callTy call_tuple_of (by rfl) B.m_tuple (by decide +kernel) (pa_cons (pe_lc (own := [("_law_k", 5)]) (g := gName 5) (tt := tYes) rfl sc_law.nd (pi_range1 (by rfl) B.m_range (pa_cons (pe_call G_law_draw hr_law_draw rfl d_law_draw.g d_law_draw.F.kp d_law_draw.b .nil pass0 (pa_cons (pv 1) (pa_cons pe_int pa_nil))) pa_nil)) (blkOk_by (own := [("_law_k", 5)]) (N := N_law) (sc := defScope S_law) (by decide +kernel)) (fun _ _ _ _ _ => (pg_name (i := 5) sc_law.nd rfl (by first | exact Or.inl rfl | exact Or.inr rfl))) (fun _ _ _ _ _ => pts_nil) (fun _ _ _ _ _ => (pe_call G_law_draw hr_law_draw rfl d_law_draw.g d_law_draw.F.kp d_law_draw.b .nil pass0 (pa_cons (pv 1) (pa_cons pe_int pa_nil))))) pa_nil))))
 (pss_cons (ps_set (i := 6) sc_law.nd rfl (by first | exact Or.inl rfl | exact Or.inr rfl) (pe_mk_part_where T1 l1 l1' hr0 B.m_super (pa_cons (pv 2) (pa_cons (pv 3) pa_nil)) rfl rfl))
 (pss_cons (ps_set (i := 7) sc_law.nd rfl (by first | exact Or.inl rfl | exact Or.inr rfl) (pe_mk_part_place T2 l2 l2' hr0 B.m_super (pa_cons (pv 2) (pa_cons (pv 4) pa_nil)) rfl rfl))
 (pss_cons (ps_set (i := 8) sc_law.nd rfl (by first | exact Or.inl rfl | exact Or.inr rfl) (pe_mk_part T3 l3 hr0 B.m_super (pa_cons (pv 2) pa_nil) rfl rfl))
 (pss_cons (ps_cut (ps_set (i := 9) sc_law.nd rfl (by first | exact Or.inl rfl | exact Or.inr rfl) (pe_mk_part T4 l4 hr0 B.m_super (pa_cons (pv 2) pa_nil) rfl rfl)))
 (pss_cons (ps_set (i := 10) sc_law.nd rfl (by first | exact Or.inl rfl | exact Or.inr rfl) (pe_mk_line T5 l5 hr0 B.m_super (pa_cons (pv 3) pa_nil) rfl rfl))
 (pss_cons (ps_set (i := 11) sc_law.nd rfl (by first | exact Or.inl rfl | exact Or.inr rfl) (pe_mk_limit T6 l6 hr0 B.m_super (pa_cons (pv 3) pa_nil) rfl rfl))
 (pss_cons (ps_set (i := 12) sc_law.nd rfl (by first | exact Or.inl rfl | exact Or.inr rfl) (pe_mk_name T8 l7 l7' hr0 B.m_super (pa_cons (pv 2) pa_nil) rfl rfl))
 (pss_cons (ps_cut (ps_set (i := 13) sc_law.nd rfl (by first | exact Or.inl rfl | exact Or.inr rfl) (pe_mk_name T9 l7 l7' hr0 B.m_super (pa_cons (pv 2) pa_nil) rfl rfl)))
 (pss_cons (ps_cut (ps_set (i := 14) sc_law.nd rfl (by first | exact Or.inl rfl | exact Or.inr rfl) (pe_lst (pa_cons (pe_fldV (pv 6)) (pa_cons (pe_fldV (pv 6)) (pa_cons (pe_fldV (pv 7)) (pa_cons (pe_fldV (pv 7)) (pa_cons (pe_fldV (pv 8)) (pa_cons (pe_fldV (pv 9)) (pa_cons (pe_fldV (pv 10)) (pa_cons (pe_fldV (pv 11)) pa_nil)))))))))))
 (pss_cons (ps_cut (ps_if (pt_not (pt_val (pe_callG G_law_exact hg hr_law_exact rfl d_law_exact.g d_law_exact.F.kp d_law_exact.b .nil pass0 (pa_cons (pv 14) (pa_cons (pe_lst (pa_cons (pv 2) (pa_cons (pv 3) (pa_cons (pv 2) (pa_cons (pv 4) (pa_cons (pv 2) (pa_cons (pv 2) (pa_cons (pv 3) (pa_cons (pv 3) pa_nil))))))))) pa_nil))))) (pss_one (ps_ret pe_bl)) pss_nil))
 (pss_cons (ps_cut (ps_if (pt_not (pt_val (pe_callG G_law_exact hg hr_law_exact rfl d_law_exact.g d_law_exact.F.kp d_law_exact.b .nil pass0 (pa_cons (pe_lst (pa_cons (pe_fldV (pv 12)) (pa_cons (pe_fldV (pv 13)) pa_nil))) (pa_cons (pe_lst (pa_cons (pv 2) (pa_cons (pv 2) pa_nil))) pa_nil))))) (pss_one (ps_ret pe_bl)) pss_nil))
 (pss_cons (ps_cut (ps_set (i := 15) sc_law.nd rfl (by first | exact Or.inl rfl | exact Or.inr rfl) (pe_lst (pa_cons (pe_call G_law_family hr_law_family rfl d_law_family.g d_law_family.F.kp d_law_family.b .nil pass0 (pa_cons (pv 6) pa_nil)) (pa_cons (pe_call G_law_family hr_law_family rfl d_law_family.g d_law_family.F.kp d_law_family.b .nil pass0 (pa_cons (pv 7) pa_nil)) (pa_cons (pe_call G_law_family hr_law_family rfl d_law_family.g d_law_family.F.kp d_law_family.b .nil pass0 (pa_cons (pv 8) pa_nil)) (pa_cons (pe_call G_law_family hr_law_family rfl d_law_family.g d_law_family.F.kp d_law_family.b .nil pass0 (pa_cons (pv 9) pa_nil)) pa_nil)))))))
 (pss_cons (ps_cut (ps_set (i := 15) sc_law.nd rfl (by first | exact Or.inl rfl | exact Or.inr rfl) (pe_op op_cat (pv 15) (pe_lst (pa_cons (pe_call G_law_family hr_law_family rfl d_law_family.g d_law_family.F.kp d_law_family.b .nil pass0 (pa_cons (pv 10) pa_nil)) (pa_cons (pe_call G_law_family hr_law_family rfl d_law_family.g d_law_family.F.kp d_law_family.b .nil pass0 (pa_cons (pv 11) pa_nil)) (pa_cons (pe_call G_law_family hr_law_family rfl d_law_family.g d_law_family.F.kp d_law_family.b .nil pass0 (pa_cons (pv 12) pa_nil)) (pa_cons (pe_call G_law_family hr_law_family rfl d_law_family.g d_law_family.F.kp d_law_family.b .nil pass0 (pa_cons (pv 13) pa_nil)) pa_nil))))))))
 (pss_cons (ps_set (i := 16) sc_law.nd rfl (by first | exact Or.inl rfl | exact Or.inr rfl) (pe_op op_cat (pe_lc (own := [("_law_k", 5)]) (g := gName 5) (tt := tYes) rfl sc_law.nd (pi_range1 (by rfl) B.m_range (pa_cons pe_int pa_nil)) (blkOk_by (own := [("_law_k", 5)]) (N := N_law) (sc := defScope S_law) (by decide +kernel)) (fun _ _ _ _ _ => (pg_name (i := 5) sc_law.nd rfl (by first | exact Or.inl rfl | exact Or.inr rfl))) (fun _ _ _ _ _ => pts_nil) (fun _ _ _ _ _ => (pe_call G_law_due hr_law_due rfl d_law_due.g d_law_due.F.kp d_law_due.b .nil pass0 (pa_cons (pe_lst (pa_cons (pe_op op_add pe_int (pv 5)) pa_nil)) pa_nil)))) (pe_lst (pa_cons (pe_call G_law_due hr_law_due rfl d_law_due.g d_law_due.F.kp d_law_due.b .nil pass0 (pa_cons (pe_lst (pa_cons pe_int (pa_cons pe_int pa_nil))) pa_nil)) (pa_cons (pe_call G_law_due hr_law_due rfl d_law_due.g d_law_due.F.kp d_law_due.b .nil pass0 (pa_cons (pe_lst (pa_cons pe_int (pa_cons pe_int pa_nil))) pa_nil)) pa_nil)))))
 (pss_one (ps_ret (pe_callG G_law_exact hg hr_law_exact rfl d_law_exact.g d_law_exact.F.kp d_law_exact.b .nil pass0 (pa_cons (pv 15) (pa_cons (pv 16) pa_nil))))))))))))))))))))))), ?_⟩
    obtain ⟨ms, hms, lms⟩ := cut_ints ns none (some 63)
    refine ⟨_, rfl, _, rfl, a, _, rfl, hS, fun q1 hq1 => ?_⟩
    rw [hms]
    refine ⟨q1, _, rfl, .inl (SqL.of upd_same), fun c hc => ⟨by show 3 ≤ sizeLine; decide, fun p hp => ?_⟩⟩
    let H0 : Hp := upd (upd (upd H q1 (.lst (ms.map V.int))) c (.lst (ms.map V.int))) p (.lst [.ref c, .int 0, .int 0])
    have cp : c ≠ p := ne_of_none upd_same hp
    have P0 : Pool p c H0 := ⟨cp.symm, ms, 0, 0, upd_same, (upd_ne cp).trans upd_same, by omega⟩
    -- word
    refine ⟨_, rfl, (by show 0 ≤ sizeLine; decide), fun qe ne => ⟨p, c, qe, [], rfl, P0.same (same_new ne), ⟨(P0.np ne).1, (P0.np ne).2, .inl upd_same⟩, fun wd H1 hw _ P1 f1 => ?_⟩⟩
    -- number
    refine ⟨_, rfl, _, _, rfl, rfl, ⟨by decide, by decide, by decide⟩, ?_⟩
    refine ⟨p, c, _, rfl, P1, by decide, by decide, fun n H2 n0 n1 P2 f2 => ?_⟩
    have nb : n.natAbs < 10 ^ 31 := by
      have e : (10 : Int) ^ (30 : Int).toNat = 1000000000000000000000000000000 := by decide
      have n2 : n < 1000000000000000000000000000000 := by rw [← e]; exact n1
      have e3 : (10 : Nat) ^ 31 = 10000000000000000000000000000000 := by decide
      rw [e3]
      omega
    -- place
    refine ⟨fun σ G => ∃ (t : Addr) (pl : List Int), σ = [some (.ref a), some (.ref p), some (.str wd), some (.int n), some (.ref t), none, none, none, none, none, none, none, none, none, none, none, none] ∧ G t = some (.tup (pl.map V.int)) ∧ pl.length ≤ 8 ∧ ∀ x ∈ pl, 0 ≤ x ∧ x < 100, ?_, ?_⟩
    · refine ⟨_, rfl, p, c, 8, rfl, P2, by decide, by decide, fun r H3 r0 r1 P3 f3 => ⟨_, rfl, by omega, by omega, fun D hD => ?_⟩⟩
      obtain ⟨dp, dc⟩ := P3.np hD
      refine lc_range (lo := 0) (n := r.toNat) (fun i H2 => Pool p c H2 ∧ ∃ pl : List Int, pl.length = i ∧ (∀ x ∈ pl, 0 ≤ x ∧ x < 100) ∧ H2 D = some (.lst (pl.map V.int)))
        ⟨P3.frN hD, [], rfl, fun x hx => (nomatch hx), upd_same⟩ ?_ ?_
      · rintro i H4 hi ⟨P4, pl, hpl, hr4, hD4⟩
        refine ⟨rfl, yes_of ?_⟩
        refine ⟨_, rfl, p, c, 20, rfl, P4, by decide, by decide, fun r5 H5 r50 r51 P5 f5 => ?_⟩
        have hD5 := f5 _ _ dp dc hD4
        refine ⟨_, hD5, by rw [List.length_map, hpl]; exact Nat.lt_of_lt_of_le (show i < 100 by omega) (by decide), ?_⟩
        have hnD : ∀ {o : HO}, Pool p c (upd H5 D o) := fun {o} => by
          obtain ⟨xs, a2, m2, g1, g2, g3⟩ := P5.ex
          exact ⟨P5.ne, xs, a2, m2, by rw [upd_ne dp.symm]; exact g1, by rw [upd_ne dc.symm]; exact g2, g3⟩
        refine ⟨hnD, pl ++ [r5], by rw [List.length_append, hpl]; rfl, fun x hx => ?_, ?_⟩
        · rcases List.mem_append.mp hx with hx | hx
          · exact hr4 x hx
          · have := List.mem_singleton.mp hx
            omega
        · rw [upd_same, List.map_append]
          rfl
      rintro H4 ⟨P4, pl, hpl, hr4, hD4⟩
      exact ⟨D, _, rfl, .inl ⟨SqL.of hD4, fun t nt => ⟨t, pl, rfl, upd_same, by omega, hr4⟩⟩⟩
    rintro σ G ⟨t, pl, rfl, wt, l8, hr4⟩
    have okw : ∀ H, OkV K H (.str wd) := fun H => .inl ⟨wd, rfl, by have := hw.2.1; omega⟩
    have okn : ∀ H, OkV K H (.int n) := fun H => .inr ⟨n, rfl, nb⟩
    -- the errors
    refine ⟨_, rfl, _, rfl, _, _, rfl, okw _, okn _, fun e1 G1 s1 n1' v1 => ?_⟩
    refine ⟨_, rfl, _, rfl, _, _, rfl, okw _, ⟨t, pl, rfl, SqT.of (s1 _ _ wt), by omega, hr4⟩, fun e2 G2 s2 n2' v2 => ?_⟩
    refine ⟨_, rfl, _, rfl, okw _, fun e3 G3 s3 n3' v3 => ?_⟩
    refine ⟨fun σ G => ∃ e4, σ = [some (.ref a), some (.ref p), some (.str wd), some (.int n), some (.ref t), none, some (.ref e1), some (.ref e2), some (.ref e3), some (.ref e4), none, none, none, none, none, none, none] ∧ G t = some (.tup (pl.map V.int)) ∧ EV G e1 c1 [("where", .int n), ("part", .str wd)] ∧ EV G e2 c2 [("place", .ref t), ("part", .str wd)] ∧ EV G e3 c3 [("part", .str wd)] ∧ EV G e4 c4 [("part", .str wd)], ?_, ?_⟩
    · refine ⟨_, rfl, _, rfl, okw _, fun e4 G4 s4 n4' v4 => ?_⟩
      exact ⟨e4, rfl, s4 _ _ (s3 _ _ (s2 _ _ (s1 _ _ wt))), ((v1.same s2).same s3).same s4, (v2.same s3).same s4, v3.same s4, v4⟩
    clear v3 v2 v1 s3 s2 s1
    rintro σ G4 ⟨e4, rfl, wt, v1, v2, v3, v4⟩
    refine ⟨_, rfl, _, rfl, okn _, fun e5 G5 s5 n5' v5 => ?_⟩
    refine ⟨_, rfl, _, rfl, okn _, fun e6 G6 s6 n6' v6 => ?_⟩
    refine ⟨_, rfl, _, rfl, okw _, fun e8 G8 s8 n8' v8 => ?_⟩
    refine ⟨fun σ G => ∃ e9, σ = [some (.ref a), some (.ref p), some (.str wd), some (.int n), some (.ref t), none, some (.ref e1), some (.ref e2), some (.ref e3), some (.ref e4), some (.ref e5), some (.ref e6), some (.ref e8), some (.ref e9), none, none, none] ∧ G t = some (.tup (pl.map V.int)) ∧ Evs c1 c2 c3 c4 c5 c6 c8 c9 e1 e2 e3 e4 e5 e6 e8 e9 t wd n G, ?_, ?_⟩
    · refine ⟨_, rfl, _, rfl, okw _, fun e9 G9 s9 n9' v9 => ?_⟩
      have S89 : Same G6 G9 := fun _ _ e => s9 _ _ (s8 _ _ e)
      have S69 : Same G5 G9 := fun _ _ e => S89 _ _ (s6 _ _ e)
      have S : Same G4 G9 := fun _ _ e => S69 _ _ (s5 _ _ e)
      exact ⟨e9, rfl, S _ _ wt, v1.same S, v2.same S, v3.same S, v4.same S, v5.same S69, v6.same S89, v8.same s9, v9⟩
    clear v1 v2 v3 v4 v5 v6 v8 s5 s6 s8
    rintro σ G9 ⟨e9, rfl, wt, V9⟩
    -- told
    refine ⟨fun σ G => ∃ q2, σ = [some (.ref a), some (.ref p), some (.str wd), some (.int n), some (.ref t), none, some (.ref e1), some (.ref e2), some (.ref e3), some (.ref e4), some (.ref e5), some (.ref e6), some (.ref e8), some (.ref e9), some (.ref q2), none, none] ∧ G t = some (.tup (pl.map V.int)) ∧ G q2 = some (.lst [V.str wd, V.int n, V.str wd, V.ref t, V.str wd, V.str wd, V.int n, V.int n]) ∧ Evs c1 c2 c3 c4 c5 c6 c8 c9 e1 e2 e3 e4 e5 e6 e8 e9 t wd n G, ?_, ?_⟩
    · refine ⟨_, rfl, e1, c1, _, _, rfl, V9.v1, X1, T1.no_part, rfl, ?_⟩
      refine ⟨_, rfl, e1, c1, _, _, rfl, V9.v1, X1, T1.no_where, rfl, ?_⟩
      refine ⟨_, rfl, e2, c2, _, _, rfl, V9.v2, X2, T2.no_part, rfl, ?_⟩
      refine ⟨_, rfl, e2, c2, _, _, rfl, V9.v2, X2, T2.no_place, rfl, ?_⟩
      refine ⟨_, rfl, e3, c3, _, _, rfl, V9.v3, X3, T3.no_part, rfl, ?_⟩
      refine ⟨_, rfl, e4, c4, _, _, rfl, V9.v4, X4, T4.no_part, rfl, ?_⟩
      refine ⟨_, rfl, e5, c5, _, _, rfl, V9.v5, X5, T5.no_line, rfl, ?_⟩
      refine ⟨_, rfl, e6, c6, _, _, rfl, V9.v6, X6, T6.no_limit, rfl, ?_⟩
      refine ⟨by show 8 ≤ sizeLine; decide, fun q2 nq2 => ?_⟩
      exact ⟨q2, rfl, same_new nq2 _ _ wt, upd_same, V9.same (same_new nq2)⟩
    clear wt V9
    rintro σ G9 ⟨q2, rfl, wt, wq, V9⟩
    refine ⟨fun σ G => σ = [some (.ref a), some (.ref p), some (.str wd), some (.int n), some (.ref t), none, some (.ref e1), some (.ref e2), some (.ref e3), some (.ref e4), some (.ref e5), some (.ref e6), some (.ref e8), some (.ref e9), some (.ref q2), none, none] ∧ Evs c1 c2 c3 c4 c5 c6 c8 c9 e1 e2 e3 e4 e5 e6 e8 e9 t wd n G, ?_, ?_⟩
    · refine ⟨_, rfl, _, rfl, _, rfl, _, rfl, _, rfl, _, rfl, _, rfl, _, rfl, _, rfl, by show 8 ≤ sizeLine; decide, fun q3 nq3 => ?_⟩
      have sn3 := same_new (o := .lst [V.str wd, V.int n, V.str wd, V.ref t, V.str wd, V.str wd, V.int n, V.int n]) nq3
      have swT : Sw (.list [.str wd, .int n, .str wd, .tuple (pl.map PyData.int), .str wd, .str wd, .int n, .int n]) 2 2000 :=
        (Sw.lst (.cons (.word hw) (.cons (.int nb) (.cons (.word hw) (.cons (.tup (.ints hr4)) (.cons (.word hw) (.cons (.word hw) (.cons (.int nb) (.cons (.int nb) .nil))))))))).up (Nat.le_refl _) (by omega)
      have dpA : ∀ {H : Hp}, H t = some (.tup (pl.map V.int)) → DpAll K H [V.str wd, V.int n, V.str wd, V.ref t, V.str wd, V.str wd, V.int n, V.int n] [.str wd, .int n, .str wd, .tuple (pl.map PyData.int), .str wd, .str wd, .int n, .int n] := fun {H} w =>
        .cons (.str _) (.cons (.int _) (.cons (.str _) (.cons (.tup (SqT.of w) dp_ints) (.cons (.str _) (.cons (.str _) (.cons (.int _) (.cons (.int _) .nil)))))))
      exact ⟨q2, q3, _, rfl, .lst (SqL.of (sn3 _ _ wq)) (dpA (sn3 _ _ wt)), .lst (SqL.of upd_same) (dpA (sn3 _ _ wt)), swT.sS, swT.sH, Nat.le_trans swT.sD (by decide), swT.fits (by decide), _, rfl, iteF ⟨rfl, V9.same sn3⟩⟩
    clear wt wq V9
    rintro σ G9 ⟨rfl, V9⟩
    -- the names
    refine ⟨fun σ G => σ = [some (.ref a), some (.ref p), some (.str wd), some (.int n), some (.ref t), none, some (.ref e1), some (.ref e2), some (.ref e3), some (.ref e4), some (.ref e5), some (.ref e6), some (.ref e8), some (.ref e9), some (.ref q2), none, none] ∧ Evs c1 c2 c3 c4 c5 c6 c8 c9 e1 e2 e3 e4 e5 e6 e8 e9 t wd n G, ?_, ?_⟩
    · refine ⟨_, rfl, e8, c8, _, _, rfl, V9.v8, X8, T8.no_name, rfl, ?_⟩
      refine ⟨_, rfl, e9, c9, _, _, rfl, V9.v9, X9, T9.no_name, rfl, ?_⟩
      refine ⟨by show 2 ≤ sizeLine; decide, fun q4 nq4 => ?_⟩
      refine ⟨_, rfl, _, rfl, by show 2 ≤ sizeLine; decide, fun q5 nq5 => ?_⟩
      have sn4 := same_new (o := .lst [V.str wd, V.str wd]) nq4
      have sn5 := same_new (o := .lst [V.str wd, V.str wd]) nq5
      have swN : Sw (.list [.str wd, .str wd]) 1 100 := (Sw.lst (.cons (.word hw) (.cons (.word hw) .nil))).up (Nat.le_refl _) (by decide)
      exact ⟨q4, q5, _, rfl, .lst (SqL.of (sn5 _ _ upd_same)) (.cons (.str _) (.cons (.str _) .nil)), .lst (SqL.of upd_same) (.cons (.str _) (.cons (.str _) .nil)), swN.sS, swN.sH, Nat.le_trans swN.sD (by decide), swN.fits (by decide), _, rfl, iteF ⟨rfl, V9.same (sn4.trans sn5)⟩⟩
    clear V9
    rintro σ G9 ⟨rfl, V9⟩
    -- the families
    refine ⟨fun σ G => ∃ q6 g1 g2 g3 g4, σ = [some (.ref a), some (.ref p), some (.str wd), some (.int n), some (.ref t), none, some (.ref e1), some (.ref e2), some (.ref e3), some (.ref e4), some (.ref e5), some (.ref e6), some (.ref e8), some (.ref e9), some (.ref q2), some (.ref q6), none] ∧ Evs c1 c2 c3 c4 c5 c6 c8 c9 e1 e2 e3 e4 e5 e6 e8 e9 t wd n G ∧ G q6 = some (.lst [V.ref g1, V.ref g2, V.ref g3, V.ref g4]) ∧ G g1 = some (.lst ((famL fun k => decide (k = 2)).map V.bl)) ∧ G g2 = some (.lst ((famL fun k => decide (k = 3)).map V.bl)) ∧ G g3 = some (.lst ((famL fun k => decide (k = 4)).map V.bl)) ∧ G g4 = some (.lst ((famL fun k => decide (k = 5)).map V.bl)), ?_, ?_⟩
    · refine ⟨_, rfl, e1, c1, _, _, rfl, V9.v1, X1, F1, fun g1 H1 s1 w1 => ?_⟩
      refine ⟨_, rfl, e2, c2, _, _, rfl, V9.v2.same s1, X2, F2, fun g2 H2 s2 w2 => ?_⟩
      have S2 := s1.trans s2
      refine ⟨_, rfl, e3, c3, _, _, rfl, V9.v3.same S2, X3, F3, fun g3 H3 s3 w3 => ?_⟩
      have S3 := S2.trans s3
      refine ⟨_, rfl, e4, c4, _, _, rfl, V9.v4.same S3, X4, F4, fun g4 H4 s4 w4 => ?_⟩
      have S4 := S3.trans s4
      refine ⟨by show 4 ≤ sizeLine; decide, fun q6 nq6 => ?_⟩
      have sn6 := same_new (o := .lst [V.ref g1, V.ref g2, V.ref g3, V.ref g4]) nq6
      exact ⟨q6, g1, g2, g3, g4, rfl, V9.same (S4.trans sn6), upd_same, sn6 _ _ (s4 _ _ (s3 _ _ (s2 _ _ w1))), sn6 _ _ (s4 _ _ (s3 _ _ w2)), sn6 _ _ (s4 _ _ w3), sn6 _ _ w4⟩
    clear V9
    rintro σ G9 ⟨q6, g1, g2, g3, g4, rfl, V9, wq, w1, w2, w3, w4⟩
    refine ⟨fun σ G => ∃ q8, σ = [some (.ref a), some (.ref p), some (.str wd), some (.int n), some (.ref t), none, some (.ref e1), some (.ref e2), some (.ref e3), some (.ref e4), some (.ref e5), some (.ref e6), some (.ref e8), some (.ref e9), some (.ref q2), some (.ref q8), none] ∧ Dp K G (.ref q8) allD, ?_, ?_⟩
    · refine ⟨_, rfl, ?_⟩
      refine ⟨_, rfl, e5, c5, _, _, rfl, V9.v5, X5, F5, fun g5 H5 s5 w5 => ?_⟩
      refine ⟨_, rfl, e6, c6, _, _, rfl, V9.v6.same s5, X6, F6, fun g6 H6 s6 w6 => ?_⟩
      have S6 := s5.trans s6
      refine ⟨_, rfl, e8, c8, _, _, rfl, V9.v8.same S6, X8, F8, fun g8 H8 s8 w8 => ?_⟩
      have S8 := S6.trans s8
      refine ⟨_, rfl, e9, c9, _, _, rfl, V9.v9.same S8, X9, F9, fun g9 H9 s9 w9 => ?_⟩
      refine ⟨by show 4 ≤ sizeLine; decide, fun q7 nq7 => ?_⟩
      have S9 := S8.trans s9
      have sn7 := same_new (o := .lst [V.ref g5, V.ref g6, V.ref g8, V.ref g9]) nq7
      refine ⟨q6, q7, _, _, rfl, rfl, sn7 _ _ (S9 _ _ wq), upd_same, by show 8 ≤ sizeLine; decide, fun q8 nq8 => ?_⟩
      have sn8 := sn7.trans (same_new (o := .lst ([V.ref g1, V.ref g2, V.ref g3, V.ref g4] ++ [V.ref g5, V.ref g6, V.ref g8, V.ref g9])) nq8)
      have T9' := S9.trans sn8
      exact ⟨q8, rfl, .lst (SqL.of upd_same) (.cons (dp_fD (T9' _ _ w1)) (.cons (dp_fD (T9' _ _ w2)) (.cons (dp_fD (T9' _ _ w3)) (.cons (dp_fD (T9' _ _ w4)) (.cons (dp_fD (sn8 _ _ (s9 _ _ (s8 _ _ (s6 _ _ w5))))) (.cons (dp_fD (sn8 _ _ (s9 _ _ (s8 _ _ w6)))) (.cons (dp_fD (sn8 _ _ (s9 _ _ w8))) (.cons (dp_fD (sn8 _ _ w9)) .nil))))))))⟩
    clear V9 wq w1 w2 w3 w4
    rintro σ G9 ⟨q8, rfl, dA⟩
    refine ⟨_, rfl, by decide, by decide, fun D hD => ?_⟩
    have sD := same_new (o := .lst []) hD
    refine lc_range (lo := 0) (n := (6 : Int).toNat) (fun i H2 => Same G9 H2 ∧ ∃ qs : List Addr, qs.length = i ∧ H2 D = some (.lst (qs.map V.ref)) ∧ ∀ j q, qs[j]? = some q → q ≠ D ∧ H2 q = some (.lst ((dueL [2 + ((j : Nat) : Int)]).map V.bl))) ⟨sD, [], rfl, upd_same, fun j q z => nomatch z⟩ ?_ ?_
    · rintro i H2 hi ⟨s2, qs, lq, wD, hq⟩
      have e0 : (0 : Int) + (i : Int) = (i : Int) := by omega
      rw [e0]
      refine ⟨rfl, yes_of ?_⟩
      refine ⟨_, rfl, _, _, rfl, rfl, by show 1 ≤ sizeLine; decide, fun l nl => ?_⟩
      refine ⟨l, [2 + (i : Int)], rfl, upd_same, fun q H3 nq s3 w3 => ?_⟩
      have s23 : Same H2 H3 := (same_new nl).trans s3
      rw [due_map] at w3
      have nqD : q ≠ D := fun z => by
        have := same_new (o := .lst ([2 + (i : Int)].map V.int)) nl _ _ wD
        rw [z] at nq
        exact absurd (this.symm.trans nq) nofun
      refine ⟨_, s23 _ _ wD, by rw [List.length_map, lq]; exact Nat.lt_of_lt_of_le (show i < 100 from Nat.lt_of_lt_of_le hi (by decide)) (by decide), fun b o e => ?_, qs ++ [q], by rw [List.length_append, lq]; rfl, ?_, fun j q' hj => ?_⟩
      · rw [upd_ne (ne_of_none e hD)]
        exact s23 _ _ (s2 _ _ e)
      · rw [upd_same, List.map_append]
        rfl
      · rcases Nat.lt_or_ge j qs.length with z | z
        · rw [List.getElem?_append_left z] at hj
          obtain ⟨n1, n2⟩ := hq j q' hj
          exact ⟨n1, (upd_ne n1).trans (s23 _ _ n2)⟩
        · have ej : j = qs.length := by
            have := (List.getElem?_eq_some_iff.mp hj).1
            rw [List.length_append] at this
            have : j < qs.length + 1 := this
            omega
          subst ej
          rw [List.getElem?_append_right (Nat.le_refl _), Nat.sub_self] at hj
          cases hj
          rw [lq]
          exact ⟨nqD, (upd_ne nqD).trans w3⟩
    rintro H2 ⟨s2, qs, lq, wD, hq⟩
    obtain ⟨x0, x1, x2, x3, x4, x5, rfl⟩ : ∃ x0 x1 x2 x3 x4 x5, qs = [x0, x1, x2, x3, x4, x5] := by
      match qs, lq with
      | [x0, x1, x2, x3, x4, x5], _ => exact ⟨x0, x1, x2, x3, x4, x5, rfl⟩
    have u0 : H2 x0 = some (.lst ((famL fun k => decide (k = 2)).map V.bl)) := (hq 0 x0 rfl).2.trans (congrArg (fun l : List Bool => some (HO.lst (l.map V.bl))) (due_fam 0))
    have u1 : H2 x1 = some (.lst ((famL fun k => decide (k = 3)).map V.bl)) := (hq 1 x1 rfl).2.trans (congrArg (fun l : List Bool => some (HO.lst (l.map V.bl))) (due_fam 1))
    have u2 : H2 x2 = some (.lst ((famL fun k => decide (k = 4)).map V.bl)) := (hq 2 x2 rfl).2.trans (congrArg (fun l : List Bool => some (HO.lst (l.map V.bl))) (due_fam 2))
    have u3 : H2 x3 = some (.lst ((famL fun k => decide (k = 5)).map V.bl)) := (hq 3 x3 rfl).2.trans (congrArg (fun l : List Bool => some (HO.lst (l.map V.bl))) (due_fam 3))
    have u4 : H2 x4 = some (.lst ((famL fun k => decide (k = 6)).map V.bl)) := (hq 4 x4 rfl).2.trans (congrArg (fun l : List Bool => some (HO.lst (l.map V.bl))) (due_fam 4))
    have u5 : H2 x5 = some (.lst ((famL fun k => decide (k = 7)).map V.bl)) := (hq 5 x5 rfl).2.trans (congrArg (fun l : List Bool => some (HO.lst (l.map V.bl))) (due_fam 5))
    clear hq lq
    refine ⟨by show 2 ≤ sizeLine; decide, fun l1' nl1 => ?_⟩
    refine ⟨l1', [8, 9], rfl, upd_same, fun y1 H3 _ s3 w8 => ?_⟩
    refine ⟨by show 2 ≤ sizeLine; decide, fun l2' nl2 => ?_⟩
    refine ⟨l2', [8, 10], rfl, upd_same, fun y2 H4 _ s4 w9 => ?_⟩
    rw [due_map, due_89] at w8
    rw [due_map, due_810] at w9
    have s34 : Same H3 H4 := (same_new nl2).trans s4
    have s24 : Same H2 H4 := ((same_new nl1).trans s3).trans s34
    refine ⟨by show 2 ≤ sizeLine; decide, fun q9 nq9 => ?_⟩
    have sn9 := same_new (o := .lst [V.ref y1, V.ref y2]) nq9
    refine ⟨D, q9, _, _, rfl, rfl, sn9 _ _ (s24 _ _ wD), upd_same, by show 8 ≤ sizeLine; decide, fun q10 nq10 => ?_⟩
    have snA := sn9.trans (same_new (o := .lst ([x0, x1, x2, x3, x4, x5].map V.ref ++ [V.ref y1, V.ref y2])) nq10)
    have sA := s24.trans snA
    have dB : Dp K (upd (upd H4 q9 _) q10 _) (.ref q10) allD := .lst (SqL.of (upd_same (o := .lst ([x0, x1, x2, x3, x4, x5].map V.ref ++ [V.ref y1, V.ref y2])))) (.cons (dp_fD (sA _ _ u0)) (.cons (dp_fD (sA _ _ u1)) (.cons (dp_fD (sA _ _ u2)) (.cons (dp_fD (sA _ _ u3)) (.cons (dp_fD (sA _ _ u4)) (.cons (dp_fD (sA _ _ u5)) (.cons (dp_fD (snA _ _ (s34 _ _ w8))) (.cons (dp_fD (snA _ _ w9)) .nil))))))))
    refine ⟨_, rfl, _, rfl, q8, q10, allD, rfl, Dp.same81 (s2.trans sA) dA, dB, sw_allD.sS, sw_allD.sH, Nat.le_trans sw_allD.sD (by decide), sw_allD.fits (by decide), ?_⟩
    exact k _
end
end TW
set_option Elab.async false
set_option linter.all false
set_option maxRecDepth 100000
namespace TW
open PySem PySem.Spec PyProof.Rows L2 TL
set_option maxHeartbeats 8000000 in
theorem all_mk {l : PySem.W.OpenLaw} {w : World} {K : PySem.W.Frag} {h : Heap} {mg : Str → Option Value} {fa c0 c1 c2 c3 c4 c5 c6 c7 c8 c9 i1 cda1 cc1 i2 cda2 cc2 i3 cda3 cc3 i4 cda4 cc4 i5 cda5 cc5 i6 cda6 cc6 i7 cda7 cc7 f_law_draw f_law_word f_law_exact f_law_family f_law_due f_law : Addr} (X : K.In h) (G : h.Ns mainGlobals mg) (hfa : mg "law" = some (.ref fa))
    {od_f_law_draw an_f_law_draw od_f_law_word an_f_law_word od_f_law_exact an_f_law_exact od_f_law_family an_f_law_family od_f_law_due an_f_law_due od_f_law an_f_law : Option Addr} {sl_f_law_draw sl_f_law_word sl_f_law_exact sl_f_law_family sl_f_law_due sl_f_law : Array (Option Value)} {oc_f_law_draw kV_f_law_draw dc_f_law_draw pm_f_law_draw cd_f_law_draw ct_f_law_draw oc_f_law_word kV_f_law_word dc_f_law_word pm_f_law_word cd_f_law_word ct_f_law_word oc_f_law_exact kV_f_law_exact dc_f_law_exact pm_f_law_exact cd_f_law_exact ct_f_law_exact oc_f_law_family kV_f_law_family dc_f_law_family pm_f_law_family cd_f_law_family ct_f_law_family oc_f_law_due kV_f_law_due dc_f_law_due pm_f_law_due cd_f_law_due ct_f_law_due oc_f_law kV_f_law dc_f_law pm_f_law cd_f_law ct_f_law : Value}
    {nm_1 q_1 : Str} {N_1 : Addr} {bs_1 : List Value} {sn_1 : List Str} {sub_1 : List Value} {ab_1 : Bool} {col_1 : Option Bool} {dd_1 : Option Addr} {m0_1 m1_1 m2_1 m3_1 m5_1 : Option Value}
    {nm_2 q_2 : Str} {N_2 : Addr} {bs_2 : List Value} {sn_2 : List Str} {sub_2 : List Value} {ab_2 : Bool} {col_2 : Option Bool} {dd_2 : Option Addr} {m0_2 m1_2 m2_2 m3_2 m5_2 : Option Value}
    {nm_3 q_3 : Str} {N_3 : Addr} {bs_3 : List Value} {sn_3 : List Str} {sub_3 : List Value} {ab_3 : Bool} {col_3 : Option Bool} {dd_3 : Option Addr} {m0_3 m1_3 m2_3 m3_3 m5_3 : Option Value}
    {nm_4 q_4 : Str} {N_4 : Addr} {bs_4 : List Value} {sn_4 : List Str} {sub_4 : List Value} {ab_4 : Bool} {col_4 : Option Bool} {dd_4 : Option Addr} {m0_4 m1_4 m2_4 m3_4 m5_4 : Option Value}
    {nm_5 q_5 : Str} {N_5 : Addr} {bs_5 : List Value} {sn_5 : List Str} {sub_5 : List Value} {ab_5 : Bool} {col_5 : Option Bool} {dd_5 : Option Addr} {m0_5 m1_5 m2_5 m3_5 m5_5 : Option Value}
    {nm_6 q_6 : Str} {N_6 : Addr} {bs_6 : List Value} {sn_6 : List Str} {sub_6 : List Value} {ab_6 : Bool} {col_6 : Option Bool} {dd_6 : Option Addr} {m0_6 m1_6 m2_6 m3_6 m5_6 : Option Value}
    {nm_8 q_8 : Str} {N_8 : Addr} {bs_8 : List Value} {sn_8 : List Str} {sub_8 : List Value} {ab_8 : Bool} {col_8 : Option Bool} {dd_8 : Option Addr} {m0_8 m1_8 m2_8 m3_8 m5_8 : Option Value}
    {nm_9 q_9 : Str} {N_9 : Addr} {bs_9 : List Value} {sn_9 : List Str} {sub_9 : List Value} {ab_9 : Bool} {col_9 : Option Bool} {dd_9 : Option Addr} {m0_9 m1_9 m2_9 m3_9 m5_9 : Option Value}
    {oD7 : Obj} {cd7 : ClassData}
    {ccl1 cll1 : Value} {cdd1 cld1 : Option Addr} {vs1 : Array Value} {ccs1 csl1 : Array (Option Value)} {tf1 : Tok} {od_e1 an_e1 : Option Addr} {sl_e1 : Array (Option Value)} {oc_e1 dc_e1 pm_e1 ct_e1 : Value}
    {ccl2 cll2 : Value} {cdd2 cld2 : Option Addr} {vs2 : Array Value} {ccs2 csl2 : Array (Option Value)} {tf2 : Tok} {od_e2 an_e2 : Option Addr} {sl_e2 : Array (Option Value)} {oc_e2 dc_e2 pm_e2 ct_e2 : Value}
    {ccl3 cll3 : Value} {cdd3 cld3 : Option Addr} {vs3 : Array Value} {ccs3 csl3 : Array (Option Value)} {tf3 : Tok} {od_e3 an_e3 : Option Addr} {sl_e3 : Array (Option Value)} {oc_e3 dc_e3 pm_e3 ct_e3 : Value}
    {ccl4 cll4 : Value} {cdd4 cld4 : Option Addr} {vs4 : Array Value} {ccs4 csl4 : Array (Option Value)} {tf4 : Tok} {od_e4 an_e4 : Option Addr} {sl_e4 : Array (Option Value)} {oc_e4 dc_e4 pm_e4 ct_e4 : Value}
    {ccl5 cll5 : Value} {cdd5 cld5 : Option Addr} {vs5 : Array Value} {ccs5 csl5 : Array (Option Value)} {tf5 : Tok} {od_e5 an_e5 : Option Addr} {sl_e5 : Array (Option Value)} {oc_e5 dc_e5 pm_e5 ct_e5 : Value}
    {ccl6 cll6 : Value} {cdd6 cld6 : Option Addr} {vs6 : Array Value} {ccs6 csl6 : Array (Option Value)} {tf6 : Tok} {od_e6 an_e6 : Option Addr} {sl_e6 : Array (Option Value)} {oc_e6 dc_e6 pm_e6 ct_e6 : Value}
    {ccl7 cll7 : Value} {cdd7 cld7 : Option Addr} {vs7 : Array Value} {ccs7 csl7 : Array (Option Value)} {tf7 : Tok} {od_e7 an_e7 : Option Addr} {sl_e7 : Array (Option Value)} {oc_e7 dc_e7 pm_e7 ct_e7 : Value}
    (a_f_law_draw : PySem.W.nsIn K mainGlobals "_law_draw" = some (some (.ref f_law_draw)))
    (l_f_law_draw : K.lookup f_law_draw = some ⟨oc_f_law_draw, od_f_law_draw, .func (PySem.W.fnOf "_law_draw" "_law_draw" (defArgs S_law_draw) (defBody S_law_draw) (defScope S_law_draw) .none kV_f_law_draw dc_f_law_draw pm_f_law_draw an_f_law_draw cd_f_law_draw ct_f_law_draw), sl_f_law_draw⟩)
    (c_f_law_draw : PySem.W.codeIn K cd_f_law_draw "_law_draw" = true)
    (k_f_law_draw : PySem.W.keepIn K (.ref f_law_draw) = true)
    (a_f_law_word : PySem.W.nsIn K mainGlobals "_law_word" = some (some (.ref f_law_word)))
    (l_f_law_word : K.lookup f_law_word = some ⟨oc_f_law_word, od_f_law_word, .func (PySem.W.fnOf "_law_word" "_law_word" (defArgs S_law_word) (defBody S_law_word) (defScope S_law_word) .none kV_f_law_word dc_f_law_word pm_f_law_word an_f_law_word cd_f_law_word ct_f_law_word), sl_f_law_word⟩)
    (c_f_law_word : PySem.W.codeIn K cd_f_law_word "_law_word" = true)
    (k_f_law_word : PySem.W.keepIn K (.ref f_law_word) = true)
    (a_f_law_exact : PySem.W.nsIn K mainGlobals "_law_exact" = some (some (.ref f_law_exact)))
    (l_f_law_exact : K.lookup f_law_exact = some ⟨oc_f_law_exact, od_f_law_exact, .func (PySem.W.fnOf "_law_exact" "_law_exact" (defArgs S_law_exact) (defBody S_law_exact) (defScope S_law_exact) .none kV_f_law_exact dc_f_law_exact pm_f_law_exact an_f_law_exact cd_f_law_exact ct_f_law_exact), sl_f_law_exact⟩)
    (c_f_law_exact : PySem.W.codeIn K cd_f_law_exact "_law_exact" = true)
    (k_f_law_exact : PySem.W.keepIn K (.ref f_law_exact) = true)
    (a_f_law_family : PySem.W.nsIn K mainGlobals "_law_family" = some (some (.ref f_law_family)))
    (l_f_law_family : K.lookup f_law_family = some ⟨oc_f_law_family, od_f_law_family, .func (PySem.W.fnOf "_law_family" "_law_family" (defArgs S_law_family) (defBody S_law_family) (defScope S_law_family) .none kV_f_law_family dc_f_law_family pm_f_law_family an_f_law_family cd_f_law_family ct_f_law_family), sl_f_law_family⟩)
    (c_f_law_family : PySem.W.codeIn K cd_f_law_family "_law_family" = true)
    (k_f_law_family : PySem.W.keepIn K (.ref f_law_family) = true)
    (a_f_law_due : PySem.W.nsIn K mainGlobals "_law_due" = some (some (.ref f_law_due)))
    (l_f_law_due : K.lookup f_law_due = some ⟨oc_f_law_due, od_f_law_due, .func (PySem.W.fnOf "_law_due" "_law_due" (defArgs S_law_due) (defBody S_law_due) (defScope S_law_due) .none kV_f_law_due dc_f_law_due pm_f_law_due an_f_law_due cd_f_law_due ct_f_law_due), sl_f_law_due⟩)
    (c_f_law_due : PySem.W.codeIn K cd_f_law_due "_law_due" = true)
    (k_f_law_due : PySem.W.keepIn K (.ref f_law_due) = true)
    (a_f_law : PySem.W.nsIn K mainGlobals "law" = some (some (.ref f_law)))
    (l_f_law : K.lookup f_law = some ⟨oc_f_law, od_f_law, .func (PySem.W.fnOf "law" "law" (defArgs S_law) (defBody S_law) (defScope S_law) .none kV_f_law dc_f_law pm_f_law an_f_law cd_f_law ct_f_law), sl_f_law⟩)
    (c_f_law : PySem.W.codeIn K cd_f_law "law" = true)
    (k_f_law : PySem.W.keepIn K (.ref f_law) = true)
    (z_len : PySem.W.nsIn K mainGlobals "len" = some none)
    (z_int : PySem.W.nsIn K mainGlobals "int" = some none)
    (z_list : PySem.W.nsIn K mainGlobals "list" = some none)
    (z_tuple : PySem.W.nsIn K mainGlobals "tuple" = some none)
    (z_dict : PySem.W.nsIn K mainGlobals "dict" = some none)
    (z_set : PySem.W.nsIn K mainGlobals "set" = some none)
    (z_all : PySem.W.nsIn K mainGlobals "all" = some none)
    (z_range : PySem.W.nsIn K mainGlobals "range" = some none)
    (z_enumerate : PySem.W.nsIn K mainGlobals "enumerate" = some none)
    (z_sorted : PySem.W.nsIn K mainGlobals "sorted" = some none)
    (z_min : PySem.W.nsIn K mainGlobals "min" = some none)
    (z_isinstance : PySem.W.nsIn K mainGlobals "isinstance" = some none)
    (z_bool : PySem.W.nsIn K mainGlobals "bool" = some none)
    (z_str : PySem.W.nsIn K mainGlobals "str" = some none)
    (z_zip : PySem.W.nsIn K mainGlobals "zip" = some none)
    (z_ValueError : PySem.W.nsIn K mainGlobals "ValueError" = some none)
    (z_super : PySem.W.nsIn K mainGlobals "super" = some none)
    (z_repr : PySem.W.nsIn K mainGlobals "repr" = some none)
    (g_c0 : PySem.W.nsIn K mainGlobals "ThawError" = some (some (.ref c0)))
    (g_c1 : PySem.W.nsIn K mainGlobals "InvalidHeap" = some (some (.ref c1)))
    (g_c2 : PySem.W.nsIn K mainGlobals "InvalidProgram" = some (some (.ref c2)))
    (g_c3 : PySem.W.nsIn K mainGlobals "InvalidFacts" = some (some (.ref c3)))
    (g_c4 : PySem.W.nsIn K mainGlobals "InvalidArgument" = some (some (.ref c4)))
    (g_c5 : PySem.W.nsIn K mainGlobals "InvalidText" = some (some (.ref c5)))
    (g_c6 : PySem.W.nsIn K mainGlobals "LimitExceeded" = some (some (.ref c6)))
    (g_c7 : PySem.W.nsIn K mainGlobals "RunError" = some (some (.ref c7)))
    (g_c8 : PySem.W.nsIn K mainGlobals "Hollow" = some (some (.ref c8)))
    (g_c9 : PySem.W.nsIn K mainGlobals "Refused" = some (some (.ref c9)))
    (eI1 : PySem.W.findIn K (.ref c1) "__init__" = some (some (.ref i1)))
    (eI2 : PySem.W.findIn K (.ref c2) "__init__" = some (some (.ref i2)))
    (eI3 : PySem.W.findIn K (.ref c3) "__init__" = some (some (.ref i3)))
    (eI4 : PySem.W.findIn K (.ref c4) "__init__" = some (some (.ref i4)))
    (eI5 : PySem.W.findIn K (.ref c5) "__init__" = some (some (.ref i5)))
    (eI6 : PySem.W.findIn K (.ref c6) "__init__" = some (some (.ref i6)))
    (eI8 : PySem.W.findIn K (.ref c8) "__init__" = some (some (.ref i7)))
    (eI9 : PySem.W.findIn K (.ref c9) "__init__" = some (some (.ref i7)))
    (l_e1 : K.lookup i1 = some ⟨oc_e1, od_e1, .func (PySem.W.ksFn "__init__" "InvalidHeap.__init__" (PySem.ErrG.eArgs_part_where ⟨6, 17, 6, 21⟩ ⟨6, 23, 6, 27⟩ ⟨6, 29, 6, 34⟩) (PySem.ErrG.eBody_part_where (PySem.ErrG.jmsg_part_where "no heap: " " at " ⟨7, 27, 7, 36⟩ ⟨7, 37, 7, 41⟩ ⟨7, 36, 7, 42⟩ ⟨7, 25, 7, 54⟩ ⟨7, 42, 7, 46⟩ ⟨7, 47, 7, 52⟩ ⟨7, 46, 7, 53⟩) ⟨7, 8, 7, 13⟩ ⟨7, 8, 7, 15⟩ ⟨7, 8, 7, 24⟩ ⟨7, 8, 7, 55⟩ ⟨7, 8, 7, 55⟩ ⟨8, 8, 8, 12⟩ ⟨8, 8, 8, 17⟩ ⟨8, 20, 8, 24⟩ ⟨8, 8, 8, 24⟩ ⟨9, 8, 9, 12⟩ ⟨9, 8, 9, 18⟩ ⟨9, 21, 9, 26⟩ ⟨9, 8, 9, 26⟩) PySem.ErrG.eScope_part_where .none .none dc_e1 pm_e1 an_e1 (.ref cda1) ct_e1 cc1), sl_e1⟩)
    (c_e1 : PySem.W.codeIn K (.ref cda1) "InvalidHeap.__init__" = true)
    (l_cd1 : K.lookup cda1 = some ⟨ccl1, cdd1, .fields vs1, ccs1⟩)
    (e_vs1 : vs1[2]? = some (.str "/claim/cut.py" tf1))
    (l_cc1 : K.lookup cc1 = some ⟨cll1, cld1, .cell (some (.ref c1)), csl1⟩)
    (et1 : PySem.W.typeIn K (.ref i1) = some (.type "function"))
    (l_e2 : K.lookup i2 = some ⟨oc_e2, od_e2, .func (PySem.W.ksFn "__init__" "InvalidProgram.__init__" (PySem.ErrG.eArgs_part_place ⟨12, 17, 12, 21⟩ ⟨12, 23, 12, 27⟩ ⟨12, 29, 12, 34⟩) (PySem.ErrG.eBody_part_place (PySem.ErrG.jmsg_part_place "no program: " " at " ⟨13, 27, 13, 39⟩ ⟨13, 40, 13, 44⟩ ⟨13, 39, 13, 45⟩ ⟨13, 25, 13, 57⟩ ⟨13, 45, 13, 49⟩ ⟨13, 50, 13, 55⟩ ⟨13, 49, 13, 56⟩) ⟨13, 8, 13, 13⟩ ⟨13, 8, 13, 15⟩ ⟨13, 8, 13, 24⟩ ⟨13, 8, 13, 58⟩ ⟨13, 8, 13, 58⟩ ⟨14, 8, 14, 12⟩ ⟨14, 8, 14, 17⟩ ⟨14, 20, 14, 24⟩ ⟨14, 8, 14, 24⟩ ⟨15, 8, 15, 12⟩ ⟨15, 8, 15, 18⟩ ⟨15, 21, 15, 26⟩ ⟨15, 8, 15, 26⟩) PySem.ErrG.eScope_part_place .none .none dc_e2 pm_e2 an_e2 (.ref cda2) ct_e2 cc2), sl_e2⟩)
    (c_e2 : PySem.W.codeIn K (.ref cda2) "InvalidProgram.__init__" = true)
    (l_cd2 : K.lookup cda2 = some ⟨ccl2, cdd2, .fields vs2, ccs2⟩)
    (e_vs2 : vs2[2]? = some (.str "/claim/cut.py" tf2))
    (l_cc2 : K.lookup cc2 = some ⟨cll2, cld2, .cell (some (.ref c2)), csl2⟩)
    (et2 : PySem.W.typeIn K (.ref i2) = some (.type "function"))
    (l_e3 : K.lookup i3 = some ⟨oc_e3, od_e3, .func (PySem.W.ksFn "__init__" "InvalidFacts.__init__" (PySem.ErrG.eArgs_part ⟨18, 17, 18, 21⟩ ⟨18, 23, 18, 27⟩) (PySem.ErrG.eBody_part (PySem.ErrG.jmsg_part "no facts: " ⟨19, 27, 19, 37⟩ ⟨19, 38, 19, 42⟩ ⟨19, 37, 19, 43⟩ ⟨19, 25, 19, 44⟩) ⟨19, 8, 19, 13⟩ ⟨19, 8, 19, 15⟩ ⟨19, 8, 19, 24⟩ ⟨19, 8, 19, 45⟩ ⟨19, 8, 19, 45⟩ ⟨20, 8, 20, 12⟩ ⟨20, 8, 20, 17⟩ ⟨20, 20, 20, 24⟩ ⟨20, 8, 20, 24⟩) PySem.ErrG.eScope_part .none .none dc_e3 pm_e3 an_e3 (.ref cda3) ct_e3 cc3), sl_e3⟩)
    (c_e3 : PySem.W.codeIn K (.ref cda3) "InvalidFacts.__init__" = true)
    (l_cd3 : K.lookup cda3 = some ⟨ccl3, cdd3, .fields vs3, ccs3⟩)
    (e_vs3 : vs3[2]? = some (.str "/claim/cut.py" tf3))
    (l_cc3 : K.lookup cc3 = some ⟨cll3, cld3, .cell (some (.ref c3)), csl3⟩)
    (et3 : PySem.W.typeIn K (.ref i3) = some (.type "function"))
    (l_e4 : K.lookup i4 = some ⟨oc_e4, od_e4, .func (PySem.W.ksFn "__init__" "InvalidArgument.__init__" (PySem.ErrG.eArgs_part ⟨23, 17, 23, 21⟩ ⟨23, 23, 23, 27⟩) (PySem.ErrG.eBody_part (PySem.ErrG.jmsg_part "wrong argument: " ⟨24, 27, 24, 43⟩ ⟨24, 44, 24, 48⟩ ⟨24, 43, 24, 49⟩ ⟨24, 25, 24, 50⟩) ⟨24, 8, 24, 13⟩ ⟨24, 8, 24, 15⟩ ⟨24, 8, 24, 24⟩ ⟨24, 8, 24, 51⟩ ⟨24, 8, 24, 51⟩ ⟨25, 8, 25, 12⟩ ⟨25, 8, 25, 17⟩ ⟨25, 20, 25, 24⟩ ⟨25, 8, 25, 24⟩) PySem.ErrG.eScope_part .none .none dc_e4 pm_e4 an_e4 (.ref cda4) ct_e4 cc4), sl_e4⟩)
    (c_e4 : PySem.W.codeIn K (.ref cda4) "InvalidArgument.__init__" = true)
    (l_cd4 : K.lookup cda4 = some ⟨ccl4, cdd4, .fields vs4, ccs4⟩)
    (e_vs4 : vs4[2]? = some (.str "/claim/cut.py" tf4))
    (l_cc4 : K.lookup cc4 = some ⟨cll4, cld4, .cell (some (.ref c4)), csl4⟩)
    (et4 : PySem.W.typeIn K (.ref i4) = some (.type "function"))
    (l_e5 : K.lookup i5 = some ⟨oc_e5, od_e5, .func (PySem.W.ksFn "__init__" "InvalidText.__init__" (PySem.ErrG.eArgs_line ⟨28, 17, 28, 21⟩ ⟨28, 23, 28, 27⟩) (PySem.ErrG.eBody_line (PySem.ErrG.jmsg_line "no right form in line " ⟨29, 27, 29, 49⟩ ⟨29, 50, 29, 54⟩ ⟨29, 49, 29, 55⟩ ⟨29, 25, 29, 56⟩) ⟨29, 8, 29, 13⟩ ⟨29, 8, 29, 15⟩ ⟨29, 8, 29, 24⟩ ⟨29, 8, 29, 57⟩ ⟨29, 8, 29, 57⟩ ⟨30, 8, 30, 12⟩ ⟨30, 8, 30, 17⟩ ⟨30, 20, 30, 24⟩ ⟨30, 8, 30, 24⟩) PySem.ErrG.eScope_line .none .none dc_e5 pm_e5 an_e5 (.ref cda5) ct_e5 cc5), sl_e5⟩)
    (c_e5 : PySem.W.codeIn K (.ref cda5) "InvalidText.__init__" = true)
    (l_cd5 : K.lookup cda5 = some ⟨ccl5, cdd5, .fields vs5, ccs5⟩)
    (e_vs5 : vs5[2]? = some (.str "/claim/cut.py" tf5))
    (l_cc5 : K.lookup cc5 = some ⟨cll5, cld5, .cell (some (.ref c5)), csl5⟩)
    (et5 : PySem.W.typeIn K (.ref i5) = some (.type "function"))
    (l_e6 : K.lookup i6 = some ⟨oc_e6, od_e6, .func (PySem.W.ksFn "__init__" "LimitExceeded.__init__" (PySem.ErrG.eArgs_limit ⟨33, 17, 33, 21⟩ ⟨33, 23, 33, 28⟩) (PySem.ErrG.eBody_limit (PySem.ErrG.jmsg_limit "more than " ⟨34, 27, 34, 37⟩ ⟨34, 38, 34, 43⟩ ⟨34, 37, 34, 44⟩ ⟨34, 25, 34, 45⟩) ⟨34, 8, 34, 13⟩ ⟨34, 8, 34, 15⟩ ⟨34, 8, 34, 24⟩ ⟨34, 8, 34, 46⟩ ⟨34, 8, 34, 46⟩ ⟨35, 8, 35, 12⟩ ⟨35, 8, 35, 18⟩ ⟨35, 21, 35, 26⟩ ⟨35, 8, 35, 26⟩) PySem.ErrG.eScope_limit .none .none dc_e6 pm_e6 an_e6 (.ref cda6) ct_e6 cc6), sl_e6⟩)
    (c_e6 : PySem.W.codeIn K (.ref cda6) "LimitExceeded.__init__" = true)
    (l_cd6 : K.lookup cda6 = some ⟨ccl6, cdd6, .fields vs6, ccs6⟩)
    (e_vs6 : vs6[2]? = some (.str "/claim/cut.py" tf6))
    (l_cc6 : K.lookup cc6 = some ⟨cll6, cld6, .cell (some (.ref c6)), csl6⟩)
    (et6 : PySem.W.typeIn K (.ref i6) = some (.type "function"))
    (l_e7 : K.lookup i7 = some ⟨oc_e7, od_e7, .func (PySem.W.ksFn "__init__" "RunError.__init__" (PySem.ErrG.eArgs_name ⟨38, 17, 38, 21⟩ ⟨38, 23, 38, 27⟩) (PySem.ErrG.eBody_name (PySem.ErrG.jmsgs_name "because of what " " holds" ⟨39, 27, 39, 43⟩ ⟨39, 44, 39, 48⟩ ⟨39, 43, 39, 49⟩ ⟨39, 25, 39, 56⟩ ⟨39, 49, 39, 55⟩) ⟨39, 8, 39, 13⟩ ⟨39, 8, 39, 15⟩ ⟨39, 8, 39, 24⟩ ⟨39, 8, 39, 57⟩ ⟨39, 8, 39, 57⟩ ⟨40, 8, 40, 12⟩ ⟨40, 8, 40, 17⟩ ⟨40, 20, 40, 24⟩ ⟨40, 8, 40, 24⟩) PySem.ErrG.eScope_name .none .none dc_e7 pm_e7 an_e7 (.ref cda7) ct_e7 cc7), sl_e7⟩)
    (c_e7 : PySem.W.codeIn K (.ref cda7) "RunError.__init__" = true)
    (l_cd7 : K.lookup cda7 = some ⟨ccl7, cdd7, .fields vs7, ccs7⟩)
    (e_vs7 : vs7[2]? = some (.str "/claim/cut.py" tf7))
    (l_cc7 : K.lookup cc7 = some ⟨cll7, cld7, .cell (some (.ref c7)), csl7⟩)
    (et7 : PySem.W.typeIn K (.ref i7) = some (.type "function"))
    (l_c7 : K.lookup c7 = some oD7)
    (d_c7 : oD7.data = .cls cd7)
    (opq : PySem.W.nsIn K cStatics "thirdparty.any" = some none)
    (htop : (l.prog.main.scope.names.lookup ("super" : Str)).isSome = false)
    (hfile : ((l.prog.main.file : Str) == ("/claim/cut.py" : Str)) = true)
    (c_hn : PySem.W.specialIn K (.builtin "object.__class__") "__get__" = some (some (.builtin "getset_descriptor.__get__")))
    (c_ht : PySem.W.takesIn K (.builtin "object.__class__") = some true)
    (xL1 : K.lookup c1 = some (excClassObj nm_1 q_1 c1 N_1 bs_1 [.ref c0, .type "ValueError", .type "Exception", .type "BaseException", .type "object"] true sn_1 sub_1 ab_1 col_1 dd_1 m0_1 m1_1 m2_1 m3_1 m5_1 "ValueError.__new__"))
    (sa1 : PySem.W.findIn K (.ref c1) "__setattr__" = some (some (.builtin "object.__setattr__")))
    (ga1 : PySem.W.findIn K (.ref c1) "__getattribute__" = some (some (.builtin "BaseException.__getattribute__")))
    (gg1 : PySem.W.findIn K (.ref c1) "__getattr__" = some none)
    (no1_part : PySem.W.findIn K (.ref c1) "part" = some none)
    (no1_where : PySem.W.findIn K (.ref c1) "where" = some none)
    (ek1 : PySem.W.keepIn K (.ref c1) = true)
    (ex1 : PySem.W.subIn K (.ref c1) (.type "BaseException") = some true)
    (ve1 : PySem.W.subIn K (.ref c1) (.type "ValueError") = some true)
    (ty1 : PySem.W.typeIn K (.ref c1) = some (.type "type"))
    (hd1 : PySem.W.hasDictIn K c1 = true)
    (ic1 : PySem.W.isClsIn K c1 = true)
    (su1 : PySem.W.ks_superIn K c1 c1 "__init__" = some (some (.builtin "ValueError.__init__")))
    (mr1 : PySem.W.mroIn K c1 (.ref c1) = some true)
    (mo1 : PySem.W.mroIn K c1 (.type "object") = some true)
    (ha1 : PySem.W.findIn K (.ref c1) "__class__" = some (some (.builtin "object.__class__")))
    (k1_0 : PySem.W.kitOne K (.ref c1) (.ref c0) = some true)
    (k1_v : PySem.W.kitOne K (.ref c1) (.type "ValueError") = some true)
    (k1_1 : PySem.W.kitOne K (.ref c1) (.ref c1) = some true)
    (k1_2 : PySem.W.kitOne K (.ref c1) (.ref c2) = some false)
    (k1_3 : PySem.W.kitOne K (.ref c1) (.ref c3) = some false)
    (k1_4 : PySem.W.kitOne K (.ref c1) (.ref c4) = some false)
    (k1_5 : PySem.W.kitOne K (.ref c1) (.ref c5) = some false)
    (k1_6 : PySem.W.kitOne K (.ref c1) (.ref c6) = some false)
    (k1_7 : PySem.W.kitOne K (.ref c1) (.ref c7) = some false)
    (k1_8 : PySem.W.kitOne K (.ref c1) (.ref c8) = some false)
    (k1_9 : PySem.W.kitOne K (.ref c1) (.ref c9) = some false)
    (xL2 : K.lookup c2 = some (excClassObj nm_2 q_2 c2 N_2 bs_2 [.ref c0, .type "ValueError", .type "Exception", .type "BaseException", .type "object"] true sn_2 sub_2 ab_2 col_2 dd_2 m0_2 m1_2 m2_2 m3_2 m5_2 "ValueError.__new__"))
    (sa2 : PySem.W.findIn K (.ref c2) "__setattr__" = some (some (.builtin "object.__setattr__")))
    (ga2 : PySem.W.findIn K (.ref c2) "__getattribute__" = some (some (.builtin "BaseException.__getattribute__")))
    (gg2 : PySem.W.findIn K (.ref c2) "__getattr__" = some none)
    (no2_part : PySem.W.findIn K (.ref c2) "part" = some none)
    (no2_place : PySem.W.findIn K (.ref c2) "place" = some none)
    (ek2 : PySem.W.keepIn K (.ref c2) = true)
    (ex2 : PySem.W.subIn K (.ref c2) (.type "BaseException") = some true)
    (ve2 : PySem.W.subIn K (.ref c2) (.type "ValueError") = some true)
    (ty2 : PySem.W.typeIn K (.ref c2) = some (.type "type"))
    (hd2 : PySem.W.hasDictIn K c2 = true)
    (ic2 : PySem.W.isClsIn K c2 = true)
    (su2 : PySem.W.ks_superIn K c2 c2 "__init__" = some (some (.builtin "ValueError.__init__")))
    (mr2 : PySem.W.mroIn K c2 (.ref c2) = some true)
    (mo2 : PySem.W.mroIn K c2 (.type "object") = some true)
    (ha2 : PySem.W.findIn K (.ref c2) "__class__" = some (some (.builtin "object.__class__")))
    (k2_0 : PySem.W.kitOne K (.ref c2) (.ref c0) = some true)
    (k2_v : PySem.W.kitOne K (.ref c2) (.type "ValueError") = some true)
    (k2_1 : PySem.W.kitOne K (.ref c2) (.ref c1) = some false)
    (k2_2 : PySem.W.kitOne K (.ref c2) (.ref c2) = some true)
    (k2_3 : PySem.W.kitOne K (.ref c2) (.ref c3) = some false)
    (k2_4 : PySem.W.kitOne K (.ref c2) (.ref c4) = some false)
    (k2_5 : PySem.W.kitOne K (.ref c2) (.ref c5) = some false)
    (k2_6 : PySem.W.kitOne K (.ref c2) (.ref c6) = some false)
    (k2_7 : PySem.W.kitOne K (.ref c2) (.ref c7) = some false)
    (k2_8 : PySem.W.kitOne K (.ref c2) (.ref c8) = some false)
    (k2_9 : PySem.W.kitOne K (.ref c2) (.ref c9) = some false)
    (xL3 : K.lookup c3 = some (excClassObj nm_3 q_3 c3 N_3 bs_3 [.ref c0, .type "ValueError", .type "Exception", .type "BaseException", .type "object"] true sn_3 sub_3 ab_3 col_3 dd_3 m0_3 m1_3 m2_3 m3_3 m5_3 "ValueError.__new__"))
    (sa3 : PySem.W.findIn K (.ref c3) "__setattr__" = some (some (.builtin "object.__setattr__")))
    (ga3 : PySem.W.findIn K (.ref c3) "__getattribute__" = some (some (.builtin "BaseException.__getattribute__")))
    (gg3 : PySem.W.findIn K (.ref c3) "__getattr__" = some none)
    (no3_part : PySem.W.findIn K (.ref c3) "part" = some none)
    (ek3 : PySem.W.keepIn K (.ref c3) = true)
    (ex3 : PySem.W.subIn K (.ref c3) (.type "BaseException") = some true)
    (ve3 : PySem.W.subIn K (.ref c3) (.type "ValueError") = some true)
    (ty3 : PySem.W.typeIn K (.ref c3) = some (.type "type"))
    (hd3 : PySem.W.hasDictIn K c3 = true)
    (ic3 : PySem.W.isClsIn K c3 = true)
    (su3 : PySem.W.ks_superIn K c3 c3 "__init__" = some (some (.builtin "ValueError.__init__")))
    (mr3 : PySem.W.mroIn K c3 (.ref c3) = some true)
    (mo3 : PySem.W.mroIn K c3 (.type "object") = some true)
    (ha3 : PySem.W.findIn K (.ref c3) "__class__" = some (some (.builtin "object.__class__")))
    (k3_0 : PySem.W.kitOne K (.ref c3) (.ref c0) = some true)
    (k3_v : PySem.W.kitOne K (.ref c3) (.type "ValueError") = some true)
    (k3_1 : PySem.W.kitOne K (.ref c3) (.ref c1) = some false)
    (k3_2 : PySem.W.kitOne K (.ref c3) (.ref c2) = some false)
    (k3_3 : PySem.W.kitOne K (.ref c3) (.ref c3) = some true)
    (k3_4 : PySem.W.kitOne K (.ref c3) (.ref c4) = some false)
    (k3_5 : PySem.W.kitOne K (.ref c3) (.ref c5) = some false)
    (k3_6 : PySem.W.kitOne K (.ref c3) (.ref c6) = some false)
    (k3_7 : PySem.W.kitOne K (.ref c3) (.ref c7) = some false)
    (k3_8 : PySem.W.kitOne K (.ref c3) (.ref c8) = some false)
    (k3_9 : PySem.W.kitOne K (.ref c3) (.ref c9) = some false)
    (xL4 : K.lookup c4 = some (excClassObj nm_4 q_4 c4 N_4 bs_4 [.ref c0, .type "ValueError", .type "Exception", .type "BaseException", .type "object"] true sn_4 sub_4 ab_4 col_4 dd_4 m0_4 m1_4 m2_4 m3_4 m5_4 "ValueError.__new__"))
    (sa4 : PySem.W.findIn K (.ref c4) "__setattr__" = some (some (.builtin "object.__setattr__")))
    (ga4 : PySem.W.findIn K (.ref c4) "__getattribute__" = some (some (.builtin "BaseException.__getattribute__")))
    (gg4 : PySem.W.findIn K (.ref c4) "__getattr__" = some none)
    (no4_part : PySem.W.findIn K (.ref c4) "part" = some none)
    (ek4 : PySem.W.keepIn K (.ref c4) = true)
    (ex4 : PySem.W.subIn K (.ref c4) (.type "BaseException") = some true)
    (ve4 : PySem.W.subIn K (.ref c4) (.type "ValueError") = some true)
    (ty4 : PySem.W.typeIn K (.ref c4) = some (.type "type"))
    (hd4 : PySem.W.hasDictIn K c4 = true)
    (ic4 : PySem.W.isClsIn K c4 = true)
    (su4 : PySem.W.ks_superIn K c4 c4 "__init__" = some (some (.builtin "ValueError.__init__")))
    (mr4 : PySem.W.mroIn K c4 (.ref c4) = some true)
    (mo4 : PySem.W.mroIn K c4 (.type "object") = some true)
    (ha4 : PySem.W.findIn K (.ref c4) "__class__" = some (some (.builtin "object.__class__")))
    (k4_0 : PySem.W.kitOne K (.ref c4) (.ref c0) = some true)
    (k4_v : PySem.W.kitOne K (.ref c4) (.type "ValueError") = some true)
    (k4_1 : PySem.W.kitOne K (.ref c4) (.ref c1) = some false)
    (k4_2 : PySem.W.kitOne K (.ref c4) (.ref c2) = some false)
    (k4_3 : PySem.W.kitOne K (.ref c4) (.ref c3) = some false)
    (k4_4 : PySem.W.kitOne K (.ref c4) (.ref c4) = some true)
    (k4_5 : PySem.W.kitOne K (.ref c4) (.ref c5) = some false)
    (k4_6 : PySem.W.kitOne K (.ref c4) (.ref c6) = some false)
    (k4_7 : PySem.W.kitOne K (.ref c4) (.ref c7) = some false)
    (k4_8 : PySem.W.kitOne K (.ref c4) (.ref c8) = some false)
    (k4_9 : PySem.W.kitOne K (.ref c4) (.ref c9) = some false)
    (xL5 : K.lookup c5 = some (excClassObj nm_5 q_5 c5 N_5 bs_5 [.ref c0, .type "ValueError", .type "Exception", .type "BaseException", .type "object"] true sn_5 sub_5 ab_5 col_5 dd_5 m0_5 m1_5 m2_5 m3_5 m5_5 "ValueError.__new__"))
    (sa5 : PySem.W.findIn K (.ref c5) "__setattr__" = some (some (.builtin "object.__setattr__")))
    (ga5 : PySem.W.findIn K (.ref c5) "__getattribute__" = some (some (.builtin "BaseException.__getattribute__")))
    (gg5 : PySem.W.findIn K (.ref c5) "__getattr__" = some none)
    (no5_line : PySem.W.findIn K (.ref c5) "line" = some none)
    (ek5 : PySem.W.keepIn K (.ref c5) = true)
    (ex5 : PySem.W.subIn K (.ref c5) (.type "BaseException") = some true)
    (ve5 : PySem.W.subIn K (.ref c5) (.type "ValueError") = some true)
    (ty5 : PySem.W.typeIn K (.ref c5) = some (.type "type"))
    (hd5 : PySem.W.hasDictIn K c5 = true)
    (ic5 : PySem.W.isClsIn K c5 = true)
    (su5 : PySem.W.ks_superIn K c5 c5 "__init__" = some (some (.builtin "ValueError.__init__")))
    (mr5 : PySem.W.mroIn K c5 (.ref c5) = some true)
    (mo5 : PySem.W.mroIn K c5 (.type "object") = some true)
    (ha5 : PySem.W.findIn K (.ref c5) "__class__" = some (some (.builtin "object.__class__")))
    (k5_0 : PySem.W.kitOne K (.ref c5) (.ref c0) = some true)
    (k5_v : PySem.W.kitOne K (.ref c5) (.type "ValueError") = some true)
    (k5_1 : PySem.W.kitOne K (.ref c5) (.ref c1) = some false)
    (k5_2 : PySem.W.kitOne K (.ref c5) (.ref c2) = some false)
    (k5_3 : PySem.W.kitOne K (.ref c5) (.ref c3) = some false)
    (k5_4 : PySem.W.kitOne K (.ref c5) (.ref c4) = some false)
    (k5_5 : PySem.W.kitOne K (.ref c5) (.ref c5) = some true)
    (k5_6 : PySem.W.kitOne K (.ref c5) (.ref c6) = some false)
    (k5_7 : PySem.W.kitOne K (.ref c5) (.ref c7) = some false)
    (k5_8 : PySem.W.kitOne K (.ref c5) (.ref c8) = some false)
    (k5_9 : PySem.W.kitOne K (.ref c5) (.ref c9) = some false)
    (xL6 : K.lookup c6 = some (excClassObj nm_6 q_6 c6 N_6 bs_6 [.ref c0, .type "ValueError", .type "Exception", .type "BaseException", .type "object"] true sn_6 sub_6 ab_6 col_6 dd_6 m0_6 m1_6 m2_6 m3_6 m5_6 "ValueError.__new__"))
    (sa6 : PySem.W.findIn K (.ref c6) "__setattr__" = some (some (.builtin "object.__setattr__")))
    (ga6 : PySem.W.findIn K (.ref c6) "__getattribute__" = some (some (.builtin "BaseException.__getattribute__")))
    (gg6 : PySem.W.findIn K (.ref c6) "__getattr__" = some none)
    (no6_limit : PySem.W.findIn K (.ref c6) "limit" = some none)
    (ek6 : PySem.W.keepIn K (.ref c6) = true)
    (ex6 : PySem.W.subIn K (.ref c6) (.type "BaseException") = some true)
    (ve6 : PySem.W.subIn K (.ref c6) (.type "ValueError") = some true)
    (ty6 : PySem.W.typeIn K (.ref c6) = some (.type "type"))
    (hd6 : PySem.W.hasDictIn K c6 = true)
    (ic6 : PySem.W.isClsIn K c6 = true)
    (su6 : PySem.W.ks_superIn K c6 c6 "__init__" = some (some (.builtin "ValueError.__init__")))
    (mr6 : PySem.W.mroIn K c6 (.ref c6) = some true)
    (mo6 : PySem.W.mroIn K c6 (.type "object") = some true)
    (ha6 : PySem.W.findIn K (.ref c6) "__class__" = some (some (.builtin "object.__class__")))
    (k6_0 : PySem.W.kitOne K (.ref c6) (.ref c0) = some true)
    (k6_v : PySem.W.kitOne K (.ref c6) (.type "ValueError") = some true)
    (k6_1 : PySem.W.kitOne K (.ref c6) (.ref c1) = some false)
    (k6_2 : PySem.W.kitOne K (.ref c6) (.ref c2) = some false)
    (k6_3 : PySem.W.kitOne K (.ref c6) (.ref c3) = some false)
    (k6_4 : PySem.W.kitOne K (.ref c6) (.ref c4) = some false)
    (k6_5 : PySem.W.kitOne K (.ref c6) (.ref c5) = some false)
    (k6_6 : PySem.W.kitOne K (.ref c6) (.ref c6) = some true)
    (k6_7 : PySem.W.kitOne K (.ref c6) (.ref c7) = some false)
    (k6_8 : PySem.W.kitOne K (.ref c6) (.ref c8) = some false)
    (k6_9 : PySem.W.kitOne K (.ref c6) (.ref c9) = some false)
    (xL8 : K.lookup c8 = some (excClassObj nm_8 q_8 c8 N_8 bs_8 [.ref c7, .ref c0, .type "ValueError", .type "Exception", .type "BaseException", .type "object"] true sn_8 sub_8 ab_8 col_8 dd_8 m0_8 m1_8 m2_8 m3_8 m5_8 "ValueError.__new__"))
    (sa8 : PySem.W.findIn K (.ref c8) "__setattr__" = some (some (.builtin "object.__setattr__")))
    (ga8 : PySem.W.findIn K (.ref c8) "__getattribute__" = some (some (.builtin "BaseException.__getattribute__")))
    (gg8 : PySem.W.findIn K (.ref c8) "__getattr__" = some none)
    (no8_name : PySem.W.findIn K (.ref c8) "name" = some none)
    (ek8 : PySem.W.keepIn K (.ref c8) = true)
    (ex8 : PySem.W.subIn K (.ref c8) (.type "BaseException") = some true)
    (ve8 : PySem.W.subIn K (.ref c8) (.type "ValueError") = some true)
    (ty8 : PySem.W.typeIn K (.ref c8) = some (.type "type"))
    (hd8 : PySem.W.hasDictIn K c8 = true)
    (ic8 : PySem.W.isClsIn K c8 = true)
    (su8 : PySem.W.ks_superIn K c8 c7 "__init__" = some (some (.builtin "ValueError.__init__")))
    (mr8 : PySem.W.mroIn K c8 (.ref c7) = some true)
    (mo8 : PySem.W.mroIn K c8 (.type "object") = some true)
    (ha8 : PySem.W.findIn K (.ref c8) "__class__" = some (some (.builtin "object.__class__")))
    (k8_0 : PySem.W.kitOne K (.ref c8) (.ref c0) = some true)
    (k8_v : PySem.W.kitOne K (.ref c8) (.type "ValueError") = some true)
    (k8_1 : PySem.W.kitOne K (.ref c8) (.ref c1) = some false)
    (k8_2 : PySem.W.kitOne K (.ref c8) (.ref c2) = some false)
    (k8_3 : PySem.W.kitOne K (.ref c8) (.ref c3) = some false)
    (k8_4 : PySem.W.kitOne K (.ref c8) (.ref c4) = some false)
    (k8_5 : PySem.W.kitOne K (.ref c8) (.ref c5) = some false)
    (k8_6 : PySem.W.kitOne K (.ref c8) (.ref c6) = some false)
    (k8_7 : PySem.W.kitOne K (.ref c8) (.ref c7) = some true)
    (k8_8 : PySem.W.kitOne K (.ref c8) (.ref c8) = some true)
    (k8_9 : PySem.W.kitOne K (.ref c8) (.ref c9) = some false)
    (xL9 : K.lookup c9 = some (excClassObj nm_9 q_9 c9 N_9 bs_9 [.ref c7, .ref c0, .type "ValueError", .type "Exception", .type "BaseException", .type "object"] true sn_9 sub_9 ab_9 col_9 dd_9 m0_9 m1_9 m2_9 m3_9 m5_9 "ValueError.__new__"))
    (sa9 : PySem.W.findIn K (.ref c9) "__setattr__" = some (some (.builtin "object.__setattr__")))
    (ga9 : PySem.W.findIn K (.ref c9) "__getattribute__" = some (some (.builtin "BaseException.__getattribute__")))
    (gg9 : PySem.W.findIn K (.ref c9) "__getattr__" = some none)
    (no9_name : PySem.W.findIn K (.ref c9) "name" = some none)
    (ek9 : PySem.W.keepIn K (.ref c9) = true)
    (ex9 : PySem.W.subIn K (.ref c9) (.type "BaseException") = some true)
    (ve9 : PySem.W.subIn K (.ref c9) (.type "ValueError") = some true)
    (ty9 : PySem.W.typeIn K (.ref c9) = some (.type "type"))
    (hd9 : PySem.W.hasDictIn K c9 = true)
    (ic9 : PySem.W.isClsIn K c9 = true)
    (su9 : PySem.W.ks_superIn K c9 c7 "__init__" = some (some (.builtin "ValueError.__init__")))
    (mr9 : PySem.W.mroIn K c9 (.ref c7) = some true)
    (mo9 : PySem.W.mroIn K c9 (.type "object") = some true)
    (ha9 : PySem.W.findIn K (.ref c9) "__class__" = some (some (.builtin "object.__class__")))
    (k9_0 : PySem.W.kitOne K (.ref c9) (.ref c0) = some true)
    (k9_v : PySem.W.kitOne K (.ref c9) (.type "ValueError") = some true)
    (k9_1 : PySem.W.kitOne K (.ref c9) (.ref c1) = some false)
    (k9_2 : PySem.W.kitOne K (.ref c9) (.ref c2) = some false)
    (k9_3 : PySem.W.kitOne K (.ref c9) (.ref c3) = some false)
    (k9_4 : PySem.W.kitOne K (.ref c9) (.ref c4) = some false)
    (k9_5 : PySem.W.kitOne K (.ref c9) (.ref c5) = some false)
    (k9_6 : PySem.W.kitOne K (.ref c9) (.ref c6) = some false)
    (k9_7 : PySem.W.kitOne K (.ref c9) (.ref c7) = some true)
    (k9_8 : PySem.W.kitOne K (.ref c9) (.ref c8) = some false)
    (k9_9 : PySem.W.kitOne K (.ref c9) (.ref c9) = some true) :
    ∃ fd : FuncData, (∀ (s : Shared) (v : Value), BindsTo s fd ⟨[v], []⟩ [("_law_script", v)]) ∧ ∀ base : Heap, K.In base → base.Ns mainGlobals mg → FnG l.prog w K mg base CX0 6 fa fd ["_law_script"] (spLaw K) := by
  have e := hfa.symm.trans (PySem.W.mg_of X G a_f_law)
  cases e
  have B : Bl mg := ⟨PySem.W.mg_none_of X G z_len, PySem.W.mg_none_of X G z_int, PySem.W.mg_none_of X G z_list, PySem.W.mg_none_of X G z_tuple, PySem.W.mg_none_of X G z_dict, PySem.W.mg_none_of X G z_set, PySem.W.mg_none_of X G z_all, PySem.W.mg_none_of X G z_range, PySem.W.mg_none_of X G z_enumerate, PySem.W.mg_none_of X G z_sorted, PySem.W.mg_none_of X G z_min, PySem.W.mg_none_of X G z_isinstance, PySem.W.mg_none_of X G z_bool, PySem.W.mg_none_of X G z_str, PySem.W.mg_none_of X G z_zip, PySem.W.mg_none_of X G z_ValueError, PySem.W.mg_none_of X G z_super, PySem.W.mg_none_of X G z_repr⟩
  have T11 : Ten mg c0 c1 c2 c3 c4 c5 c6 c7 c8 c9 := ⟨PySem.W.mg_of X G g_c0, PySem.W.mg_of X G g_c1, PySem.W.mg_of X G g_c2, PySem.W.mg_of X G g_c3, PySem.W.mg_of X G g_c4, PySem.W.mg_of X G g_c5, PySem.W.mg_of X G g_c6, PySem.W.mg_of X G g_c7, PySem.W.mg_of X G g_c8, PySem.W.mg_of X G g_c9⟩
  have T1 : PySem.ErrG.Err_part_where l.prog K mg "InvalidHeap" c1 c1 i1 (PySem.ErrG.jmsg_part_where "no heap: " " at " ⟨7, 27, 7, 36⟩ ⟨7, 37, 7, 41⟩ ⟨7, 36, 7, 42⟩ ⟨7, 25, 7, 54⟩ ⟨7, 42, 7, 46⟩ ⟨7, 47, 7, 52⟩ ⟨7, 46, 7, 53⟩) :=
    { gC := PySem.W.mg_of X G g_c1, cls := ⟨nm_1, q_1, N_1, bs_1, _, sn_1, sub_1, ab_1, col_1, dd_1, m0_1, m1_1, m2_1, m3_1, m5_1, xL1, rfl⟩, clsD := ⟨_, _, xL1, rfl⟩, sa := sa1, ga := ga1, gg := gg1, iC := eI1, tC := et1, kC := ek1, exC := ex1, veC := ve1, tyC := ty1, hdC := hd1, opq := opq, sup := su1, sub := mr1, htop := htop,
      no_part := no1_part, no_where := no1_where, fn := ⟨_, _, _, _, _, _, _, _, _, _, _, _, _, _, _, _, _, _, _, _, _, _, _, _, _, _, _, _, _, _, _, _, _, _, _, l_e1, c_e1, l_cd1, e_vs1, hfile, l_cc1, rfl, _, _, rfl⟩ }
  have X1 : ExcC K c1 := ⟨ic1, hd1, ga1, gg1, ex1, ha1, c_hn, c_ht, mo1⟩
  have F1 : Fam K c1 c0 c1 c2 c3 c4 c5 c6 c7 c8 c9 (fun k => decide (k = 2)) := ⟨k1_0, k1_v, k1_1, k1_2, k1_3, k1_4, k1_5, k1_6, k1_7, k1_8, k1_9⟩
  have T2 : PySem.ErrG.Err_part_place l.prog K mg "InvalidProgram" c2 c2 i2 (PySem.ErrG.jmsg_part_place "no program: " " at " ⟨13, 27, 13, 39⟩ ⟨13, 40, 13, 44⟩ ⟨13, 39, 13, 45⟩ ⟨13, 25, 13, 57⟩ ⟨13, 45, 13, 49⟩ ⟨13, 50, 13, 55⟩ ⟨13, 49, 13, 56⟩) :=
    { gC := PySem.W.mg_of X G g_c2, cls := ⟨nm_2, q_2, N_2, bs_2, _, sn_2, sub_2, ab_2, col_2, dd_2, m0_2, m1_2, m2_2, m3_2, m5_2, xL2, rfl⟩, clsD := ⟨_, _, xL2, rfl⟩, sa := sa2, ga := ga2, gg := gg2, iC := eI2, tC := et2, kC := ek2, exC := ex2, veC := ve2, tyC := ty2, hdC := hd2, opq := opq, sup := su2, sub := mr2, htop := htop,
      no_part := no2_part, no_place := no2_place, fn := ⟨_, _, _, _, _, _, _, _, _, _, _, _, _, _, _, _, _, _, _, _, _, _, _, _, _, _, _, _, _, _, _, _, _, _, _, l_e2, c_e2, l_cd2, e_vs2, hfile, l_cc2, rfl, _, _, rfl⟩ }
  have X2 : ExcC K c2 := ⟨ic2, hd2, ga2, gg2, ex2, ha2, c_hn, c_ht, mo2⟩
  have F2 : Fam K c2 c0 c1 c2 c3 c4 c5 c6 c7 c8 c9 (fun k => decide (k = 3)) := ⟨k2_0, k2_v, k2_1, k2_2, k2_3, k2_4, k2_5, k2_6, k2_7, k2_8, k2_9⟩
  have T3 : PySem.ErrG.Err_part l.prog K mg "InvalidFacts" c3 c3 i3 (PySem.ErrG.jmsg_part "no facts: " ⟨19, 27, 19, 37⟩ ⟨19, 38, 19, 42⟩ ⟨19, 37, 19, 43⟩ ⟨19, 25, 19, 44⟩) :=
    { gC := PySem.W.mg_of X G g_c3, cls := ⟨nm_3, q_3, N_3, bs_3, _, sn_3, sub_3, ab_3, col_3, dd_3, m0_3, m1_3, m2_3, m3_3, m5_3, xL3, rfl⟩, clsD := ⟨_, _, xL3, rfl⟩, sa := sa3, ga := ga3, gg := gg3, iC := eI3, tC := et3, kC := ek3, exC := ex3, veC := ve3, tyC := ty3, hdC := hd3, opq := opq, sup := su3, sub := mr3, htop := htop,
      no_part := no3_part, fn := ⟨_, _, _, _, _, _, _, _, _, _, _, _, _, _, _, _, _, _, _, _, _, _, _, _, _, _, _, _, _, _, l_e3, c_e3, l_cd3, e_vs3, hfile, l_cc3, rfl, _, _, rfl⟩ }
  have X3 : ExcC K c3 := ⟨ic3, hd3, ga3, gg3, ex3, ha3, c_hn, c_ht, mo3⟩
  have F3 : Fam K c3 c0 c1 c2 c3 c4 c5 c6 c7 c8 c9 (fun k => decide (k = 4)) := ⟨k3_0, k3_v, k3_1, k3_2, k3_3, k3_4, k3_5, k3_6, k3_7, k3_8, k3_9⟩
  have T4 : PySem.ErrG.Err_part l.prog K mg "InvalidArgument" c4 c4 i4 (PySem.ErrG.jmsg_part "wrong argument: " ⟨24, 27, 24, 43⟩ ⟨24, 44, 24, 48⟩ ⟨24, 43, 24, 49⟩ ⟨24, 25, 24, 50⟩) :=
    { gC := PySem.W.mg_of X G g_c4, cls := ⟨nm_4, q_4, N_4, bs_4, _, sn_4, sub_4, ab_4, col_4, dd_4, m0_4, m1_4, m2_4, m3_4, m5_4, xL4, rfl⟩, clsD := ⟨_, _, xL4, rfl⟩, sa := sa4, ga := ga4, gg := gg4, iC := eI4, tC := et4, kC := ek4, exC := ex4, veC := ve4, tyC := ty4, hdC := hd4, opq := opq, sup := su4, sub := mr4, htop := htop,
      no_part := no4_part, fn := ⟨_, _, _, _, _, _, _, _, _, _, _, _, _, _, _, _, _, _, _, _, _, _, _, _, _, _, _, _, _, _, l_e4, c_e4, l_cd4, e_vs4, hfile, l_cc4, rfl, _, _, rfl⟩ }
  have X4 : ExcC K c4 := ⟨ic4, hd4, ga4, gg4, ex4, ha4, c_hn, c_ht, mo4⟩
  have F4 : Fam K c4 c0 c1 c2 c3 c4 c5 c6 c7 c8 c9 (fun k => decide (k = 5)) := ⟨k4_0, k4_v, k4_1, k4_2, k4_3, k4_4, k4_5, k4_6, k4_7, k4_8, k4_9⟩
  have T5 : PySem.ErrG.Err_line l.prog K mg "InvalidText" c5 c5 i5 (PySem.ErrG.jmsg_line "no right form in line " ⟨29, 27, 29, 49⟩ ⟨29, 50, 29, 54⟩ ⟨29, 49, 29, 55⟩ ⟨29, 25, 29, 56⟩) :=
    { gC := PySem.W.mg_of X G g_c5, cls := ⟨nm_5, q_5, N_5, bs_5, _, sn_5, sub_5, ab_5, col_5, dd_5, m0_5, m1_5, m2_5, m3_5, m5_5, xL5, rfl⟩, clsD := ⟨_, _, xL5, rfl⟩, sa := sa5, ga := ga5, gg := gg5, iC := eI5, tC := et5, kC := ek5, exC := ex5, veC := ve5, tyC := ty5, hdC := hd5, opq := opq, sup := su5, sub := mr5, htop := htop,
      no_line := no5_line, fn := ⟨_, _, _, _, _, _, _, _, _, _, _, _, _, _, _, _, _, _, _, _, _, _, _, _, _, _, _, _, _, _, l_e5, c_e5, l_cd5, e_vs5, hfile, l_cc5, rfl, _, _, rfl⟩ }
  have X5 : ExcC K c5 := ⟨ic5, hd5, ga5, gg5, ex5, ha5, c_hn, c_ht, mo5⟩
  have F5 : Fam K c5 c0 c1 c2 c3 c4 c5 c6 c7 c8 c9 (fun k => decide (k = 6)) := ⟨k5_0, k5_v, k5_1, k5_2, k5_3, k5_4, k5_5, k5_6, k5_7, k5_8, k5_9⟩
  have T6 : PySem.ErrG.Err_limit l.prog K mg "LimitExceeded" c6 c6 i6 (PySem.ErrG.jmsg_limit "more than " ⟨34, 27, 34, 37⟩ ⟨34, 38, 34, 43⟩ ⟨34, 37, 34, 44⟩ ⟨34, 25, 34, 45⟩) :=
    { gC := PySem.W.mg_of X G g_c6, cls := ⟨nm_6, q_6, N_6, bs_6, _, sn_6, sub_6, ab_6, col_6, dd_6, m0_6, m1_6, m2_6, m3_6, m5_6, xL6, rfl⟩, clsD := ⟨_, _, xL6, rfl⟩, sa := sa6, ga := ga6, gg := gg6, iC := eI6, tC := et6, kC := ek6, exC := ex6, veC := ve6, tyC := ty6, hdC := hd6, opq := opq, sup := su6, sub := mr6, htop := htop,
      no_limit := no6_limit, fn := ⟨_, _, _, _, _, _, _, _, _, _, _, _, _, _, _, _, _, _, _, _, _, _, _, _, _, _, _, _, _, _, l_e6, c_e6, l_cd6, e_vs6, hfile, l_cc6, rfl, _, _, rfl⟩ }
  have X6 : ExcC K c6 := ⟨ic6, hd6, ga6, gg6, ex6, ha6, c_hn, c_ht, mo6⟩
  have F6 : Fam K c6 c0 c1 c2 c3 c4 c5 c6 c7 c8 c9 (fun k => decide (k = 7)) := ⟨k6_0, k6_v, k6_1, k6_2, k6_3, k6_4, k6_5, k6_6, k6_7, k6_8, k6_9⟩
  have T8 : PySem.ErrG.Err_name l.prog K mg "Hollow" c8 c7 i7 (PySem.ErrG.jmsgs_name "because of what " " holds" ⟨39, 27, 39, 43⟩ ⟨39, 44, 39, 48⟩ ⟨39, 43, 39, 49⟩ ⟨39, 25, 39, 56⟩ ⟨39, 49, 39, 55⟩) :=
    { gC := PySem.W.mg_of X G g_c8, cls := ⟨nm_8, q_8, N_8, bs_8, _, sn_8, sub_8, ab_8, col_8, dd_8, m0_8, m1_8, m2_8, m3_8, m5_8, xL8, rfl⟩, clsD := ⟨_, _, l_c7, d_c7⟩, sa := sa8, ga := ga8, gg := gg8, iC := eI8, tC := et7, kC := ek8, exC := ex8, veC := ve8, tyC := ty8, hdC := hd8, opq := opq, sup := su8, sub := mr8, htop := htop,
      no_name := no8_name, fn := ⟨_, _, _, _, _, _, _, _, _, _, _, _, _, _, _, _, _, _, _, _, _, _, _, _, _, _, _, _, _, _, l_e7, c_e7, l_cd7, e_vs7, hfile, l_cc7, rfl, _, _, rfl⟩ }
  have X8 : ExcC K c8 := ⟨ic8, hd8, ga8, gg8, ex8, ha8, c_hn, c_ht, mo8⟩
  have F8 : Fam K c8 c0 c1 c2 c3 c4 c5 c6 c7 c8 c9 (fun k => decide (k = 8 ∨ k = 9)) := ⟨k8_0, k8_v, k8_1, k8_2, k8_3, k8_4, k8_5, k8_6, k8_7, k8_8, k8_9⟩
  have T9 : PySem.ErrG.Err_name l.prog K mg "Refused" c9 c7 i7 (PySem.ErrG.jmsgs_name "because of what " " holds" ⟨39, 27, 39, 43⟩ ⟨39, 44, 39, 48⟩ ⟨39, 43, 39, 49⟩ ⟨39, 25, 39, 56⟩ ⟨39, 49, 39, 55⟩) :=
    { gC := PySem.W.mg_of X G g_c9, cls := ⟨nm_9, q_9, N_9, bs_9, _, sn_9, sub_9, ab_9, col_9, dd_9, m0_9, m1_9, m2_9, m3_9, m5_9, xL9, rfl⟩, clsD := ⟨_, _, l_c7, d_c7⟩, sa := sa9, ga := ga9, gg := gg9, iC := eI9, tC := et7, kC := ek9, exC := ex9, veC := ve9, tyC := ty9, hdC := hd9, opq := opq, sup := su9, sub := mr9, htop := htop,
      no_name := no9_name, fn := ⟨_, _, _, _, _, _, _, _, _, _, _, _, _, _, _, _, _, _, _, _, _, _, _, _, _, _, _, _, _, _, l_e7, c_e7, l_cd7, e_vs7, hfile, l_cc7, rfl, _, _, rfl⟩ }
  have X9 : ExcC K c9 := ⟨ic9, hd9, ga9, gg9, ex9, ha9, c_hn, c_ht, mo9⟩
  have F9 : Fam K c9 c0 c1 c2 c3 c4 c5 c6 c7 c8 c9 (fun k => decide (k = 8 ∨ k = 10)) := ⟨k9_0, k9_v, k9_1, k9_2, k9_3, k9_4, k9_5, k9_6, k9_7, k9_8, k9_9⟩
  have F_f_law_draw := fun_mk (st := S_law_draw) l_f_law_draw c_f_law_draw k_f_law_draw
  have b_f_law_draw := F_f_law_draw.binds (ps := P_law_draw) fun _ _ _ _ _ _ us hl => match us, hl with | [_, _], _ => rfl
  have d_f_law_draw : Df K mg "_law_draw" S_law_draw f_law_draw _ P_law_draw := ⟨F_f_law_draw, PySem.W.mg_of X G a_f_law_draw, b_f_law_draw⟩
  have F_f_law_word := fun_mk (st := S_law_word) l_f_law_word c_f_law_word k_f_law_word
  have b_f_law_word := F_f_law_word.binds (ps := P_law_word) fun _ _ _ _ _ _ us hl => match us, hl with | [_, _], _ => rfl
  have d_f_law_word : Df K mg "_law_word" S_law_word f_law_word _ P_law_word := ⟨F_f_law_word, PySem.W.mg_of X G a_f_law_word, b_f_law_word⟩
  have F_f_law_exact := fun_mk (st := S_law_exact) l_f_law_exact c_f_law_exact k_f_law_exact
  have b_f_law_exact := F_f_law_exact.binds (ps := P_law_exact) fun _ _ _ _ _ _ us hl => match us, hl with | [_, _], _ => rfl
  have d_f_law_exact : Df K mg "_law_exact" S_law_exact f_law_exact _ P_law_exact := ⟨F_f_law_exact, PySem.W.mg_of X G a_f_law_exact, b_f_law_exact⟩
  have F_f_law_family := fun_mk (st := S_law_family) l_f_law_family c_f_law_family k_f_law_family
  have b_f_law_family := F_f_law_family.binds (ps := P_law_family) fun _ _ _ _ _ _ us hl => match us, hl with | [_], _ => rfl
  have d_f_law_family : Df K mg "_law_family" S_law_family f_law_family _ P_law_family := ⟨F_f_law_family, PySem.W.mg_of X G a_f_law_family, b_f_law_family⟩
  have F_f_law_due := fun_mk (st := S_law_due) l_f_law_due c_f_law_due k_f_law_due
  have b_f_law_due := F_f_law_due.binds (ps := P_law_due) fun _ _ _ _ _ _ us hl => match us, hl with | [_], _ => rfl
  have d_f_law_due : Df K mg "_law_due" S_law_due f_law_due _ P_law_due := ⟨F_f_law_due, PySem.W.mg_of X G a_f_law_due, b_f_law_due⟩
  have F_f_law := fun_mk (st := S_law) l_f_law c_f_law k_f_law
  have b_f_law := F_f_law.binds (ps := P_law) fun _ _ _ _ _ _ us hl => match us, hl with | [_], _ => rfl
  exact ⟨PySem.W.fnOf "law" "law" (defArgs S_law) (defBody S_law) (defScope S_law) .none kV_f_law dc_f_law pm_f_law an_f_law cd_f_law ct_f_law, fun s v => .of_eq rfl, fun base _ _ => by
    have G1 := ok_draw (P := l.prog) (w := w) (mg := mg) (base := base) F_f_law_draw B
    have G2 := ok_word (P := l.prog) (w := w) (mg := mg) (base := base) F_f_law_word B d_f_law_draw G1
    have G3 := ok_exact (P := l.prog) (w := w) (mg := mg) (base := base) F_f_law_exact B
    have G4 := ok_law_family (P := l.prog) (w := w) (mg := mg) (base := base) F_f_law_family B T11
    have G5 := ok_law_due (P := l.prog) (w := w) (mg := mg) (base := base) F_f_law_due B
    exact ok_law F_f_law B T11 (by decide) (by decide) (by decide) (by decide) (by decide) (by decide) (by decide) (by decide) (by decide) (by decide) T1 T2 T3 T4 T5 T6 T8 T9 X1 X2 X3 X4 X5 X6 X8 X9 F1 F2 F3 F4 F5 F6 F8 F9 d_f_law_draw G1 d_f_law_word G2 d_f_law_exact G3 d_f_law_family G4 d_f_law_due G5⟩
theorem walk {l : PySem.W.OpenLaw} {q : Program} {loose : List Str} {XP : (Str → Option Value) → Heap → Prop} {YP : World → Heap → Prop} {d : DefRec} {K : Params → PySem.W.Frag} (hn : l.most = some 63) (hdf : d.params.defaults = [])
    (hY : ∀ (w : World) (h : Heap), YP w h → (K w.params).In h)
    (F : ∀ (w : World) (mg : Str → Option Value) (fa : Addr) (h : Heap), (K w.params).In h → h.Ns mainGlobals mg → mg d.name = some (.ref fa) →
      ∃ fd : FuncData, (∀ (s : Shared) (u : Value), BindsTo s fd ⟨[u], []⟩ [("_law_script", u)]) ∧ ∀ base : Heap, (K w.params).In base → base.Ns mainGlobals mg → FnG l.prog w (K w.params) mg base CX0 6 fa fd ["_law_script"] (spLaw (K w.params))) :
    PySem.W.WalkO q loose XP YP l.row.toRowW d [] (fun f vs => PySem.call f vs) :=
  L2.walk_still (n := 63) (k := 6) (x := "_law_script") (sp := fun w => spLaw (K w.params)) hn (by decide) hdf ⟨rfl, by decide, by decide⟩ hY F (fun _ _ a ns hl _ hS => ⟨a, ns, rfl, hS, hl, fun _ => rfl⟩)
end TW
set_option Elab.async false
set_option linter.all false
open PySem PySem.W PyProof.Rows
set_option maxRecDepth 100000 in
set_option maxHeartbeats 0 in
theorem PySem.Challenge.cw_thawedwrites_k81_error_classes_holds : PySem.Challenge.rw_thawedwrites_k81_error_classes.Holds := by
  w_on; o_law; k_head; (case hw => w_witness2)
  k_fill
  refine TW.walk (l := PySem.Challenge.rw_thawedwrites_k81_error_classes) rfl rfl (fun w h Y => PySem.W.kIn_of Y) ?F
  case F =>
    intro w mg fa h KX G hmg
    refine' TW.all_mk KX G hmg ?a_f_law_draw ?l_f_law_draw ?c_f_law_draw ?k_f_law_draw ?a_f_law_word ?l_f_law_word ?c_f_law_word ?k_f_law_word ?a_f_law_exact ?l_f_law_exact ?c_f_law_exact ?k_f_law_exact ?a_f_law_family ?l_f_law_family ?c_f_law_family ?k_f_law_family ?a_f_law_due ?l_f_law_due ?c_f_law_due ?k_f_law_due ?a_f_law ?l_f_law ?c_f_law ?k_f_law ?z_len ?z_int ?z_list ?z_tuple ?z_dict ?z_set ?z_all ?z_range ?z_enumerate ?z_sorted ?z_min ?z_isinstance ?z_bool ?z_str ?z_zip ?z_ValueError ?z_super ?z_repr ?g_c0 ?g_c1 ?g_c2 ?g_c3 ?g_c4 ?g_c5 ?g_c6 ?g_c7 ?g_c8 ?g_c9 ?eI1 ?eI2 ?eI3 ?eI4 ?eI5 ?eI6 ?eI8 ?eI9 ?l_e1 ?c_e1 ?l_cd1 ?e_vs1 ?l_cc1 ?et1 ?l_e2 ?c_e2 ?l_cd2 ?e_vs2 ?l_cc2 ?et2 ?l_e3 ?c_e3 ?l_cd3 ?e_vs3 ?l_cc3 ?et3 ?l_e4 ?c_e4 ?l_cd4 ?e_vs4 ?l_cc4 ?et4 ?l_e5 ?c_e5 ?l_cd5 ?e_vs5 ?l_cc5 ?et5 ?l_e6 ?c_e6 ?l_cd6 ?e_vs6 ?l_cc6 ?et6 ?l_e7 ?c_e7 ?l_cd7 ?e_vs7 ?l_cc7 ?et7 ?l_c7 ?d_c7 ?opq ?htop ?hfile ?c_hn ?c_ht ?xL1 ?sa1 ?ga1 ?gg1 ?no1_part ?no1_where ?ek1 ?ex1 ?ve1 ?ty1 ?hd1 ?ic1 ?su1 ?mr1 ?mo1 ?ha1 ?k1_0 ?k1_v ?k1_1 ?k1_2 ?k1_3 ?k1_4 ?k1_5 ?k1_6 ?k1_7 ?k1_8 ?k1_9 ?xL2 ?sa2 ?ga2 ?gg2 ?no2_part ?no2_place ?ek2 ?ex2 ?ve2 ?ty2 ?hd2 ?ic2 ?su2 ?mr2 ?mo2 ?ha2 ?k2_0 ?k2_v ?k2_1 ?k2_2 ?k2_3 ?k2_4 ?k2_5 ?k2_6 ?k2_7 ?k2_8 ?k2_9 ?xL3 ?sa3 ?ga3 ?gg3 ?no3_part ?ek3 ?ex3 ?ve3 ?ty3 ?hd3 ?ic3 ?su3 ?mr3 ?mo3 ?ha3 ?k3_0 ?k3_v ?k3_1 ?k3_2 ?k3_3 ?k3_4 ?k3_5 ?k3_6 ?k3_7 ?k3_8 ?k3_9 ?xL4 ?sa4 ?ga4 ?gg4 ?no4_part ?ek4 ?ex4 ?ve4 ?ty4 ?hd4 ?ic4 ?su4 ?mr4 ?mo4 ?ha4 ?k4_0 ?k4_v ?k4_1 ?k4_2 ?k4_3 ?k4_4 ?k4_5 ?k4_6 ?k4_7 ?k4_8 ?k4_9 ?xL5 ?sa5 ?ga5 ?gg5 ?no5_line ?ek5 ?ex5 ?ve5 ?ty5 ?hd5 ?ic5 ?su5 ?mr5 ?mo5 ?ha5 ?k5_0 ?k5_v ?k5_1 ?k5_2 ?k5_3 ?k5_4 ?k5_5 ?k5_6 ?k5_7 ?k5_8 ?k5_9 ?xL6 ?sa6 ?ga6 ?gg6 ?no6_limit ?ek6 ?ex6 ?ve6 ?ty6 ?hd6 ?ic6 ?su6 ?mr6 ?mo6 ?ha6 ?k6_0 ?k6_v ?k6_1 ?k6_2 ?k6_3 ?k6_4 ?k6_5 ?k6_6 ?k6_7 ?k6_8 ?k6_9 ?xL8 ?sa8 ?ga8 ?gg8 ?no8_name ?ek8 ?ex8 ?ve8 ?ty8 ?hd8 ?ic8 ?su8 ?mr8 ?mo8 ?ha8 ?k8_0 ?k8_v ?k8_1 ?k8_2 ?k8_3 ?k8_4 ?k8_5 ?k8_6 ?k8_7 ?k8_8 ?k8_9 ?xL9 ?sa9 ?ga9 ?gg9 ?no9_name ?ek9 ?ex9 ?ve9 ?ty9 ?hd9 ?ic9 ?su9 ?mr9 ?mo9 ?ha9 ?k9_0 ?k9_v ?k9_1 ?k9_2 ?k9_3 ?k9_4 ?k9_5 ?k9_6 ?k9_7 ?k9_8 ?k9_9
    (case a_f_law_draw => first | k_is | rfl | decide +kernel)
    (case l_f_law_draw => first | k_is | rfl | decide +kernel)
    (case c_f_law_draw => first | k_is | rfl | decide +kernel)
    (case k_f_law_draw => first | k_is | rfl | decide +kernel)
    (case a_f_law_word => first | k_is | rfl | decide +kernel)
    (case l_f_law_word => first | k_is | rfl | decide +kernel)
    (case c_f_law_word => first | k_is | rfl | decide +kernel)
    (case k_f_law_word => first | k_is | rfl | decide +kernel)
    (case a_f_law_exact => first | k_is | rfl | decide +kernel)
    (case l_f_law_exact => first | k_is | rfl | decide +kernel)
    (case c_f_law_exact => first | k_is | rfl | decide +kernel)
    (case k_f_law_exact => first | k_is | rfl | decide +kernel)
    (case a_f_law_family => first | k_is | rfl | decide +kernel)
    (case l_f_law_family => first | k_is | rfl | decide +kernel)
    (case c_f_law_family => first | k_is | rfl | decide +kernel)
    (case k_f_law_family => first | k_is | rfl | decide +kernel)
    (case a_f_law_due => first | k_is | rfl | decide +kernel)
    (case l_f_law_due => first | k_is | rfl | decide +kernel)
    (case c_f_law_due => first | k_is | rfl | decide +kernel)
    (case k_f_law_due => first | k_is | rfl | decide +kernel)
    (case a_f_law => first | k_is | rfl | decide +kernel)
    (case l_f_law => first | k_is | rfl | decide +kernel)
    (case c_f_law => first | k_is | rfl | decide +kernel)
    (case k_f_law => first | k_is | rfl | decide +kernel)
    (case z_len => first | k_is | rfl | decide +kernel)
    (case z_int => first | k_is | rfl | decide +kernel)
    (case z_list => first | k_is | rfl | decide +kernel)
    (case z_tuple => first | k_is | rfl | decide +kernel)
    (case z_dict => first | k_is | rfl | decide +kernel)
    (case z_set => first | k_is | rfl | decide +kernel)
    (case z_all => first | k_is | rfl | decide +kernel)
    (case z_range => first | k_is | rfl | decide +kernel)
    (case z_enumerate => first | k_is | rfl | decide +kernel)
    (case z_sorted => first | k_is | rfl | decide +kernel)
    (case z_min => first | k_is | rfl | decide +kernel)
    (case z_isinstance => first | k_is | rfl | decide +kernel)
    (case z_bool => first | k_is | rfl | decide +kernel)
    (case z_str => first | k_is | rfl | decide +kernel)
    (case z_zip => first | k_is | rfl | decide +kernel)
    (case z_ValueError => first | k_is | rfl | decide +kernel)
    (case z_super => first | k_is | rfl | decide +kernel)
    (case z_repr => first | k_is | rfl | decide +kernel)
    (case g_c0 => first | k_is | rfl | decide +kernel)
    (case g_c1 => first | k_is | rfl | decide +kernel)
    (case g_c2 => first | k_is | rfl | decide +kernel)
    (case g_c3 => first | k_is | rfl | decide +kernel)
    (case g_c4 => first | k_is | rfl | decide +kernel)
    (case g_c5 => first | k_is | rfl | decide +kernel)
    (case g_c6 => first | k_is | rfl | decide +kernel)
    (case g_c7 => first | k_is | rfl | decide +kernel)
    (case g_c8 => first | k_is | rfl | decide +kernel)
    (case g_c9 => first | k_is | rfl | decide +kernel)
    (case eI1 => first | k_is | rfl | decide +kernel)
    (case eI2 => first | k_is | rfl | decide +kernel)
    (case eI3 => first | k_is | rfl | decide +kernel)
    (case eI4 => first | k_is | rfl | decide +kernel)
    (case eI5 => first | k_is | rfl | decide +kernel)
    (case eI6 => first | k_is | rfl | decide +kernel)
    (case eI8 => first | k_is | rfl | decide +kernel)
    (case eI9 => first | k_is | rfl | decide +kernel)
    (case l_e1 => first | k_is | rfl | decide +kernel)
    (case c_e1 => first | k_is | rfl | decide +kernel)
    (case l_cd1 => first | k_is | rfl | decide +kernel)
    (case e_vs1 => first | k_is | rfl | decide +kernel)
    (case l_cc1 => first | k_is | rfl | decide +kernel)
    (case et1 => first | k_is | rfl | decide +kernel)
    (case l_e2 => first | k_is | rfl | decide +kernel)
    (case c_e2 => first | k_is | rfl | decide +kernel)
    (case l_cd2 => first | k_is | rfl | decide +kernel)
    (case e_vs2 => first | k_is | rfl | decide +kernel)
    (case l_cc2 => first | k_is | rfl | decide +kernel)
    (case et2 => first | k_is | rfl | decide +kernel)
    (case l_e3 => first | k_is | rfl | decide +kernel)
    (case c_e3 => first | k_is | rfl | decide +kernel)
    (case l_cd3 => first | k_is | rfl | decide +kernel)
    (case e_vs3 => first | k_is | rfl | decide +kernel)
    (case l_cc3 => first | k_is | rfl | decide +kernel)
    (case et3 => first | k_is | rfl | decide +kernel)
    (case l_e4 => first | k_is | rfl | decide +kernel)
    (case c_e4 => first | k_is | rfl | decide +kernel)
    (case l_cd4 => first | k_is | rfl | decide +kernel)
    (case e_vs4 => first | k_is | rfl | decide +kernel)
    (case l_cc4 => first | k_is | rfl | decide +kernel)
    (case et4 => first | k_is | rfl | decide +kernel)
    (case l_e5 => first | k_is | rfl | decide +kernel)
    (case c_e5 => first | k_is | rfl | decide +kernel)
    (case l_cd5 => first | k_is | rfl | decide +kernel)
    (case e_vs5 => first | k_is | rfl | decide +kernel)
    (case l_cc5 => first | k_is | rfl | decide +kernel)
    (case et5 => first | k_is | rfl | decide +kernel)
    (case l_e6 => first | k_is | rfl | decide +kernel)
    (case c_e6 => first | k_is | rfl | decide +kernel)
    (case l_cd6 => first | k_is | rfl | decide +kernel)
    (case e_vs6 => first | k_is | rfl | decide +kernel)
    (case l_cc6 => first | k_is | rfl | decide +kernel)
    (case et6 => first | k_is | rfl | decide +kernel)
    (case l_e7 => first | k_is | rfl | decide +kernel)
    (case c_e7 => first | k_is | rfl | decide +kernel)
    (case l_cd7 => first | k_is | rfl | decide +kernel)
    (case e_vs7 => first | k_is | rfl | decide +kernel)
    (case l_cc7 => first | k_is | rfl | decide +kernel)
    (case et7 => first | k_is | rfl | decide +kernel)
    (case l_c7 => first | k_is | rfl | decide +kernel)
    (case d_c7 => first | k_is | rfl | decide +kernel)
    (case opq => first | k_is | rfl | decide +kernel)
    (case htop => first | k_is | rfl | decide +kernel)
    (case hfile => first | k_is | rfl | decide +kernel)
    (case c_hn => first | k_is | rfl | decide +kernel)
    (case c_ht => first | k_is | rfl | decide +kernel)
    (case xL1 => first | k_is | rfl | decide +kernel)
    (case sa1 => first | k_is | rfl | decide +kernel)
    (case ga1 => first | k_is | rfl | decide +kernel)
    (case gg1 => first | k_is | rfl | decide +kernel)
    (case no1_part => first | k_is | rfl | decide +kernel)
    (case no1_where => first | k_is | rfl | decide +kernel)
    (case ek1 => first | k_is | rfl | decide +kernel)
    (case ex1 => first | k_is | rfl | decide +kernel)
    (case ve1 => first | k_is | rfl | decide +kernel)
    (case ty1 => first | k_is | rfl | decide +kernel)
    (case hd1 => first | k_is | rfl | decide +kernel)
    (case ic1 => first | k_is | rfl | decide +kernel)
    (case su1 => first | k_is | rfl | decide +kernel)
    (case mr1 => first | k_is | rfl | decide +kernel)
    (case mo1 => first | k_is | rfl | decide +kernel)
    (case ha1 => first | k_is | rfl | decide +kernel)
    (case k1_0 => first | k_is | rfl | decide +kernel)
    (case k1_v => first | k_is | rfl | decide +kernel)
    (case k1_1 => first | k_is | rfl | decide +kernel)
    (case k1_2 => first | k_is | rfl | decide +kernel)
    (case k1_3 => first | k_is | rfl | decide +kernel)
    (case k1_4 => first | k_is | rfl | decide +kernel)
    (case k1_5 => first | k_is | rfl | decide +kernel)
    (case k1_6 => first | k_is | rfl | decide +kernel)
    (case k1_7 => first | k_is | rfl | decide +kernel)
    (case k1_8 => first | k_is | rfl | decide +kernel)
    (case k1_9 => first | k_is | rfl | decide +kernel)
    (case xL2 => first | k_is | rfl | decide +kernel)
    (case sa2 => first | k_is | rfl | decide +kernel)
    (case ga2 => first | k_is | rfl | decide +kernel)
    (case gg2 => first | k_is | rfl | decide +kernel)
    (case no2_part => first | k_is | rfl | decide +kernel)
    (case no2_place => first | k_is | rfl | decide +kernel)
    (case ek2 => first | k_is | rfl | decide +kernel)
    (case ex2 => first | k_is | rfl | decide +kernel)
    (case ve2 => first | k_is | rfl | decide +kernel)
    (case ty2 => first | k_is | rfl | decide +kernel)
    (case hd2 => first | k_is | rfl | decide +kernel)
    (case ic2 => first | k_is | rfl | decide +kernel)
    (case su2 => first | k_is | rfl | decide +kernel)
    (case mr2 => first | k_is | rfl | decide +kernel)
    (case mo2 => first | k_is | rfl | decide +kernel)
    (case ha2 => first | k_is | rfl | decide +kernel)
    (case k2_0 => first | k_is | rfl | decide +kernel)
    (case k2_v => first | k_is | rfl | decide +kernel)
    (case k2_1 => first | k_is | rfl | decide +kernel)
    (case k2_2 => first | k_is | rfl | decide +kernel)
    (case k2_3 => first | k_is | rfl | decide +kernel)
    (case k2_4 => first | k_is | rfl | decide +kernel)
    (case k2_5 => first | k_is | rfl | decide +kernel)
    (case k2_6 => first | k_is | rfl | decide +kernel)
    (case k2_7 => first | k_is | rfl | decide +kernel)
    (case k2_8 => first | k_is | rfl | decide +kernel)
    (case k2_9 => first | k_is | rfl | decide +kernel)
    (case xL3 => first | k_is | rfl | decide +kernel)
    (case sa3 => first | k_is | rfl | decide +kernel)
    (case ga3 => first | k_is | rfl | decide +kernel)
    (case gg3 => first | k_is | rfl | decide +kernel)
    (case no3_part => first | k_is | rfl | decide +kernel)
    (case ek3 => first | k_is | rfl | decide +kernel)
    (case ex3 => first | k_is | rfl | decide +kernel)
    (case ve3 => first | k_is | rfl | decide +kernel)
    (case ty3 => first | k_is | rfl | decide +kernel)
    (case hd3 => first | k_is | rfl | decide +kernel)
    (case ic3 => first | k_is | rfl | decide +kernel)
    (case su3 => first | k_is | rfl | decide +kernel)
    (case mr3 => first | k_is | rfl | decide +kernel)
    (case mo3 => first | k_is | rfl | decide +kernel)
    (case ha3 => first | k_is | rfl | decide +kernel)
    (case k3_0 => first | k_is | rfl | decide +kernel)
    (case k3_v => first | k_is | rfl | decide +kernel)
    (case k3_1 => first | k_is | rfl | decide +kernel)
    (case k3_2 => first | k_is | rfl | decide +kernel)
    (case k3_3 => first | k_is | rfl | decide +kernel)
    (case k3_4 => first | k_is | rfl | decide +kernel)
    (case k3_5 => first | k_is | rfl | decide +kernel)
    (case k3_6 => first | k_is | rfl | decide +kernel)
    (case k3_7 => first | k_is | rfl | decide +kernel)
    (case k3_8 => first | k_is | rfl | decide +kernel)
    (case k3_9 => first | k_is | rfl | decide +kernel)
    (case xL4 => first | k_is | rfl | decide +kernel)
    (case sa4 => first | k_is | rfl | decide +kernel)
    (case ga4 => first | k_is | rfl | decide +kernel)
    (case gg4 => first | k_is | rfl | decide +kernel)
    (case no4_part => first | k_is | rfl | decide +kernel)
    (case ek4 => first | k_is | rfl | decide +kernel)
    (case ex4 => first | k_is | rfl | decide +kernel)
    (case ve4 => first | k_is | rfl | decide +kernel)
    (case ty4 => first | k_is | rfl | decide +kernel)
    (case hd4 => first | k_is | rfl | decide +kernel)
    (case ic4 => first | k_is | rfl | decide +kernel)
    (case su4 => first | k_is | rfl | decide +kernel)
    (case mr4 => first | k_is | rfl | decide +kernel)
    (case mo4 => first | k_is | rfl | decide +kernel)
    (case ha4 => first | k_is | rfl | decide +kernel)
    (case k4_0 => first | k_is | rfl | decide +kernel)
    (case k4_v => first | k_is | rfl | decide +kernel)
    (case k4_1 => first | k_is | rfl | decide +kernel)
    (case k4_2 => first | k_is | rfl | decide +kernel)
    (case k4_3 => first | k_is | rfl | decide +kernel)
    (case k4_4 => first | k_is | rfl | decide +kernel)
    (case k4_5 => first | k_is | rfl | decide +kernel)
    (case k4_6 => first | k_is | rfl | decide +kernel)
    (case k4_7 => first | k_is | rfl | decide +kernel)
    (case k4_8 => first | k_is | rfl | decide +kernel)
    (case k4_9 => first | k_is | rfl | decide +kernel)
    (case xL5 => first | k_is | rfl | decide +kernel)
    (case sa5 => first | k_is | rfl | decide +kernel)
    (case ga5 => first | k_is | rfl | decide +kernel)
    (case gg5 => first | k_is | rfl | decide +kernel)
    (case no5_line => first | k_is | rfl | decide +kernel)
    (case ek5 => first | k_is | rfl | decide +kernel)
    (case ex5 => first | k_is | rfl | decide +kernel)
    (case ve5 => first | k_is | rfl | decide +kernel)
    (case ty5 => first | k_is | rfl | decide +kernel)
    (case hd5 => first | k_is | rfl | decide +kernel)
    (case ic5 => first | k_is | rfl | decide +kernel)
    (case su5 => first | k_is | rfl | decide +kernel)
    (case mr5 => first | k_is | rfl | decide +kernel)
    (case mo5 => first | k_is | rfl | decide +kernel)
    (case ha5 => first | k_is | rfl | decide +kernel)
    (case k5_0 => first | k_is | rfl | decide +kernel)
    (case k5_v => first | k_is | rfl | decide +kernel)
    (case k5_1 => first | k_is | rfl | decide +kernel)
    (case k5_2 => first | k_is | rfl | decide +kernel)
    (case k5_3 => first | k_is | rfl | decide +kernel)
    (case k5_4 => first | k_is | rfl | decide +kernel)
    (case k5_5 => first | k_is | rfl | decide +kernel)
    (case k5_6 => first | k_is | rfl | decide +kernel)
    (case k5_7 => first | k_is | rfl | decide +kernel)
    (case k5_8 => first | k_is | rfl | decide +kernel)
    (case k5_9 => first | k_is | rfl | decide +kernel)
    (case xL6 => first | k_is | rfl | decide +kernel)
    (case sa6 => first | k_is | rfl | decide +kernel)
    (case ga6 => first | k_is | rfl | decide +kernel)
    (case gg6 => first | k_is | rfl | decide +kernel)
    (case no6_limit => first | k_is | rfl | decide +kernel)
    (case ek6 => first | k_is | rfl | decide +kernel)
    (case ex6 => first | k_is | rfl | decide +kernel)
    (case ve6 => first | k_is | rfl | decide +kernel)
    (case ty6 => first | k_is | rfl | decide +kernel)
    (case hd6 => first | k_is | rfl | decide +kernel)
    (case ic6 => first | k_is | rfl | decide +kernel)
    (case su6 => first | k_is | rfl | decide +kernel)
    (case mr6 => first | k_is | rfl | decide +kernel)
    (case mo6 => first | k_is | rfl | decide +kernel)
    (case ha6 => first | k_is | rfl | decide +kernel)
    (case k6_0 => first | k_is | rfl | decide +kernel)
    (case k6_v => first | k_is | rfl | decide +kernel)
    (case k6_1 => first | k_is | rfl | decide +kernel)
    (case k6_2 => first | k_is | rfl | decide +kernel)
    (case k6_3 => first | k_is | rfl | decide +kernel)
    (case k6_4 => first | k_is | rfl | decide +kernel)
    (case k6_5 => first | k_is | rfl | decide +kernel)
    (case k6_6 => first | k_is | rfl | decide +kernel)
    (case k6_7 => first | k_is | rfl | decide +kernel)
    (case k6_8 => first | k_is | rfl | decide +kernel)
    (case k6_9 => first | k_is | rfl | decide +kernel)
    (case xL8 => first | k_is | rfl | decide +kernel)
    (case sa8 => first | k_is | rfl | decide +kernel)
    (case ga8 => first | k_is | rfl | decide +kernel)
    (case gg8 => first | k_is | rfl | decide +kernel)
    (case no8_name => first | k_is | rfl | decide +kernel)
    (case ek8 => first | k_is | rfl | decide +kernel)
    (case ex8 => first | k_is | rfl | decide +kernel)
    (case ve8 => first | k_is | rfl | decide +kernel)
    (case ty8 => first | k_is | rfl | decide +kernel)
    (case hd8 => first | k_is | rfl | decide +kernel)
    (case ic8 => first | k_is | rfl | decide +kernel)
    (case su8 => first | k_is | rfl | decide +kernel)
    (case mr8 => first | k_is | rfl | decide +kernel)
    (case mo8 => first | k_is | rfl | decide +kernel)
    (case ha8 => first | k_is | rfl | decide +kernel)
    (case k8_0 => first | k_is | rfl | decide +kernel)
    (case k8_v => first | k_is | rfl | decide +kernel)
    (case k8_1 => first | k_is | rfl | decide +kernel)
    (case k8_2 => first | k_is | rfl | decide +kernel)
    (case k8_3 => first | k_is | rfl | decide +kernel)
    (case k8_4 => first | k_is | rfl | decide +kernel)
    (case k8_5 => first | k_is | rfl | decide +kernel)
    (case k8_6 => first | k_is | rfl | decide +kernel)
    (case k8_7 => first | k_is | rfl | decide +kernel)
    (case k8_8 => first | k_is | rfl | decide +kernel)
    (case k8_9 => first | k_is | rfl | decide +kernel)
    (case xL9 => first | k_is | rfl | decide +kernel)
    (case sa9 => first | k_is | rfl | decide +kernel)
    (case ga9 => first | k_is | rfl | decide +kernel)
    (case gg9 => first | k_is | rfl | decide +kernel)
    (case no9_name => first | k_is | rfl | decide +kernel)
    (case ek9 => first | k_is | rfl | decide +kernel)
    (case ex9 => first | k_is | rfl | decide +kernel)
    (case ve9 => first | k_is | rfl | decide +kernel)
    (case ty9 => first | k_is | rfl | decide +kernel)
    (case hd9 => first | k_is | rfl | decide +kernel)
    (case ic9 => first | k_is | rfl | decide +kernel)
    (case su9 => first | k_is | rfl | decide +kernel)
    (case mr9 => first | k_is | rfl | decide +kernel)
    (case mo9 => first | k_is | rfl | decide +kernel)
    (case ha9 => first | k_is | rfl | decide +kernel)
    (case k9_0 => first | k_is | rfl | decide +kernel)
    (case k9_v => first | k_is | rfl | decide +kernel)
    (case k9_1 => first | k_is | rfl | decide +kernel)
    (case k9_2 => first | k_is | rfl | decide +kernel)
    (case k9_3 => first | k_is | rfl | decide +kernel)
    (case k9_4 => first | k_is | rfl | decide +kernel)
    (case k9_5 => first | k_is | rfl | decide +kernel)
    (case k9_6 => first | k_is | rfl | decide +kernel)
    (case k9_7 => first | k_is | rfl | decide +kernel)
    (case k9_8 => first | k_is | rfl | decide +kernel)
    (case k9_9 => first | k_is | rfl | decide +kernel)
#print axioms PySem.Challenge.cw_thawedwrites_k81_error_classes_holds
