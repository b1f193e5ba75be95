import PyProof.Rows.All
import Wide.All
import OpenK.AllK
import Wide.FinOn
import HandS.Base
import HandS.Call
import HandS.List
import HandS.Comp
import HandS.Ends
import HandS.Dict
import HandS.Iter
import HandS.Text
import HandS.Words
import HandS.WordsList
import HandS.WordsDict
import HandS.Wide
import HandS.More
import HandS.IsInst
import HandS.Conv
import HandS.Strs
import HandS.StrMore
import PyProof.ReprRoads
import HandS.Lambda
import HandS.Nested
import HandS.NoneIn
import HandS.DictComp
import KE.KExcSuper
import HandS.FStr
import HandS.Exc
import HandS.ExcInit
import HandS.WordsExc
import HandS.CallSlots
import HandS.OwnEq
import KE.KEqNest
import HandS.SortKw
import PyProof.Rows.SortStr
import HandS.Style
import HandS.EndTab
import PySem.Challenge.RW_thawedwrites_k05_whole_equal_heaps
set_option Elab.async false
set_option linter.all false
set_option maxRecDepth 100000
namespace TW
open PySem PySem.Spec PyProof.Rows L2
def topS (i : Nat) : Stmt := PySem.Challenge.pw_thawedwrites_k05_whole_equal_heaps.main.body.getD i (.Pass ⟨0, 0, 0, 0⟩)
/-- the built-ins are the built-ins -/
structure Bl (mg : Str → Option Value) : Prop where
  m_len : mg "len" = none
  m_int : mg "int" = none
  m_list : mg "list" = none
  m_tuple : mg "tuple" = none
  m_dict : mg "dict" = none
  m_set : mg "set" = none
  m_all : mg "all" = none
  m_range : mg "range" = none
  m_enumerate : mg "enumerate" = none
  m_sorted : mg "sorted" = none
  m_min : mg "min" = none
  m_isinstance : mg "isinstance" = none
  m_bool : mg "bool" = none
  m_str : mg "str" = none
  m_zip : mg "zip" = none
  m_ValueError : mg "ValueError" = none
  m_super : mg "super" = none
  m_repr : mg "repr" = none
/-- a def of the text, at its name -/
structure Df (K : PySem.W.Frag) (mg : Str → Option Value) (x : Str) (st : Stmt) (f : Addr) (fd : FuncData) (ps : List Str) : Prop where
  F : Fun K x x st f fd
  g : mg x = some (.ref f)
  b : Binds K fd ps []
end TW
set_option Elab.async false
set_option linter.all false
set_option maxRecDepth 100000
namespace TW
open PySem PySem.Spec PyProof.Rows L2
/-! heaps: all but p and c stays -/
def Fr (p c : Addr) (H H' : Hp) : Prop := ∀ b o, b ≠ p → b ≠ c → H b = some o → H' b = some o
theorem Fr.refl (p c : Addr) (H : Hp) : Fr p c H H := fun _ _ _ _ h => h
theorem Fr.trans {p c : Addr} {H H1 H2 : Hp} (a : Fr p c H H1) (b : Fr p c H1 H2) : Fr p c H H2 := fun x o h1 h2 h => b x o h1 h2 (a x o h1 h2 h)
theorem Fr.of_same {p c : Addr} {H H' : Hp} (a : Same H H') : Fr p c H H' := fun b o _ _ h => a b o h
theorem Fr.updP {p c : Addr} {H H' : Hp} {o : HO} (a : Fr p c H H') : Fr p c H (upd H' p o) := fun b x h1 h2 h => by
  rw [upd_ne h1]; exact a b x h1 h2 h
theorem Fr.updC {p c : Addr} {H H' : Hp} {o : HO} (a : Fr p c H H') : Fr p c H (upd H' c o) := fun b x h1 h2 h => by
  rw [upd_ne h2]; exact a b x h1 h2 h
theorem Fr.updN {p c q : Addr} {H H' : Hp} {o : HO} (a : Fr p c H H') (n : H q = none) : Fr p c H (upd H' q o) := fun b x h1 h2 h => by
  rw [upd_ne (ne_of_none h n)]; exact a b x h1 h2 h
/-- the pool at p, its cells at c -/
structure Pool (p c : Addr) (H : Hp) : Prop where
  ne : p ≠ c
  ex : ∃ (xs : List Int) (at' n : Nat), H p = some (.lst [.ref c, .int (at' : Int), .int (n : Int)]) ∧ H c = some (.lst (xs.map V.int)) ∧ xs.length ≤ 63
theorem Pool.frN {p c q : Addr} {H : Hp} {o : HO} (P : Pool p c H) (n : H q = none) : Pool p c (upd H q o) := by
  obtain ⟨xs, a, m, h1, h2, h3⟩ := P.ex
  exact ⟨P.ne, xs, a, m, by rw [upd_ne (ne_of_none h1 n)]; exact h1, by rw [upd_ne (ne_of_none h2 n)]; exact h2, h3⟩
theorem Pool.same {p c : Addr} {H H' : Hp} (P : Pool p c H) (s : Same H H') : Pool p c H' := by
  obtain ⟨xs, a, m, h1, h2, h3⟩ := P.ex
  exact ⟨P.ne, xs, a, m, s _ _ h1, s _ _ h2, h3⟩
theorem Pool.np {p c q : Addr} {H : Hp} (P : Pool p c H) (n : H q = none) : q ≠ p ∧ q ≠ c := by
  obtain ⟨xs, a, m, h1, h2, h3⟩ := P.ex
  exact ⟨(ne_of_none h1 n).symm, (ne_of_none h2 n).symm⟩
def spDraw : Sp := fun vs H Q _ => ∃ (p c : Addr) (l : Int), vs = [.ref p, .int l] ∧ Pool p c H ∧ 0 < l ∧ l.natAbs.log2 < 9000 ∧
  ∀ (r : Int) (H' : Hp), 0 ≤ r → r < l → Pool p c H' → Fr p c H H' → Q (.int r) H'
theorem atI_of {α : Type} {xs : List α} {i : Int} {j : Nat} {v : α} (e : i = (j : Int)) (h : xs[j]? = some v) : atI xs i = some v := by
  subst e; exact atI_nat h
theorem ixN_of {n : Nat} {i : Int} {j : Nat} (e : i = (j : Int)) (h : j < n) : ixN n i = some j := by
  subst e
  unfold ixN
  rw [if_pos (by omega), if_pos (by omega)]
  simp
theorem get_map_int {xs : List Int} {j : Nat} (h : j < xs.length) : (xs.map V.int)[j]? = some (.int xs[j]) := by
  rw [List.getElem?_map, List.getElem?_eq_getElem h]; rfl
theorem pos1 : (0 : Int) < 2147483629 := by decide
theorem pos2 : (0 : Int) < 2147483647 := by decide
theorem pos3 : (0 : Int) < 2147483399 := by decide
theorem cmul_l {i j m : Int} (h : 0 < m) (h2 : m < 2 ^ 64) : CMul (i % m) j := by
  have h3 := Int.emod_nonneg i (show m ≠ 0 by omega)
  have h4 := Int.emod_lt_of_pos i h
  exact .inl ⟨by omega, by omega⟩
section
variable {P : Program} {w : World} {K : PySem.W.Frag} {mg : Str → Option Value} {base : Heap}
abbrev S_law_draw : Stmt := topS 26
abbrev N_law_draw : List Str := ["_law_pool", "_law_limit", "_law_cells", "_law_at", "_law_digit", "_law_cell", "_law_number"]
abbrev P_law_draw : List Str := ["_law_pool", "_law_limit"]
theorem sc_law_draw : FnScope N_law_draw P_law_draw (defScope S_law_draw) := ⟨rfl, rfl, rfl, by decide +kernel, rfl, by decide +kernel, by decide +kernel⟩
set_option maxHeartbeats 4000000 in
theorem ok_draw {f : Addr} {fd : FuncData} (F : Fun K "_law_draw" "_law_draw" S_law_draw f fd) (B : Bl mg) : FnOk P w K mg base CX0 1 f fd ["_law_pool", "_law_limit"] spDraw := by
  refine F.ok sc_law_draw (fun vs H Q E h => ?_) (fun cdv A outer s H vs Q E hr h => ?_)
  · obtain ⟨p, c, l, rfl, _⟩ := h
    rfl
  · obtain ⟨p, c, l, rfl, PL, hl, hb, k⟩ := h
    obtain ⟨ne, xs, at', n, hp, hc, hx⟩ := PL
    refine ⟨_, (pss_cons (ps_set (i := 2) sc_law_draw.nd rfl (by first | exact Or.inl rfl | exact Or.inr rfl) (pe_ix ix_list (pv 0) pe_int (fun _ _ => rfl)))
 (pss_cons (ps_set (i := 3) sc_law_draw.nd rfl (by first | exact Or.inl rfl | exact Or.inr rfl) (pe_ix ix_list (pv 0) pe_int (fun _ _ => rfl)))
 (pss_cons (ps_asg (pe_op op_add (pe_ix ix_list (pv 0) pe_int (fun _ _ => rfl)) pe_int) (pg_sub (pv 0) pe_int set_list))
 (pss_cons (ps_if (PW.pt (pw_and (pt_cmpR op_lt (pv 3) (pe_callB call_len_seq (by rfl) B.m_len PySem.boot_len (pa_cons (pv 2) pa_nil)) (nomark _)) (pw_and1 (pt_cmpR op_ge (pe_ix ix_list (pv 2) (pv 3) (fun _ _ => rfl)) (pe_op op_pow pe_int pe_int) (nomark _))))) (pss_cons (ps_set (i := 4) sc_law_draw.nd rfl (by first | exact Or.inl rfl | exact Or.inr rfl) (pe_op op_mod (pe_callTy call_int1 (by rfl) B.m_int (by decide +kernel) (pa_cons (pe_ix ix_list (pv 2) (pv 3) (fun _ _ => rfl)) pa_nil)) (pv 1)))
 (pss_cons (ps_asg (pe_op op_fdivW (pe_ix ix_list (pv 2) (pv 3) (fun _ _ => rfl)) (pv 1)) (pg_sub (pv 2) (pv 3) set_list))
 (pss_cons (ps_if (pt_cmpR op_lt (pe_ix ix_list (pv 2) (pv 3) (fun _ _ => rfl)) (pe_op op_pow pe_int pe_int) (nomark _)) (pss_one (ps_asg (pe_op op_add (pv 3) pe_int) (pg_sub (pv 0) pe_int set_list))) pss_nil)
 (pss_one (ps_ret (pv 4)))))) pss_nil)
 (pss_cons (ps_asg (pe_op op_add (pv 3) pe_int) (pg_sub (pv 0) pe_int set_list))
 (pss_cons (ps_set (i := 5) sc_law_draw.nd rfl (by first | exact Or.inl rfl | exact Or.inr rfl) pe_int)
 (pss_cons (ps_if (pt_cmpR op_gt (pe_callB call_len_seq (by rfl) B.m_len PySem.boot_len (pa_cons (pv 2) pa_nil)) pe_int (nomark _)) (pss_one (ps_set (i := 5) sc_law_draw.nd rfl (by first | exact Or.inl rfl | exact Or.inr rfl) (pe_ix ix_list (pv 2) (pe_op op_mod (pv 3) (pe_callB call_len_seq (by rfl) B.m_len PySem.boot_len (pa_cons (pv 2) pa_nil))) (fun _ _ => rfl)))) pss_nil)
 (pss_cons (ps_set (i := 6) sc_law_draw.nd rfl (by first | exact Or.inl rfl | exact Or.inr rfl) (pe_op op_mod (pe_op op_mul (pe_callTy call_int1 (by rfl) B.m_int (by decide +kernel) (pa_cons (pe_op op_add (pe_op op_add (pe_op op_mod (pe_callTy call_int1 (by rfl) B.m_int (by decide +kernel) (pa_cons (pv 5) pa_nil)) pe_int) (pe_op op_mul pe_int (pe_ix ix_list (pv 0) pe_int (fun _ _ => rfl)))) pe_int) pa_nil)) pe_int) pe_int))
 (pss_cons (ps_set (i := 6) sc_law_draw.nd rfl (by first | exact Or.inl rfl | exact Or.inr rfl) (pe_op op_mod (pe_callTy call_int1 (by rfl) B.m_int (by decide +kernel) (pa_cons (pe_op op_mul (pv 6) (pe_op op_add (pe_op op_fdiv (pv 6) pe_int) pe_int)) pa_nil)) pe_int))
 (pss_cons (ps_set (i := 6) sc_law_draw.nd rfl (by first | exact Or.inl rfl | exact Or.inr rfl) (pe_op op_mod (pe_callTy call_int1 (by rfl) B.m_int (by decide +kernel) (pa_cons (pe_op op_mul (pv 6) (pe_op op_add (pe_op op_fdiv (pv 6) pe_int) pe_int)) pa_nil)) pe_int))
 (pss_one (ps_ret (pe_op op_mod (pe_callTy call_int1 (by rfl) B.m_int (by decide +kernel) (pa_cons (pe_op op_fdiv (pv 6) pe_int) pa_nil)) (pv 1)))))))))))))), ?_⟩
    have hp1 : H p = some (.lst [.ref c, .int (at' : Int), .int (n : Int)]) := hp
    -- cells, at, pool[2]
    refine ⟨_, rfl, p, _, _, _, rfl, rfl, SqL.of hp, atI_nat (j := 0) rfl, _, rfl, p, _, _, _, rfl, rfl, SqL.of hp, atI_nat (j := 1) rfl, ?_⟩
    refine ⟨_, rfl, p, _, _, _, rfl, rfl, SqL.of hp, atI_nat (j := 2) rfl, _, _, rfl, rfl, _, rfl, p, _, _, 2, rfl, rfl, hp, rfl, ?_⟩
    let H1 : Hp := upd H p (.lst [.ref c, .int (at' : Int), .int ((n + 1 : Nat) : Int)])
    have hc1 : H1 c = some (.lst (xs.map V.int)) := (upd_ne ne.symm).trans hc
    have hq1 : H1 p = some (.lst [.ref c, .int (at' : Int), .int ((n + 1 : Nat) : Int)]) := upd_same
    have fr1 : Fr p c H H1 := (Fr.refl p c H).updP
    -- the rest behind the if
    have hlen : (xs.map V.int).length = xs.length := List.length_map ..
    -- if at < len(cells) and ..
    refine ⟨_, rfl, _, rfl, c, _, rfl, .inl (SqL.of hc1), _, _, rfl, rfl, _, rfl, ?_⟩
    by_cases h1 : (at' : Int) < ((xs.map V.int).length : Int)
    case' pos =>
      have ha : at' < xs.length := by rw [hlen] at h1; omega
      have hg : (xs.map V.int)[at']? = some (.int xs[at']) := get_map_int ha
      rw [decide_eq_true h1]
      refine iteT ?_
      refine ⟨_, rfl, _, rfl, c, _, _, _, rfl, rfl, SqL.of hc1, atI_nat hg, _, _, rfl, rfl, ⟨by decide, by decide, by decide⟩, _, _, rfl, rfl, _, rfl, ?_⟩
      refine ite2 (fun h2 => ?great) (fun h2 => ?small)
      case great =>
        refine ⟨_, rfl, _, rfl, c, _, _, _, rfl, rfl, SqL.of hc1, atI_nat hg, .inl ⟨_, rfl, _, rfl, _, _, rfl, rfl, hl, ?_⟩⟩
        refine ⟨_, rfl, _, rfl, c, _, _, _, rfl, rfl, SqL.of hc1, atI_nat hg, _, rfl, _, _, rfl, rfl, ⟨hl, hb⟩, _, rfl, _, rfl, c, _, _, at', rfl, rfl, hc1, ixN_of rfl (by rw [hlen]; exact ha), ?_⟩
        have hs : (xs.map V.int).set at' (V.int (xs[at'] / l)) = (xs.set at' (xs[at'] / l)).map V.int := by rw [List.map_set]
        rw [hs]
        let H2 : Hp := upd H1 c (.lst ((xs.set at' (xs[at'] / l)).map V.int))
        have hc2 : H2 c = some (.lst ((xs.set at' (xs[at'] / l)).map V.int)) := upd_same
        have hq2 : H2 p = some (.lst [.ref c, .int (at' : Int), .int ((n + 1 : Nat) : Int)]) := (upd_ne ne).trans hq1
        have fr2 : Fr p c H H2 := fr1.updC
        have r0 : 0 ≤ xs[at'] % l := Int.emod_nonneg _ (by omega)
        have r1 : xs[at'] % l < l := Int.emod_lt_of_pos _ hl
        have ha2 : at' < (xs.set at' (xs[at'] / l)).length := by rw [List.length_set]; exact ha
        have hx2 : (xs.set at' (xs[at'] / l)).length ≤ 63 := by rw [List.length_set]; exact hx
        refine ⟨_, rfl, _, rfl, c, _, _, _, rfl, rfl, SqL.of hc2, atI_nat (get_map_int ha2), _, _, rfl, rfl, ⟨by decide, by decide, by decide⟩, _, _, rfl, rfl, _, rfl, ?_⟩
        refine ite2 (fun h3 => ?_) (fun h3 => ?_)
        · refine ⟨_, rfl, _, _, rfl, rfl, _, rfl, p, _, _, 1, rfl, rfl, hq2, rfl, _, rfl, ?_⟩
          exact k _ _ r0 r1 ⟨ne, _, at' + 1, n + 1, upd_same, by rw [upd_ne ne.symm]; exact hc2, hx2⟩ fr2.updP
        · refine ⟨_, rfl, ?_⟩
          exact k _ _ r0 r1 ⟨ne, _, at', n + 1, hq2, hc2, hx2⟩ fr2
    case' neg =>
      rw [decide_eq_false h1]
      refine iteF ?_
      refine iteF ?_
    all_goals
      refine ⟨_, rfl, _, _, rfl, rfl, _, rfl, p, _, _, 1, rfl, rfl, hq1, rfl, ?_⟩
      let H3 : Hp := upd H1 p (.lst [.ref c, .int ((at' + 1 : Nat) : Int), .int ((n + 1 : Nat) : Int)])
      have hc3 : H3 c = some (.lst (xs.map V.int)) := (upd_ne ne.symm).trans hc1
      have hq3 : H3 p = some (.lst [.ref c, .int ((at' + 1 : Nat) : Int), .int ((n + 1 : Nat) : Int)]) := upd_same
      have fr3 : Fr p c H H3 := fr1.updP
      refine ⟨_, rfl, c, _, rfl, .inl (SqL.of hc3), _, _, rfl, rfl, _, rfl, ?_⟩
      by_cases h4 : (0 : Int) < ((xs.map V.int).length : Int)
      case' pos =>
        have h5 : 0 < xs.length := by rw [hlen] at h4; omega
        have h6 : at' % xs.length < xs.length := Nat.mod_lt _ h5
        rw [decide_eq_true h4]
        refine iteT ?_
        refine ⟨_, rfl, _, rfl, _, rfl, c, _, rfl, .inl (SqL.of hc3), _, _, rfl, rfl, h4, c, _, _, _, rfl, rfl, SqL.of hc3, atI_of (j := at' % xs.length) (by rw [hlen]; exact (Int.natCast_emod _ _).symm) (get_map_int h6), ?_⟩
        generalize xs[at' % xs.length] = z
      case' neg =>
        rw [decide_eq_false h4]
        refine iteF ?_
      all_goals
        refine ⟨_, rfl, .inl ⟨_, rfl, _, _, rfl, rfl, pos1, _, rfl, p, _, _, _, rfl, rfl, SqL.of hq3, atI_nat (j := 2) rfl, _, _, rfl, rfl, .inl ⟨by decide, by decide⟩, _, _, rfl, rfl, _, _, rfl, rfl, .inl ⟨_, rfl, _, _, rfl, rfl, .inr ⟨by decide, by decide⟩, _, _, rfl, rfl, pos2, ?_⟩⟩⟩
        refine ⟨_, rfl, _, rfl, _, _, rfl, rfl, ⟨by decide, by decide⟩, _, _, rfl, rfl, _, _, rfl, rfl, cmul_l pos2 (by decide), .inl ⟨_, rfl, _, _, rfl, rfl, pos2, ?_⟩⟩
        refine ⟨_, rfl, _, rfl, _, _, rfl, rfl, ⟨by decide, by decide⟩, _, _, rfl, rfl, _, _, rfl, rfl, cmul_l pos2 (by decide), .inl ⟨_, rfl, _, _, rfl, rfl, pos3, ?_⟩⟩
        refine ⟨_, rfl, _, _, rfl, rfl, ⟨by decide, by decide⟩, .inl ⟨_, rfl, _, rfl, _, _, rfl, rfl, hl, ?_⟩⟩
        exact k _ _ (Int.emod_nonneg _ (by omega)) (Int.emod_lt_of_pos _ hl) ⟨ne, xs, at' + 1, n + 1, hq3, hc3, hx⟩ fr3
end
end TW
set_option Elab.async false
set_option linter.all false
set_option maxRecDepth 100000
namespace TW
open PySem PySem.Spec PyProof.Rows L2 TL
abbrev St' := L2.St
/-! ### mathematics -/
theorem len_le_of_sub {α : Type} [DecidableEq α] : ∀ (l m : List α), l.Nodup → (∀ x ∈ l, x ∈ m) → l.length ≤ m.length
  | [], _, _, _ => Nat.zero_le _
  | x :: l, m, nd, h => by
    have hx : x ∈ m := h x (List.mem_cons_self ..)
    have nd' := List.nodup_cons.mp nd
    have ih := len_le_of_sub l (m.erase x) nd'.2 (fun y hy => (List.mem_erase_of_ne (fun e => nd'.1 (by rw [← e]; exact hy))).mpr (h y (List.mem_cons_of_mem _ hy)))
    rw [List.length_erase_of_mem hx] at ih
    have : 0 < m.length := List.length_pos_of_mem hx
    rw [List.length_cons]
    omega
/-- a word: 1 to 8 letters -/
def IsW (z : Str) : Prop := 1 ≤ z.length ∧ z.length ≤ 8 ∧ ∀ c ∈ z.cps.toList, 97 ≤ c ∧ c ≤ 122
def rep8 (c : Nat) : Str := ⟨#[c, c, c, c, c, c, c, c]⟩
theorem rep8_w {c : Nat} (h : 97 ≤ c ∧ c ≤ 122) : IsW (rep8 c) := ⟨(by show 1 ≤ 8; decide), (by show 8 ≤ 8; decide), fun d hd => by
  have : d = c := by simpa [rep8] using hd
  subst this; exact h⟩
theorem rep8_inj {c d : Nat} (h : rep8 c = rep8 d) : c = d := by
  unfold rep8 at h
  simp only [Str.mk.injEq] at h
  have := congrArg (fun a : Array Nat => a[0]?) h
  simpa using this
theorem reps_full {ws : List Str} (h : ∀ j, j < 26 → rep8 (97 + j) ∈ ws) : 26 ≤ ws.length := by
  have e := len_le_of_sub ((List.range 26).map fun j => rep8 (97 + j)) ws ?_ ?_
  · simpa using e
  · refine List.Pairwise.map _ (fun a b hab h' => hab ?_) (List.nodup_range (n := 26))
    have := rep8_inj h'
    omega
  · intro x hx
    obtain ⟨j, hj, rfl⟩ := List.mem_map.mp hx
    exact h j (List.mem_range.mp hj)
theorem abc_at : ∀ r : Fin 26, ((Str.ofString "abcdefghijklmnopqrstuvwxyz").cps.toList)[(r : Nat)]? = some (97 + (r : Nat)) := by decide +kernel
theorem abc_at' {i c : Nat} (h : (Str.ofString "abcdefghijklmnopqrstuvwxyz").cps[i]? = some c) : i < 26 ∧ c = 97 + i := by
  have h' : (Str.ofString "abcdefghijklmnopqrstuvwxyz").cps.toList[i]? = some c := by rw [← h]; simp
  have hl : (Str.ofString "abcdefghijklmnopqrstuvwxyz").cps.toList.length = 26 := by decide +kernel
  have hi : i < 26 := by
    have := (List.getElem?_eq_some_iff.mp h').1
    omega
  have := abc_at ⟨i, hi⟩
  simp only at this
  rw [h'] at this
  exact ⟨hi, Option.some.inj this⟩
theorem join_signs : ∀ cs : List Nat, tl (Str.join Str.empty (cs.map fun c => (⟨#[c]⟩ : Str))) = cs
  | [] => rfl
  | [c] => rfl
  | c :: d :: r => by
    have ih := join_signs (d :: r)
    rw [tl_join] at ih ⊢
    show [c] ++ ([] ++ _) = _
    rw [List.nil_append]
    show c :: _ = c :: (d :: r)
    exact congrArg (c :: ·) ih
theorem join_cps (cs : List Nat) : (Txt.join Str.empty (cs.map fun c => (⟨#[c]⟩ : Str))).cps.toList = cs := by
  rw [join_eq]
  exact join_signs cs
theorem flat_strs : ∀ ws : List Str, (ws.map V.str).all flatV = true
  | [] => rfl
  | _ :: ws => flat_strs ws
theorem inV_strs {z : Str} {ws : List Str} : inV (.str z) (ws.map V.str) = decide (z ∈ ws) := by
  induction ws with
  | nil => rfl
  | cons y ws ih =>
    show (eqV (.str y) (.str z) || inV (.str z) (ws.map V.str)) = _
    rw [ih]
    by_cases h : z = y
    · subst h
      simp [eqV]
    · have h2 : ¬ y = z := fun e => h e.symm
      simp [eqV, h, h2]
theorem ite_dec {b : Bool} {A C : Prop} (h1 : b = true → A) (h2 : b = false → C) : if b = true then A else C := by
  cases b
  · exact (if_neg Bool.false_ne_true).mpr (h2 rfl)
  · exact (if_pos rfl).mpr (h1 rfl)
theorem not_inT {z : Str} {ws : List Str} (h : (if true = true then !inV (.str z) (ws.map V.str) else inV (.str z) (ws.map V.str)) = true) : z ∉ ws := by
  rw [inV_strs] at h
  simpa using h
theorem not_inF {z : Str} {ws : List Str} (h : (if true = true then !inV (.str z) (ws.map V.str) else inV (.str z) (ws.map V.str)) = false) : z ∈ ws := by
  rw [inV_strs] at h
  simpa using h
theorem yes_of {σ : St'} {H : Hp} {A C : Hp → Prop} (h : A H) : tYes σ H fun b H3 => if b = true then A H3 else C H3 := iteT (A := A H) (B := C H) h
/-! ### rules of mine -/
section
variable {X : Cx}
def rMulS : R2 := fun x y H Q => ∃ z n, x = .str z ∧ y = .int n ∧ MulOk z n ∧ Q (.str (Txt.mul z n)) H
theorem op_mulS : OpR X (binaryOp .Mult) rMulS := by
  intro pins s σ H x y v u Q I rx ry h
  obtain ⟨z, n, rfl, rfl, hm, q⟩ := h
  obtain ⟨t, rfl⟩ := rx
  obtain ⟨t', rfl⟩ := ry
  exact SB.mul hm fun t2 k => ⟨.str _, H, I.tok k, ⟨_, rfl⟩, q⟩
end
theorem mul8_ok (c : Nat) : MulOk ⟨#[c]⟩ 8 := ⟨by decide, fun _ _ => by show ¬ ((1 : Int) > (2 ^ 63 - 1) / 8); decide, fun _ _ => by show Builtin.Str.tooLong (1 * 8) = false; decide⟩
theorem mul8 (c : Nat) : Txt.mul ⟨#[c]⟩ 8 = rep8 c := rfl
theorem for_str {x : Str} {g : TG} {tb : TS} {D : Ends} {σ : St'} {H : Hp} (Pv : Nat → St' → Hp → Prop) (h0 : Pv 0 σ H)
    (hs : ∀ i c σ H, x.cps[i]? = some c → Pv i σ H → g (.str ⟨#[c]⟩) σ H fun σ2 H2 => tb { D with nx := Pv (i + 1), ct := Pv (i + 1), bk := D.nx } σ2 H2) (hd : ∀ σ H, Pv x.cps.size σ H → D.nx σ H) :
    ∃ W : Nat → Nat → St' → Hp → Prop, (∃ m, W 0 m σ H) ∧ ∀ i m σ H, W i m σ H →
      ((Its x).stop i H ∧ D.nx σ H) ∨ ((Its x).go i H ∧ ∃ N : St' → Hp → Prop, (∀ σ' H', N σ' H' → ∃ m', m' < m ∧ W (i + 1) m' σ' H') ∧ ∀ y H', (Its x).yld i H y H' → g y σ H' fun σ2 H2 => tb { D with nx := N, ct := N, bk := D.nx } σ2 H2) := by
  refine ⟨fun i m σ H => m = x.cps.size - i ∧ i ≤ x.cps.size ∧ Pv i σ H, ⟨x.cps.size, by simp, Nat.zero_le _, h0⟩, ?_⟩
  rintro i m σ H ⟨rfl, hi, p⟩
  by_cases hlt : i < x.cps.size
  · refine .inr ⟨hlt, Pv (i + 1), fun σ' H' p' => ⟨x.cps.size - (i + 1), by omega, rfl, hlt, p'⟩, fun y H' hy => ?_⟩
    obtain ⟨e, c, hc, rfl⟩ := hy
    subst e
    exact hs i c σ _ hc p
  · have e : i = x.cps.size := by omega
    subst e
    exact .inl ⟨Nat.le_refl _, hd σ H p⟩
/-! ### the promises -/
/-- a list or tuple of mine (not the pool's) -/
structure SeqSt (p c : Addr) (H : Hp) (a : Addr) (xs : List V) : Prop where
  np : a ≠ p
  nc : a ≠ c
  at' : H a = some (.lst xs) ∨ H a = some (.tup xs)
theorem SeqSt.fr {p c a : Addr} {H H' : Hp} {xs : List V} (S : SeqSt p c H a xs) (f : Fr p c H H') : SeqSt p c H' a xs :=
  ⟨S.np, S.nc, S.at'.elim (fun h => .inl (f _ _ S.np S.nc h)) (fun h => .inr (f _ _ S.np S.nc h))⟩
theorem SeqSt.lt {p c a : Addr} {H : Hp} {xs : List V} {K : PySem.W.Frag} (S : SeqSt p c H a xs) : SqL K H a xs ∨ SqT K H a xs := S.at'.elim (fun h => .inl (SqL.of h)) (fun h => .inr (SqT.of h))
def spPick : Sp := fun vs H Q _ => ∃ (p c a : Addr) (xs : List V), vs = [.ref p, .ref a] ∧ Pool p c H ∧ SeqSt p c H a xs ∧ xs ≠ [] ∧ xs.length ≤ 1000000 ∧
  ∀ (v : V) (i : Nat) (H' : Hp), xs[i]? = some v → Pool p c H' → Fr p c H H' → Q v H'
def spWord : Sp := fun vs H Q _ => ∃ (p c a : Addr) (ws : List Str), vs = [.ref p, .ref a] ∧ Pool p c H ∧ SeqSt p c H a (ws.map V.str) ∧
  ∀ (z : Str) (H' : Hp), IsW z → (ws.length < 26 → z ∉ ws) → Pool p c H' → Fr p c H H' → Q (.str z) H'
def spWords : Sp := fun vs H Q _ => ∃ (p c : Addr) (lo hi : Nat), vs = [.ref p, .int (lo : Int), .int (hi : Int)] ∧ Pool p c H ∧ lo ≤ hi ∧ hi ≤ 20 ∧
  ∀ (q : Addr) (ws : List Str) (H' : Hp), H q = none → H' q = some (.lst (ws.map V.str)) → lo ≤ ws.length → ws.length ≤ hi → ws.Nodup → (∀ z ∈ ws, IsW z) → Pool p c H' → Fr p c H H' → Q (.ref q) H'
theorem log_small {l : Int} (h0 : 0 < l) (h : l ≤ 2 ^ 64) : l.natAbs.log2 < 9000 := by
  have h1 : l.natAbs < 2 ^ 65 := by omega
  have h2 : l.natAbs ≠ 0 := by omega
  have := (Nat.log2_lt h2).mpr h1
  omega
abbrev S_law_pick : Stmt := topS 27
abbrev N_law_pick : List Str := ["_law_pool", "_law_row"]
abbrev P_law_pick : List Str := ["_law_pool", "_law_row"]
theorem sc_law_pick : FnScope N_law_pick P_law_pick (defScope S_law_pick) := ⟨rfl, rfl, rfl, by decide +kernel, rfl, by decide +kernel, by decide +kernel⟩
abbrev S_law_word : Stmt := topS 28
abbrev N_law_word : List Str := ["_law_pool", "_law_taken", "_law_letters", "_law_size", "_law_word_here", "_law_k", "_law_letter"]
abbrev P_law_word : List Str := ["_law_pool", "_law_taken"]
theorem sc_law_word : FnScope N_law_word P_law_word (defScope S_law_word) := ⟨rfl, rfl, rfl, by decide +kernel, rfl, by decide +kernel, by decide +kernel⟩
abbrev S_law_words : Stmt := topS 29
abbrev N_law_words : List Str := ["_law_pool", "_law_least", "_law_most", "_law_words_here", "_law_k"]
abbrev P_law_words : List Str := ["_law_pool", "_law_least", "_law_most"]
theorem sc_law_words : FnScope N_law_words P_law_words (defScope S_law_words) := ⟨rfl, rfl, rfl, by decide +kernel, rfl, by decide +kernel, by decide +kernel⟩
section
variable {P : Program} {w : World} {K : PySem.W.Frag} {mg : Str → Option Value} {base : Heap}
set_option maxHeartbeats 4000000 in
theorem ok_pick {f fD : Addr} {fd fdD : FuncData} (F : Fun K "_law_pick" "_law_pick" S_law_pick f fd) (B : Bl mg) (d_law_draw : Df K mg "_law_draw" S_law_draw fD fdD P_law_draw) (G_law_draw : FnOk P w K mg base CX0 1 fD fdD P_law_draw spDraw) : FnOk P w K mg base CX0 2 f fd P_law_pick spPick := by
  refine F.ok sc_law_pick (fun vs H Q E h => ?_) (fun cdv A outer s H vs Q E hr h => ?_)
  · obtain ⟨p, c, a, xs, rfl, _⟩ := h
    rfl
  · obtain ⟨p, c, a, xs, rfl, PL, S, hne, hl, k⟩ := h
    have hr_law_draw : Room 1 _ := hr.mono (Nat.le_refl 1)
    refine ⟨_, (pss_one (ps_ret (pe_ix ix_seq (pv 1) (pe_call G_law_draw hr_law_draw rfl d_law_draw.g d_law_draw.F.kp d_law_draw.b .nil pass0 (pa_cons (pv 0) (pa_cons (pe_callB call_len (by rfl) B.m_len PySem.boot_len (pa_cons (pv 1) pa_nil)) pa_nil))) (fun _ _ => rfl)))), ?_⟩
    have hpos : 0 < xs.length := List.length_pos_iff.mpr hne
    refine ⟨_, rfl, _, rfl, _, rfl, .ref a, xs.length, rfl, S.at'.elim (fun h => .inl ⟨_, SqL.of h, rfl⟩) (fun h => .inr ⟨_, SqT.of h, rfl⟩), ?_⟩
    refine ⟨p, c, _, rfl, PL, by omega, log_small (by omega) (by omega), fun r H' h0 h1 P' f' => ?_⟩
    have S' := S.fr f'
    have hr' : r.toNat < xs.length := by omega
    have hat : atI xs r = some xs[r.toNat] := atI_of (j := r.toNat) (by omega) (List.getElem?_eq_getElem hr')
    have q := k xs[r.toNat] r.toNat H' (List.getElem?_eq_getElem hr') P' f'
    rcases S'.at' with h | h
    · exact .inl ⟨a, _, _, _, rfl, rfl, SqL.of h, hat, q⟩
    · exact .inr (.inl ⟨a, _, _, _, rfl, rfl, SqT.of h, hat, q⟩)
set_option maxHeartbeats 4000000 in
theorem ok_word {f fD : Addr} {fd fdD : FuncData} (F : Fun K "_law_word" "_law_word" S_law_word f fd) (B : Bl mg) (d_law_draw : Df K mg "_law_draw" S_law_draw fD fdD P_law_draw) (G_law_draw : FnOk P w K mg base CX0 1 fD fdD P_law_draw spDraw) : FnOk P w K mg base CX0 2 f fd P_law_word spWord := by
  refine F.ok sc_law_word (fun vs H Q E h => ?_) (fun cdv A outer s H vs Q E hr h => ?_)
  · obtain ⟨p, c, a, xs, rfl, _⟩ := h
    rfl
  · obtain ⟨p, c, a, ws, rfl, PL, S, k⟩ := h
    have hr_law_draw : Room 1 _ := hr.mono (Nat.le_refl 1)
    refine ⟨_, (pss_cons (ps_set (i := 2) sc_law_word.nd rfl (by first | exact Or.inl rfl | exact Or.inr rfl) pe_str)
 (pss_cons (ps_set (i := 3) sc_law_word.nd rfl (by first | exact Or.inl rfl | exact Or.inr rfl) (pe_op op_add pe_int (pe_call G_law_draw hr_law_draw rfl d_law_draw.g d_law_draw.F.kp d_law_draw.b .nil pass0 (pa_cons (pv 0) (pa_cons pe_int pa_nil)))))
 (pss_cons (ps_set (i := 4) sc_law_word.nd rfl (by first | exact Or.inl rfl | exact Or.inr rfl) (pe_join pe_str (pe_lc (own := [("_law_k", 5)]) (g := gName 5) (tt := tYes) rfl sc_law_word.nd (pi_range1 (by rfl) B.m_range (pa_cons (pv 3) pa_nil)) (blkOk_by (own := [("_law_k", 5)]) (N := N_law_word) (sc := defScope S_law_word) (by decide +kernel)) (fun _ _ _ _ _ => (pg_name (i := 5) sc_law_word.nd rfl (by first | exact Or.inl rfl | exact Or.inr rfl))) (fun _ _ _ _ _ => pts_nil) (fun _ _ _ _ _ => (pe_ix ix_str (pv 2) (pe_call G_law_draw hr_law_draw rfl d_law_draw.g d_law_draw.F.kp d_law_draw.b .nil pass0 (pa_cons (pv 0) (pa_cons pe_int pa_nil))) (fun _ _ => rfl))))))
 (pss_cons (ps_if (pt_cmpR op_notIn_seq (pv 4) (pv 1) (by rfl)) (pss_one (ps_ret (pv 4))) pss_nil)
 (pss_cons (ps_for PassesOwn.never rfl (pi_str (pv 2)) (pg_name (i := 6) sc_law_word.nd rfl (by first | exact Or.inl rfl | exact Or.inr rfl)) (pss_one (ps_if (pt_cmpR op_notIn_seq (pe_op op_mulS (pv 6) pe_int) (pv 1) (by rfl)) (pss_one (ps_ret (pe_op op_mulS (pv 6) pe_int))) pss_nil)))
 (pss_one (ps_ret (pv 4)))))))), ?_⟩
    -- letters; size
    refine ⟨_, rfl, p, c, 8, rfl, PL, by decide, by decide, fun r1 H1 r10 r11 P1 f1 => ?_⟩
    refine ⟨_, _, rfl, rfl, ?_⟩
    -- the text
    refine ⟨⟨_, rfl⟩, _, rfl, _, rfl, by omega, by omega, fun D hD => ?_⟩
    obtain ⟨dp, dc⟩ := P1.np hD
    have P1' : Pool p c (upd H1 D (.lst [])) := P1.frN hD
    have f1' : Fr p c H (upd H1 D (.lst [])) := fun b o h1 h2 h => by
      have e := f1 b o h1 h2 h
      rw [upd_ne (ne_of_none e hD)]; exact e
    refine lc_range (lo := 0) (n := (1 + r1).toNat) (fun i H2 => Pool p c H2 ∧ Fr p c H H2 ∧ ∃ cs : List Nat, cs.length = i ∧ (∀ x ∈ cs, 97 ≤ x ∧ x ≤ 122) ∧ H2 D = some (.lst ((cs.map fun x => (⟨#[x]⟩ : Str)).map V.str)))
      ⟨P1', f1', [], rfl, fun x hx => (nomatch hx), upd_same⟩ ?_ ?_
    · rintro i H2 hi ⟨P2, f2, cs, hcs, hr2, hD2⟩
      refine ⟨rfl, yes_of ?_⟩
      refine ⟨_, rfl, _, rfl, p, c, 26, rfl, P2, by decide, by decide, fun r3 H3 r30 r31 P3 f3 => ?_⟩
      have hlt : r3.toNat < 26 := by omega
      have hat := abc_at ⟨r3.toNat, hlt⟩
      simp only at hat
      refine ⟨_, _, 97 + r3.toNat, rfl, rfl, by decide, atI_of (j := r3.toNat) (by omega) hat, ?_⟩
      have hD3 := f3 _ _ dp dc hD2
      refine ⟨_, hD3, by rw [List.length_map, List.length_map, hcs]; exact Nat.lt_of_lt_of_le (show i < 100 by omega) (by decide), ?_⟩
      have hnD : ∀ {o : HO}, Pool p c (upd H3 D o) := fun {o} => by
        obtain ⟨xs, a2, m2, g1, g2, g3⟩ := P3.ex
        exact ⟨P3.ne, xs, a2, m2, by rw [upd_ne dp.symm]; exact g1, by rw [upd_ne dc.symm]; exact g2, g3⟩
      refine ⟨hnD, fun b o h1 h2 h => ?_, cs ++ [97 + r3.toNat], by rw [List.length_append, hcs]; rfl, fun x hx => ?_, ?_⟩
      · have e1 := f1 b o h1 h2 h
        have hbD : b ≠ D := ne_of_none e1 hD
        rw [upd_ne hbD]
        exact f3 _ _ h1 h2 (f2 _ _ h1 h2 h)
      · rcases List.mem_append.mp hx with hx | hx
        · exact hr2 x hx
        · have := List.mem_singleton.mp hx
          omega
      · rw [upd_same, List.map_append, List.map_append]
        rfl
    · rintro H2 ⟨P2, f2, cs, hcs, hr2, hD2⟩
      have hsz : (((cs.map fun x => (⟨#[x]⟩ : Str))).map (·.length)).sum = cs.length := by
        clear hcs hr2 hD2
        induction cs with
        | nil => rfl
        | cons x cs ih =>
          rw [List.map_cons, List.map_cons, List.sum_cons, ih, List.length_cons]
          show 1 + _ = _
          omega
      refine ⟨_, D, cs.map fun x => (⟨#[x]⟩ : Str), rfl, rfl, .inl (SqL.of hD2), ?_, ?_⟩
      · rw [hsz, hcs]
        show (1 + r1).toNat + _ * 0 ≤ _
        omega
      have hz : (Txt.join Str.empty (cs.map fun x => (⟨#[x]⟩ : Str))).cps.toList = cs := join_cps cs
      have hw : IsW (Txt.join Str.empty (cs.map fun x => (⟨#[x]⟩ : Str))) := by
        have hl : (Txt.join Str.empty (cs.map fun x => (⟨#[x]⟩ : Str))).length = cs.length := by
          show Array.size _ = _
          rw [← Array.length_toList, hz]
        refine ⟨by rw [hl, hcs]; omega, by rw [hl, hcs]; omega, fun x hx => ?_⟩
        rw [hz] at hx
        exact hr2 x hx
      have S2 := S.fr f2
      -- if it is not taken
      refine ⟨_, rfl, _, rfl, a, _, rfl, S2.lt, rfl, flat_strs ws, _, rfl, ?_⟩
      refine ite_dec (fun hb => ?_) (fun hb => ?_)
      rotate_left
      · have hin := not_inF hb
        -- for letter in letters
        refine ⟨_, rfl, _, rfl, for_str (x := Str.ofString "abcdefghijklmnopqrstuvwxyz") (fun i σ H3 => H3 = H2 ∧ (∀ j, j < i → rep8 (97 + j) ∈ ws) ∧ σ.length = 7 ∧ ∃ z1 z2 z3, σ[0]? = some (some (.ref p)) ∧ σ[1]? = some (some (.ref a)) ∧ σ = [some (.ref p), some (.ref a), z1, z2, some (.str (Txt.join Str.empty (cs.map fun x => (⟨#[x]⟩ : Str)))), none, z3]) ⟨rfl, fun j hj => (nomatch hj), rfl, _, _, _, rfl, rfl, rfl⟩ ?_ ?_⟩
        · rintro i c' σ H3 hc' ⟨rfl, hj, _, z1, z2, z3, _, _, rfl⟩
          obtain ⟨hi, rfl⟩ := abc_at' hc'
          refine ⟨_, rfl, _, _, rfl, rfl, mul8_ok _, _, rfl, a, _, rfl, S2.lt, rfl, flat_strs ws, _, rfl, ?_⟩
          refine ite_dec (fun hb2 => ?_) (fun hb2 => ?_)
          rotate_left
          · have hin2 : rep8 (97 + i) ∈ ws := not_inF hb2
            refine ⟨rfl, fun j hj2 => ?_, rfl, _, _, _, rfl, rfl, rfl⟩
            rcases Nat.lt_or_ge j i with h | h
            · exact hj j h
            · have : j = i := by omega
              subst this; exact hin2
          · have hin2 : rep8 (97 + i) ∉ ws := not_inT hb2
            exact ⟨_, rfl, _, _, rfl, rfl, mul8_ok _, k _ _ (rep8_w (c := 97 + i) (by omega)) (fun _ => hin2) P2 f2⟩
        · rintro σ H3 ⟨rfl, hj, _, z1, z2, z3, _, _, rfl⟩
          refine ⟨_, rfl, k _ _ hw (fun hlt => ?_) P2 f2⟩
          have := reps_full (ws := ws) fun j hj' => hj j (Nat.lt_of_lt_of_le hj' (by decide +kernel))
          omega
      · have hin := not_inT hb
        exact ⟨_, rfl, k _ _ hw (fun _ => hin) P2 f2⟩
set_option maxHeartbeats 4000000 in
theorem ok_words {f fD fW : Addr} {fd fdD fdW : FuncData} (F : Fun K "_law_words" "_law_words" S_law_words f fd) (B : Bl mg) (d_law_draw : Df K mg "_law_draw" S_law_draw fD fdD P_law_draw) (G_law_draw : FnOk P w K mg base CX0 1 fD fdD P_law_draw spDraw)
    (d_law_word : Df K mg "_law_word" S_law_word fW fdW P_law_word) (G_law_word : FnOk P w K mg base CX0 2 fW fdW P_law_word spWord) : FnOk P w K mg base CX0 3 f fd P_law_words spWords := by
  refine F.ok sc_law_words (fun vs H Q E h => ?_) (fun cdv A outer s H vs Q E hr h => ?_)
  · obtain ⟨p, c, lo, hi, rfl, _⟩ := h
    rfl
  · obtain ⟨p, c, lo, hi, rfl, PL, hlh, hhi, k⟩ := h
    have hr_law_draw : Room 1 _ := hr.mono (by decide)
    have hr_law_word : Room 2 _ := hr.mono (by decide)
    refine ⟨_, (pss_cons (ps_set (i := 3) sc_law_words.nd rfl (by first | exact Or.inl rfl | exact Or.inr rfl) (pe_lst pa_nil))
 (pss_cons (ps_for PassesOwn.never rfl (pi_range1 (by rfl) B.m_range (pa_cons (pe_op op_add (pv 1) (pe_call G_law_draw hr_law_draw rfl d_law_draw.g d_law_draw.F.kp d_law_draw.b .nil pass0 (pa_cons (pv 0) (pa_cons (pe_op op_add (pe_op op_sub (pv 2) (pv 1)) pe_int) pa_nil)))) pa_nil)) (pg_name (i := 4) sc_law_words.nd rfl (by first | exact Or.inl rfl | exact Or.inr rfl)) (pss_one (ps_expr (pe_bm PySem.F.plainAttrs_list PySem.F.slot_list_append PySem.F.type_list_append mt_append (pv 3) (pa_cons (pe_call G_law_word hr_law_word rfl d_law_word.g d_law_word.F.kp d_law_word.b .nil pass0 (pa_cons (pv 0) (pa_cons (pv 3) pa_nil))) pa_nil)))))
 (pss_one (ps_ret (pv 3))))), ?_⟩
    refine ⟨Nat.zero_le _, fun q hq => ?_⟩
    obtain ⟨qp, qc⟩ := PL.np hq
    have P0 : Pool p c (upd H q (.lst [])) := PL.frN hq
    have f0 : Fr p c H (upd H q (.lst [])) := (Fr.refl p c H).updN hq
    refine ⟨_, rfl, _, rfl, _, rfl, _, rfl, _, _, rfl, rfl, _, _, rfl, rfl, p, c, _, rfl, P0, by omega, log_small (by omega) (by omega), fun r H1 r0 r1 P1 f1 => ?_⟩
    have hq1 : H1 q = some (.lst []) := f1 _ _ qp qc upd_same
    refine ⟨_, _, rfl, rfl, _, rfl, by omega, by omega, ?_⟩
    refine for_range (lo := 0) (n := ((lo : Int) + r).toNat) (fun i σ H2 => ∃ (ws : List Str) (z : Option V), σ = [some (.ref p), some (.int (lo : Int)), some (.int (hi : Int)), some (.ref q), z] ∧ H2 q = some (.lst (ws.map V.str)) ∧ ws.length = i ∧ ws.Nodup ∧ (∀ z ∈ ws, IsW z) ∧ Pool p c H2 ∧ Fr p c H H2)
      ⟨[], _, rfl, hq1, rfl, List.nodup_nil, fun z hz => (nomatch hz), P1, f0.trans f1⟩ ?_ ?_
    · rintro i σ H2 hi' ⟨ws, z, rfl, h2, hl, nd, hw, P2, f2⟩
      refine ⟨_, rfl, .inl ⟨rfl, _, SqL.of h2⟩, _, rfl, _, rfl, p, c, q, ws, rfl, P2, ⟨qp, qc, .inl h2⟩, fun z2 H3 w2 fresh P3 f3 => ?_⟩
      have h3 := f3 _ _ qp qc h2
      refine ⟨q, _, _, rfl, rfl, h3, by rw [List.length_map]; exact small1000 (by omega), ?_⟩
      refine ⟨ws ++ [z2], _, rfl, by rw [upd_same, List.map_append]; rfl, by rw [List.length_append, hl]; rfl, ?_, fun y hy => ?_, ?_, ?_⟩
      · refine List.nodup_append.mpr ⟨nd, by simp, fun x hx y hy => ?_⟩
        have := List.mem_singleton.mp hy
        subst this
        exact fun e => fresh (by omega) (by rw [← e]; exact hx)
      · rcases List.mem_append.mp hy with hy | hy
        · exact hw y hy
        · rw [List.mem_singleton.mp hy]; exact w2
      · obtain ⟨xs, a2, m2, g1, g2, g3⟩ := P3.ex
        exact ⟨P3.ne, xs, a2, m2, by rw [upd_ne qp.symm]; exact g1, by rw [upd_ne qc.symm]; exact g2, g3⟩
      · exact (f2.trans f3).updN hq
    · rintro σ H2 ⟨ws, z, rfl, h2, hl, nd, hw, P2, f2⟩
      exact ⟨_, rfl, k q ws H2 hq h2 (by omega) (by omega) nd hw P2 f2⟩
end
end TW
set_option Elab.async false
set_option linter.all false
set_option maxRecDepth 100000
/-! how many unlike texts: len(set(texts)) -/
namespace TW
open PySem PySem.Spec PyProof.Rows
def cntR : List Str → Nat
  | [] => 0
  | x :: r => if x ∈ r then cntR r else cntR r + 1
def cnt (l : List Str) : Nat := cntR l.reverse
theorem cnt_snoc (l : List Str) (x : Str) : cnt (l ++ [x]) = if x ∈ l then cnt l else cnt l + 1 := by
  unfold cnt
  rw [List.reverse_append, List.reverse_singleton, List.singleton_append]
  show (if x ∈ l.reverse then _ else _) = _
  by_cases h : x ∈ l
  · rw [if_pos h, if_pos (List.mem_reverse.mpr h)]
  · rw [if_neg h, if_neg (fun z => h (List.mem_reverse.mp z))]
theorem cntR_le : ∀ l : List Str, cntR l ≤ l.length
  | [] => Nat.le_refl _
  | x :: r => by
    have := cntR_le r
    show (if x ∈ r then cntR r else cntR r + 1) ≤ r.length + 1
    split <;> omega
theorem cntR_eq : ∀ l : List Str, cntR l = l.length ↔ l.Nodup
  | [] => by simp [cntR]
  | x :: r => by
    have h1 := cntR_le r
    have h2 := cntR_eq r
    show (if x ∈ r then cntR r else cntR r + 1) = r.length + 1 ↔ _
    rw [List.nodup_cons]
    by_cases h : x ∈ r
    · rw [if_pos h]
      exact ⟨fun e => by omega, fun e => absurd h e.1⟩
    · rw [if_neg h]
      exact ⟨fun e => ⟨h, h2.mp (by omega)⟩, fun e => by rw [h2.mpr e.2]⟩
theorem cnt_le (l : List Str) : cnt l ≤ l.length := by
  have := cntR_le l.reverse
  rw [List.length_reverse] at this
  exact this
theorem cnt_eq (l : List Str) : cnt l = l.length ↔ l.Nodup := by
  have := cntR_eq l.reverse
  rw [List.length_reverse] at this
  refine this.trans ?_
  unfold List.Nodup
  rw [List.pairwise_reverse]
  exact ⟨fun z => z.imp fun h e => h e.symm, fun z => z.imp fun h e => h e.symm⟩
/-- the texts so far, as a test -/
def hasS (l : List Str) (k : Str) : Bool := decide (k ∈ l)
theorem hasS_snoc (l : List Str) (x k : Str) : (hasS l k || decide (k = x)) = hasS (l ++ [x]) k := by
  unfold hasS
  by_cases h : k ∈ l <;> by_cases e : k = x <;> simp [h, e]
theorem taken_more {xs : List Str} {i : Nat} (h : i < xs.length) : xs.take (i + 1) = xs.take i ++ [xs.getD i Str.empty] := by
  rw [List.take_add_one, List.getElem?_eq_getElem h]
  simp [List.getD, List.getElem?_eq_getElem h]
abbrev HasN (prog : Program) (w : World) (h : Heap) (S : Addr) (l : List Str) : Prop := h.SetOf (PySem.strKind prog w) S (hasS l) (cnt l)
theorem HasN.move {prog : Program} {w : World} {h h' : Heap} {S : Addr} {l : List Str} (x : HasN prog w h S l) (k : ∀ o, h.get? S = some o → h'.get? S = some o) : HasN prog w h' S l :=
  let ⟨o, es, ep, t, ho, r⟩ := x; ⟨o, es, ep, t, k o ho, r⟩
section
variable {prog : Program} {w : World} {A : Around} {R : Result → Shared → Prop} {it : Addr} {fp wr : List Addr} {G : Array GenState → Array GenState → Prop} {n : Nat} {P : Nat → Value → Prop} {St : Nat → Shared → Prop}
theorem strs_into (W : WalksS prog w A.in1 it fp wr G n P St) {S : Addr} (out : S ∉ fp) {xs : List Str} (len : xs.length = n) (small : n + 1 < scanBound) (vals : ∀ i v, P i v → ∃ t, v = .str (xs.getD i Str.empty) t) :
    ∀ (left i : Nat) (s : Shared), i + left = n → St i s → HasN prog w s.heap S (xs.take i) →
      (∀ s', Moved (S :: wr) G s s' → HasN prog w s'.heap S xs → R (.ok (.ret .none)) s') → codeAny (model prog w) A (.builtin "set.update.loop" ⟨[.ref S, .ref it], []⟩) R s := by
  have nwr : S ∉ wr := fun z => out (W.sub _ z)
  have sub : ∀ b ∈ wr, b ∈ S :: wr := fun b z => .tail _ z
  intro left
  induction left with
  | zero =>
    intro i s e st has fin
    refine codeAny_builtin PyProof.Rows.F.entry_set_update_loop ?_
    rw [Around.under_plainId PyProof.Rows.F.plain_set_update_loop]
    obtain rfl : i = n := e
    refine wpAny_bind (W.done s _ _ st fun s' mv => ?_)
    rw [List.take_of_length_le (Nat.le_of_eq len)] at has
    exact wpAny_pure (fin s' (mv.mono sub) (has.move fun o ho => mv.heap S o nwr ho))
  | succ left ih =>
    intro i s e st has fin
    have lt : i < n := by omega
    refine codeAny_builtin PyProof.Rows.F.entry_set_update_loop ?_
    rw [Around.under_plainId PyProof.Rows.F.plain_set_update_loop]
    refine wpAny_bind (W.item i s _ _ lt st fun v s' pv st' mv => ?_)
    obtain ⟨t, rfl⟩ := vals i v pv
    have has' : HasN prog w s'.heap S (xs.take i) := has.move fun o ho => mv.heap S o nwr ho
    refine wpAny_bind (wpAny_holding ?_)
    unfold setAdd
    refine wpAny_holding (wpAny_bind ((PySem.strKind prog w).pyHash (k := xs.getD i Str.empty) (strKind_is ..) ?_))
    have room : cnt (xs.take i) + 1 < scanBound := by
      have := cnt_le (xs.take i)
      rw [List.length_take] at this
      omega
    refine wpAny_setAddHashed_of (s := { s' with toks := s'.toks + 1 }) (strKind_is ..) rfl has' room fun h2 but has2 => ?_
    have more : HasN prog w h2 S (xs.take (i + 1)) := by
      rw [taken_more (by omega)]
      refine SetOf_congr has2 (fun k => hasS_snoc ..) ?_
      rw [cnt_snoc]
      unfold hasS
      by_cases z : xs.getD i Str.empty ∈ xs.take i <;> simp [z]
    refine wpAny_pure ⟨plainId_quiet PyProof.Rows.F.plain_set_update_loop _, ih (i + 1) _ (by omega) (W.frame _ s' _ _ st' (Nat.le_succ _) fun b hb o z => ?_) more fun s2 mv2 has3 => ?_⟩
    · exact (but.2 b fun y => out (y ▸ hb)).trans z
    · exact fin s2 (Moved.trans W.gtrans ((mv.mono sub).then_heap (Nat.le_succ _) fun b o hb z => (but.2 b fun y => hb (y ▸ List.mem_cons_self)).trans z) mv2) has3
end

section
variable {prog : Program} {w : World} {A : Around} {E : Value → Shared → Prop} {s : Shared}
abbrev newSet (led : Bool) : Obj := { cls := .type "set", dict := none, data := .set #[] 0 (.fresh 0 0 led) }
/-- behind set(v) -/
def SetEnd (prog : Program) (w : World) (s : Shared) (xs : List Str) (Q : Value → Shared → Prop) : Prop :=
  ∀ (h' : Heap) (tk : Nat), HasN prog w h' s.heap.objs.size xs → (∀ b o, s.heap.get? b = some o → h'.get? b = some o) → Q (.ref s.heap.objs.size) { s with heap := h', toks := tk }
/-- set.__init__ over v, its turns told by W -/
def InitsBy (prog : Program) (w : World) (A : Around) (s : Shared) (v : Value) (xs : List Str) : Prop :=
  ∀ (led : Bool) (R : Fin → Shared → Prop) (E' : Value → Shared → Prop), (∀ h' tk, HasN prog w h' s.heap.objs.size xs → (∀ b o, s.heap.get? b = some o → h'.get? b = some o) → R (.done (.ret .none)) { s with heap := h', toks := tk }) →
    wpAny (model prog w) A (Builtin.«set.__init__» ⟨[.ref s.heap.objs.size, v], []⟩) R E' { s with heap := s.heap.push (newSet led) }
set_option maxHeartbeats 3200000 in
theorem set_of {v : Value} {xs : List Str} {Q : Value → Shared → Prop} (hi : InitsBy prog w A.in1.in1 s v xs) (q : SetEnd prog w s xs Q) : wpAny (model prog w) A (call (.type "set") [v]) Q E s := by
  have CS := PySem.F.called_set
  obtain ⟨c, tl, hmro⟩ := CS.mro
  have f1 := CS.made
  have f2 := CS.sub
  have f3 := CS.notType
  have f4 := CS.canCreate
  have f5 := PySem.F.typeCall_set_1 v
  refine wpAny_call (codeAny_of_tree ?_)
  show wpAny _ _ (callAny (.type "set") _) _ _ _
  refine wpAny_pure ⟨Code.quiet_builtin _ (by decide +kernel), codeAny_builtin PySem.F.entry_type_call ?_⟩
  rw [Around.under_plain (weight_type_call_type "set" [v] []) rfl]
  repeat (any_goals (first | assumption | wp_step))
  refine codeAny_mono (code_set_new_1 v (E := E) (Q₁ := fun x y => ∃ led, x = .ref s.heap.objs.size ∧ y = { s with heap := s.heap.push (newSet led) }) fun led => ⟨led, rfl, rfl⟩) fun r y hr => ?_
  match r, hr with
  | .error _, hr => exact hr
  | .ok (.ret x), hr =>
    obtain ⟨led, rfl, rfl⟩ := hr
    have at0 : (s.heap.push (newSet led)).get? s.heap.objs.size = some (newSet led) := Heap.get?_push_size _ rfl
    have ty : Shared.TypeIs { s with heap := s.heap.push (newSet led) } (.ref s.heap.objs.size) "set" := ⟨_, at0, rfl⟩
    have g1 := CS.init.lookup
    have g2 := CS.init.bind (.ref s.heap.objs.size)
    repeat (any_goals (first | assumption | wp_step))
    refine codeAny_mono (codeAny_call_builtin (R := wants (fun r y => r = .none ∧ ∃ h' tk, y = { s with heap := h', toks := tk } ∧ HasN prog w h' s.heap.objs.size xs ∧ ∀ b o, s.heap.get? b = some o → h'.get? b = some o) E) CS.init.plain PySem.F.entry_set_init (check_set_init_1 ty (hi led _ _ fun h' tk a b => ⟨rfl, h', tk, rfl, a, b⟩))) fun r2 y2 hr2 => ?_
    match r2, hr2 with
    | .error _, hr2 => exact hr2
    | .ok (.ret x), hr2 =>
      obtain ⟨rfl, h', tk, rfl, a, b⟩ := hr2
      repeat (any_goals (first | assumption | wp_step))
      exact q h' tk a b
    | .ok .next, hr2 => exact hr2.elim
    | .ok .brk, hr2 => exact hr2.elim
    | .ok .cont, hr2 => exact hr2.elim
  | .ok .next, hr => exact hr.elim
  | .ok .brk, hr => exact hr.elim
  | .ok .cont, hr => exact hr.elim

theorem not_two {a b c : Addr} (h : a ≠ b) (k : a ≠ c) : a ∉ [b, c] := fun z => by
  rcases List.mem_cons.mp z with z | z
  · exact h z
  · exact k (List.mem_singleton.mp z)
/-- the walk of a list or tuple at l into the new set -/
theorem inits_end {l : Addr} {items : Array Value} {xs : List Str} {led : Bool} {R : Fin → Shared → Prop} {A' : Around} {P : Nat → Value → Prop} {St : Nat → Shared → Prop} {I0 : Obj} (hl : l < s.heap.objs.size)
    (W : WalksS prog w A'.in1 (s.heap.objs.size + 1) [s.heap.objs.size + 1, l] [s.heap.objs.size + 1] (fun g g' => g' = g) items.size P St)
    (vals : ∀ i v, P i v → ∃ t, v = .str (xs.getD i Str.empty) t) (len : xs.length = items.size) (small : items.size + 1 < scanBound)
    (st : St 0 { s with heap := (s.heap.push (newSet led)).push I0 })
    (q : ∀ h' tk, HasN prog w h' s.heap.objs.size xs → (∀ b o, s.heap.get? b = some o → h'.get? b = some o) → R (.done (.ret .none)) { s with heap := h', toks := tk }) :
    codeAny (model prog w) A' (.builtin "set.update.loop" ⟨[.ref s.heap.objs.size, .ref (s.heap.objs.size + 1)], []⟩) (fun r s' => r = .ok (.ret .none) ∧ R (.done (.ret .none)) s') { s with heap := (s.heap.push (newSet led)).push I0 } := by
  have at0 : (s.heap.push (newSet led)).get? s.heap.objs.size = some (newSet led) := Heap.get?_push_size _ rfl
  refine strs_into W (S := s.heap.objs.size) (xs := xs) (not_two (Nat.ne_of_lt (Nat.lt_succ_self _)) (Nat.ne_of_gt hl)) len small vals items.size 0 _ (by omega) st ?_ fun s' mv has => ?_
  · exact SetOf_congr ((setObjOf_fresh (knd := PySem.strKind prog w) led).setOf (Heap.get?_push_of_some _ at0) (by unfold scanBound; omega)) (fun _ => rfl) rfl
  · obtain ⟨h', g', d', tk', os'⟩ := s'
    obtain rfl : g' = s.gens := mv.gens
    obtain rfl : d' = s.drawn := mv.drawn
    obtain rfl : os' = s.os := mv.os
    refine ⟨rfl, q h' tk' has fun b o e => ?_⟩
    have hb := Heap.lt_size e
    exact mv.heap b o (not_two (Nat.ne_of_lt hb) (Nat.ne_of_lt (Nat.lt_succ_of_lt hb))) (Heap.get?_push_of_some _ (Heap.get?_push_of_some _ e))

theorem vals_at {items : Array Value} {xs : List Str} (hi : StrsAre items.toList xs) : ∀ (i : Nat) (v : Value), items[i]? = some v → ∃ t, v = Value.str (xs.getD i Str.empty) t := fun i v hv => SS.strs_at hi i v (by rw [Array.getElem?_toList]; exact hv)
set_option maxHeartbeats 3200000 in
theorem inits_list {l : Addr} {items : Array Value} {xs : List Str} (hh : A.handled = none) (hl : s.heap.IsList l items) (hi : StrsAre items.toList xs) (small : items.size + 1 < scanBound) : InitsBy prog w A s (.ref l) xs := by
  intro led R E' q
  obtain ⟨⟨oc, od, oda, osl⟩, ho, hc, nl, hd⟩ := id hl
  dsimp only at hc hd
  subst hc hd
  have lt := Heap.lt_size ho
  have ho' : (s.heap.push (newSet led)).get? l = some { cls := .type "list", dict := od, data := .seq items nl, slots := osl } := Heap.get?_push_of_some _ ho
  have f1 := PySem.F.sub_list_set
  have f2 := PySem.F.sub_list_frozenset
  have f3 : (Value.type "list" == Value.type "dict") = false := by decide
  have il : (s.heap.push (newSet led)).IsList l items := ⟨_, ho', rfl, nl, rfl⟩
  have len : xs.length = items.size := by rw [← StrsAre.len_eq hi, Array.length_toList]
  unfold Builtin.«set.__init__» noKeywords Builtin.Frozenset.updateFrom
  generalize hP : pyIter = PI
  wp_walk
  subst hP
  refine wpAny_pyIter_list il ?_
  refine wpAny_bind (wpAny_runValue ?_)
  rw [Heap.size_push]
  have h3 : A.in1.handled = none := by simp [hh]
  refine codeAny_mono (inits_end (led := led) lt ((Walks.list h3 (s.heap.objs.size + 1) l (Nat.ne_of_lt (Nat.lt_succ_of_lt lt)) items).toS) (vals_at hi) len small ⟨⟨_, Heap.get?_push_at (Heap.size_push ..).symm rfl, rfl, rfl⟩, il.push _⟩ q) fun r s' h => ?_
  obtain ⟨rfl, h⟩ := h
  show wpAny _ _ _ _ _ _
  refine wpAny_pure ?_
  show wpAny _ _ (ret Value.none) _ _ _
  exact wpAny_pure h
set_option maxHeartbeats 3200000 in
theorem inits_tuple {l : Addr} {items : Array Value} {xs : List Str} (hh : A.handled = none) (hl : s.heap.IsTuple l items) (hi : StrsAre items.toList xs) (small : items.size + 1 < scanBound) : InitsBy prog w A s (.ref l) xs := by
  intro led R E' q
  obtain ⟨⟨oc, od, oda, osl⟩, ho, hc, nl, hd⟩ := id hl
  dsimp only at hc hd
  subst hc hd
  have lt := Heap.lt_size ho
  have ho' : (s.heap.push (newSet led)).get? l = some { cls := .type "tuple", dict := od, data := .seq items nl, slots := osl } := Heap.get?_push_of_some _ ho
  have f1 := PySem.F.sub_tuple_set
  have f2 := PySem.F.sub_tuple_frozenset
  have f3 : (Value.type "tuple" == Value.type "dict") = false := by decide
  have il : (s.heap.push (newSet led)).IsTuple l items := ⟨_, ho', rfl, nl, rfl⟩
  have len : xs.length = items.size := by rw [← StrsAre.len_eq hi, Array.length_toList]
  unfold Builtin.«set.__init__» noKeywords Builtin.Frozenset.updateFrom
  generalize hP : pyIter = PI
  wp_walk
  subst hP
  refine wpAny_pyIter_tuple il ?_
  refine wpAny_bind (wpAny_runValue ?_)
  rw [Heap.size_push]
  have h3 : A.in1.handled = none := by simp [hh]
  refine codeAny_mono (inits_end (led := led) lt ((Walks.tuple h3 (s.heap.objs.size + 1) l (Nat.ne_of_lt (Nat.lt_succ_of_lt lt)) items).toS) (vals_at hi) len small ⟨⟨_, Heap.get?_push_at (Heap.size_push ..).symm rfl, rfl, rfl⟩, il.push _⟩ q) fun r s' h => ?_
  obtain ⟨rfl, h⟩ := h
  show wpAny _ _ _ _ _ _
  refine wpAny_pure ?_
  show wpAny _ _ (ret Value.none) _ _ _
  exact wpAny_pure h

end
end TW
namespace TW
open PySem PySem.Spec PyProof.Rows L2
/-- len(set(words)), the words in a list or tuple -/
def tLenSetN (K : PySem.W.Frag) (ta : TE) : TE := fun σ H Q => ta σ H fun x H1 => ∃ l, ∃ xs : List Str, x = .ref l ∧ (SqL K H1 l (xs.map V.str) ∨ SqT K H1 l (xs.map V.str)) ∧ xs.length ≤ 1000 ∧ Q (.int (cnt xs : Nat)) H1
theorem pe_lenSetN {X : Cx} {a : Expr} {ta : TE} {p p2 q pos : Pos} (hc : X.calm = true) (hg : Gl X "len") (hm : X.mg "len" = none) (hg2 : Gl X "set") (hm2 : X.mg "set" = none) (ha : PE X a ta)
    (na : starEach [a] X.env = (false, eval a X.env) :: starEach [] X.env := by rfl) : PE X (.Call (.Name "len" p) [.Call (.Name "set" p2) [a] [] q] [] pos) (tLenSetN X.K ta) := by
  refine ⟨fun pins s σ H Q I h => ?_⟩
  refine Call_ (ld_blt I hg hm boot_len (PyProof.Rows.callWith_builtin1 (PyProof.Rows.args_cons (Call_ (ld_blt I hg2 hm2 boot_set ?_)) rfl) rfl rfl))
  refine PyProof.Rows.callWith_type1 (PyProof.Rows.args_cons (thn (ha.run pins s σ H _ I h) fun v s1 h1 => PyProof.Rows.args_nil ?_) na) na rfl
  obtain ⟨x, H1, I1, r1, l, xs, rfl, hq, small, q1⟩ := h1
  cases r1
  have go : InitsBy X.prog X.w X.A.in1.in1 s1 (.ref l) xs := by
    have hh : X.A.in1.in1.handled = none := by simp [I1.ok.hd hc]
    rcases hq with hq | hq
    · obtain ⟨its, r, pl, hz⟩ := I1.list hq
      have e : its.toArray.size = xs.length := by rw [List.size_toArray, ← r.length, List.length_map]
      exact inits_list hh pl.isList (by simpa using strsAre_of r) (by rw [e]; unfold scanBound; omega)
    · obtain ⟨its, r, pl, hz⟩ := I1.tuple hq
      have e : its.toArray.size = xs.length := by rw [List.size_toArray, ← r.length, List.length_map]
      exact inits_tuple hh pl (by simpa using strsAre_of r) (by rw [e]; unfold scanBound; omega)
  refine set_of go fun h' tk has keep => PyProof.Rows.args_nil ?_
  have le := cnt_le xs
  obtain ⟨o, es, ep, t, ho, hex, hd, _, _, _, hf, hn⟩ := has
  have I2 : Inv X pins σ H1 { s1 with heap := h', toks := tk } := I1.kept keep
  exact call_len_set ho hex hd hf (by rw [hn]; omega) ⟨.int (cnt xs : Nat), H1, I2.tok _, ⟨_, by rw [hn]⟩, q1⟩
end TW
set_option Elab.async false
set_option linter.all false
set_option maxRecDepth 100000
namespace TW
open PySem PySem.Spec PyProof.Rows L2 TL
/-! ### kinds of values -/
def kd7 : List String := ["NoneType", "bool", "int", "str", "list", "tuple", "dict"]
theorem tyx_same {K : PySem.W.Frag} {H H' : Hp} {x : V} {t : Value} (s : Same H H') (h : TyX K H x t) : TyX K H' x t := by
  cases h with
  | base b =>
    refine .base ?_
    cases b with
    | non => exact .non
    | bl x => exact .bl x
    | int i => exact .int i
    | str z => exact .str z
    | flt z => exact .flt z
    | lst e => exact .lst (s _ _ e)
    | frz e => exact .frz (s _ _ e)
    | tup e => exact .tup (s _ _ e)
    | dK e => exact .dK (s _ _ e)
    | dT e => exact .dT (s _ _ e)
    | ins e cl ha hn ht hm => exact .ins (s _ _ e) cl ha hn ht hm
  | byt b => exact .byt b
  | set e => exact .set (s _ _ e)
  | kList e c => exact .kList e c
  | kTuple e c => exact .kTuple e c
  | kDict e c => exact .kDict e c
  | fTuple e => exact .fTuple (s _ _ e)
  | fDict e => exact .fDict (s _ _ e)
/-- of one of the seven kinds; texts are short -/
structure Kd (K : PySem.W.Frag) (H : Hp) (x : V) (T : String) : Prop where
  m : T ∈ kd7
  t : TyX K H x (.type T)
  z : ∀ z, x = .str z → z.length ≤ 1000000
theorem Kd.same {K : PySem.W.Frag} {H H' : Hp} {x : V} {T : String} (s : Same H H') (h : Kd K H x T) : Kd K H' x T := ⟨h.m, tyx_same s h.t, h.z⟩
theorem ty_inv {K : PySem.W.Frag} {H : Hp} {x : V} {t : Value} (h : TyX K H x t) : (t = .type "int" ↔ ∃ i, x = .int i) ∧ (t = .type "str" ↔ ∃ i, x = .str i) ∧ (t = .type "NoneType" ↔ x = .non) := by
  have no : ∀ {a b : String} {p : Prop}, a ≠ b → Value.type a = Value.type b → p := fun ne e => by injection e with e; exact absurd e ne
  have no2 : ∀ {a : Addr} {b : String} {p : Prop}, Value.ref a = Value.type b → p := fun e => nomatch e
  cases h with
  | base b =>
    cases b with
    | non => exact ⟨⟨no (by decide), fun ⟨_, e⟩ => nomatch e⟩, ⟨no (by decide), fun ⟨_, e⟩ => nomatch e⟩, ⟨fun _ => rfl, fun _ => rfl⟩⟩
    | bl x => exact ⟨⟨no (by decide), fun ⟨_, e⟩ => nomatch e⟩, ⟨no (by decide), fun ⟨_, e⟩ => nomatch e⟩, ⟨no (by decide), fun e => nomatch e⟩⟩
    | int i => exact ⟨⟨fun _ => ⟨_, rfl⟩, fun _ => rfl⟩, ⟨no (by decide), fun ⟨_, e⟩ => nomatch e⟩, ⟨no (by decide), fun e => nomatch e⟩⟩
    | str z => exact ⟨⟨no (by decide), fun ⟨_, e⟩ => nomatch e⟩, ⟨fun _ => ⟨_, rfl⟩, fun _ => rfl⟩, ⟨no (by decide), fun e => nomatch e⟩⟩
    | flt z => exact ⟨⟨no (by decide), fun ⟨_, e⟩ => nomatch e⟩, ⟨no (by decide), fun ⟨_, e⟩ => nomatch e⟩, ⟨no (by decide), fun e => nomatch e⟩⟩
    | lst e => exact ⟨⟨no (by decide), fun ⟨_, e⟩ => nomatch e⟩, ⟨no (by decide), fun ⟨_, e⟩ => nomatch e⟩, ⟨no (by decide), fun e => nomatch e⟩⟩
    | frz e => exact ⟨⟨no (by decide), fun ⟨_, e⟩ => nomatch e⟩, ⟨no (by decide), fun ⟨_, e⟩ => nomatch e⟩, ⟨no (by decide), fun e => nomatch e⟩⟩
    | tup e => exact ⟨⟨no (by decide), fun ⟨_, e⟩ => nomatch e⟩, ⟨no (by decide), fun ⟨_, e⟩ => nomatch e⟩, ⟨no (by decide), fun e => nomatch e⟩⟩
    | dK e => exact ⟨⟨no (by decide), fun ⟨_, e⟩ => nomatch e⟩, ⟨no (by decide), fun ⟨_, e⟩ => nomatch e⟩, ⟨no (by decide), fun e => nomatch e⟩⟩
    | dT e => exact ⟨⟨no (by decide), fun ⟨_, e⟩ => nomatch e⟩, ⟨no (by decide), fun ⟨_, e⟩ => nomatch e⟩, ⟨no (by decide), fun e => nomatch e⟩⟩
    | ins e cl ha hn ht hm => exact ⟨⟨no2, fun ⟨_, e⟩ => nomatch e⟩, ⟨no2, fun ⟨_, e⟩ => nomatch e⟩, ⟨no2, fun e => nomatch e⟩⟩
  | byt b => exact ⟨⟨no (by decide), fun ⟨_, e⟩ => nomatch e⟩, ⟨no (by decide), fun ⟨_, e⟩ => nomatch e⟩, ⟨no (by decide), fun e => nomatch e⟩⟩
  | set e => exact ⟨⟨no (by decide), fun ⟨_, e⟩ => nomatch e⟩, ⟨no (by decide), fun ⟨_, e⟩ => nomatch e⟩, ⟨no (by decide), fun e => nomatch e⟩⟩
  | kList e c => exact ⟨⟨no (by decide), fun ⟨_, e⟩ => nomatch e⟩, ⟨no (by decide), fun ⟨_, e⟩ => nomatch e⟩, ⟨no (by decide), fun e => nomatch e⟩⟩
  | kTuple e c => exact ⟨⟨no (by decide), fun ⟨_, e⟩ => nomatch e⟩, ⟨no (by decide), fun ⟨_, e⟩ => nomatch e⟩, ⟨no (by decide), fun e => nomatch e⟩⟩
  | kDict e c => exact ⟨⟨no (by decide), fun ⟨_, e⟩ => nomatch e⟩, ⟨no (by decide), fun ⟨_, e⟩ => nomatch e⟩, ⟨no (by decide), fun e => nomatch e⟩⟩
  | fTuple e => exact ⟨⟨no (by decide), fun ⟨_, e⟩ => nomatch e⟩, ⟨no (by decide), fun ⟨_, e⟩ => nomatch e⟩, ⟨no (by decide), fun e => nomatch e⟩⟩
  | fDict e => exact ⟨⟨no (by decide), fun ⟨_, e⟩ => nomatch e⟩, ⟨no (by decide), fun ⟨_, e⟩ => nomatch e⟩, ⟨no (by decide), fun e => nomatch e⟩⟩
theorem ty_int {K : PySem.W.Frag} {H : Hp} {x : V} {T : String} (h : TyX K H x (.type T)) : T = "int" ↔ ∃ i, x = .int i :=
  ⟨fun e => (ty_inv h).1.mp (by rw [e]), fun e => by have := (ty_inv h).1.mpr e; injection this⟩
theorem ty_str {K : PySem.W.Frag} {H : Hp} {x : V} {T : String} (h : TyX K H x (.type T)) : T = "str" ↔ ∃ i, x = .str i :=
  ⟨fun e => (ty_inv h).2.1.mp (by rw [e]), fun e => by have := (ty_inv h).2.1.mpr e; injection this⟩
theorem ty_non {K : PySem.W.Frag} {H : Hp} {x : V} {T : String} (h : TyX K H x (.type T)) : T = "NoneType" ↔ x = .non :=
  ⟨fun e => (ty_inv h).2.2.mp (by rw [e]), fun e => by have := (ty_inv h).2.2.mpr e; injection this⟩
theorem all7 {p : String → Bool} (h : kd7.all p = true) {T : String} (m : T ∈ kd7) : p T = true := List.all_eq_true.mp h T m
theorem kit7_int {K : PySem.W.Frag} {T : String} (m : T ∈ kd7) : PySem.W.kitOne K (.type T) (.type "int") = some (T == "int" || T == "bool") :=
  kit_ty (eq_of_beq (all7 (p := fun T => kitB T "int" == some (T == "int" || T == "bool")) (by decide +kernel) m))
theorem kit7_bool {K : PySem.W.Frag} {T : String} (m : T ∈ kd7) : PySem.W.kitOne K (.type T) (.type "bool") = some (T == "bool") :=
  kit_ty (eq_of_beq (all7 (p := fun T => kitB T "bool" == some (T == "bool")) (by decide +kernel) m))
theorem kit7_str {K : PySem.W.Frag} {T : String} (m : T ∈ kd7) : PySem.W.kitOne K (.type T) (.type "str") = some (T == "str") :=
  kit_ty (eq_of_beq (all7 (p := fun T => kitB T "str" == some (T == "str")) (by decide +kernel) m))
theorem kit7_list {K : PySem.W.Frag} {T : String} (m : T ∈ kd7) : PySem.W.kitOne K (.type T) (.type "list") = some (T == "list") :=
  kit_ty (eq_of_beq (all7 (p := fun T => kitB T "list" == some (T == "list")) (by decide +kernel) m))
theorem kit7_tuple {K : PySem.W.Frag} {T : String} (m : T ∈ kd7) : PySem.W.kitOne K (.type T) (.type "tuple") = some (T == "tuple") :=
  kit_ty (eq_of_beq (all7 (p := fun T => kitB T "tuple" == some (T == "tuple")) (by decide +kernel) m))
theorem kit7_dict {K : PySem.W.Frag} {T : String} (m : T ∈ kd7) : PySem.W.kitOne K (.type T) (.type "dict") = some (T == "dict") :=
  kit_ty (eq_of_beq (all7 (p := fun T => kitB T "dict" == some (T == "dict")) (by decide +kernel) m))
theorem kit7_seq {K : PySem.W.Frag} {T : String} (m : T ∈ kd7) : PySem.W.kitAny K (.type T) [.type "list", .type "tuple"] = some (T == "list" || T == "tuple") := by
  unfold PySem.W.kitAny
  rw [kit7_list m]
  by_cases h : T = "list"
  · subst h; rfl
  · have h' : (T == "list") = false := by simpa using h
    rw [h']
    show PySem.W.kitAny K (.type T) [.type "tuple"] = _
    unfold PySem.W.kitAny
    rw [kit7_tuple m]
    by_cases h2 : T = "tuple"
    · subst h2; rfl
    · have h2' : (T == "tuple") = false := by simpa using h2
      rw [h2']
      rfl
/-! ### the mirrors -/
def btw (x : V) (lo hi : Int) : Bool := match x with
  | .int i => decide (lo ≤ i) && decide (i ≤ hi)
  | _ => false
instance (z : Str) : Decidable (IsW z) := by unfold IsW; infer_instance
def isWb (x : V) : Bool := match x with
  | .str z => decide (IsW z)
  | _ => false
/-! ### a comprehension over a text -/
theorem lc_str {x : Str} {g : TG} {tt : TT} {te : TE} {vs : List Nat} {σ : St'} {H1 : Hp} {D : Addr} {Qd : Hp → Prop} (Pv : Nat → Hp → Prop) (h0 : Pv 0 (upd H1 D (.lst [])))
    (hs : ∀ i c H, x.cps[i]? = some c → Pv i H → g (.str ⟨#[c]⟩) (wipe σ vs) H fun σ2 H2 => wipe σ2 vs = wipe σ vs ∧ tt σ2 H2 fun b H3 =>
      if b = true then te σ2 H3 fun y H4 => ∃ acc, H4 D = some (.lst acc) ∧ acc.length < sizeLine ∧ Pv (i + 1) (upd H4 D (.lst (acc ++ [y]))) else Pv (i + 1) H3) (hd : ∀ H, Pv x.cps.size H → Qd H) :
    ∃ W : Nat → Nat → Hp → Prop, (∃ m, W 0 m (upd H1 D (.lst []))) ∧ ∀ i m H, W i m H →
      ((Its x).stop i H ∧ Qd H) ∨ ((Its x).go i H ∧ ∃ Nx : Hp → Prop, (∀ H', Nx H' → ∃ m', m' < m ∧ W (i + 1) m' H') ∧ ∀ y H', (Its x).yld i H y H' → g y (wipe σ vs) H' fun σ2 H2 => wipe σ2 vs = wipe σ vs ∧ tt σ2 H2 fun b H3 =>
        if b = true then te σ2 H3 fun y H4 => ∃ acc, H4 D = some (.lst acc) ∧ acc.length < sizeLine ∧ Nx (upd H4 D (.lst (acc ++ [y]))) else Nx H3) := by
  refine ⟨fun i m H => m = x.cps.size - i ∧ i ≤ x.cps.size ∧ Pv i H, ⟨x.cps.size, by simp, Nat.zero_le _, h0⟩, ?_⟩
  rintro i m H ⟨rfl, hi, p⟩
  by_cases hlt : i < x.cps.size
  · refine .inr ⟨hlt, Pv (i + 1), fun H' p' => ⟨x.cps.size - (i + 1), by omega, rfl, hlt, p'⟩, fun y H' hy => ?_⟩
    obtain ⟨e, c, hc, rfl⟩ := hy
    subst e
    exact hs i c _ hc p
  · have e : i = x.cps.size := by omega
    subst e
    exact .inl ⟨Nat.le_refl _, hd H p⟩
theorem one_lt (a b : Nat) : ([a] : List Nat) < [b] ↔ a < b := by
  rw [List.cons_lt_cons_iff]
  constructor
  · rintro (h | ⟨_, h⟩)
    · exact h
    · exact absurd h (by simp)
  · exact .inl
theorem sign_a : (Str.ofString "a").cps.toList = [97] := by decide +kernel
theorem sign_z : (Str.ofString "z").cps.toList = [122] := by decide +kernel
theorem le_a {c : Nat} {b : Bool} (g : (!decide (([c] : List Nat) < (Str.ofString "a").cps.toList)) = b) : b = decide (97 ≤ c) := by
  rw [sign_a] at g
  rw [← g]
  by_cases h : c < 97
  · rw [decide_eq_true ((one_lt c 97).mpr h), decide_eq_false (by omega)]; rfl
  · rw [decide_eq_false (fun z => h ((one_lt c 97).mp z)), decide_eq_true (by omega)]; rfl
theorem le_z (c : Nat) : (!decide ((Str.ofString "z").cps.toList < ([c] : List Nat))) = decide (c ≤ 122) := by
  rw [sign_z]
  by_cases h : 122 < c
  · rw [decide_eq_true ((one_lt 122 c).mpr h), decide_eq_false (by omega)]; rfl
  · rw [decide_eq_false (fun z => h ((one_lt 122 c).mp z)), decide_eq_true (by omega)]; rfl
theorem take_next' {α : Type} {ws : List α} {i : Nat} {z : α} (hz : ws[i]? = some z) : ws.take (i + 1) = ws.take i ++ [z] := by
  rw [List.take_add_one, hz]; rfl
/-! ### a word, by its kinds of signs -/
set_option maxRecDepth 100000 in
theorem sign_kinds : ∀ c : Fin 128, ((Unicode.isAlpha c.val && !(Unicode.isUpper c.val || Unicode.isTitle c.val)) = (decide (97 ≤ c.val ∧ c.val ≤ 122))) ∧ ((decide (97 ≤ c.val ∧ c.val ≤ 122)) = true → Unicode.isLower c.val = true) := by decide +kernel
theorem word_kinds {z : Str} (h : 0 < z.length) : (Txt.isascii z && (Txt.isalpha z && Txt.islower z)) = decide (∀ c ∈ z.cps.toList, 97 ≤ c ∧ c ≤ 122) := by
  have hl : z.cps.toList.length = z.length := Array.length_toList ..
  unfold Txt.isascii Txt.isalpha Txt.islower
  rw [decide_eq_true (show z.length > 0 from h), Bool.true_and]
  rw [← Array.all_toList, ← Array.all_toList, ← Array.any_toList, ← Array.any_toList]
  by_cases w : ∀ c ∈ z.cps.toList, 97 ≤ c ∧ c ≤ 122
  · rw [decide_eq_true w]
    have k : ∀ c ∈ z.cps.toList, c < 128 ∧ Unicode.isAlpha c = true ∧ (Unicode.isUpper c || Unicode.isTitle c) = false ∧ Unicode.isLower c = true := fun c hc => by
      have b := w c hc
      have s := sign_kinds ⟨c, by omega⟩
      have s1 := s.1
      rw [decide_eq_true b] at s1
      have s2 := s.2 (decide_eq_true b)
      have s3 := Bool.and_eq_true_iff.mp s1
      exact ⟨by omega, s3.1, by simpa using s3.2, s2⟩
    have a1 : (z.cps.toList.all fun x => decide (x < 128)) = true := List.all_eq_true.mpr fun c hc => decide_eq_true (k c hc).1
    have a2 : z.cps.toList.all Unicode.isAlpha = true := List.all_eq_true.mpr fun c hc => (k c hc).2.1
    have a3 : (z.cps.toList.any fun c => Unicode.isUpper c || Unicode.isTitle c) = false := List.any_eq_false.mpr fun c hc => by rw [(k c hc).2.2.1]; simp
    have a4 : z.cps.toList.any Unicode.isLower = true := by
      obtain ⟨c, r, e⟩ : ∃ c r, z.cps.toList = c :: r := by
        cases e : z.cps.toList with
        | nil => rw [e] at hl; simp at hl; omega
        | cons c r => exact ⟨c, r, rfl⟩
      exact List.any_eq_true.mpr ⟨c, by rw [e]; exact List.mem_cons_self .., (k c (by rw [e]; exact List.mem_cons_self ..)).2.2.2⟩
    rw [a1, a2, a3, a4]; rfl
  · rw [decide_eq_false w]
    refine Bool.eq_false_iff.mpr fun e => w fun c hc => ?_
    have e1 := Bool.and_eq_true_iff.mp e
    have e2 := Bool.and_eq_true_iff.mp e1.2
    have e3 := Bool.and_eq_true_iff.mp e2.2
    have l := of_decide_eq_true (List.all_eq_true.mp e1.1 c hc)
    have s := (sign_kinds ⟨c, l⟩).1
    have al := List.all_eq_true.mp e2.1 c hc
    have up : (Unicode.isUpper c || Unicode.isTitle c) = false := by
      have := List.any_eq_false.mp (by simpa using e3.2 : (z.cps.toList.any fun c => Unicode.isUpper c || Unicode.isTitle c) = false) c hc
      simpa using this
    show 97 ≤ c ∧ c ≤ 122
    rw [show Unicode.isAlpha (⟨c, l⟩ : Fin 128).val = true from al, show (Unicode.isUpper (⟨c, l⟩ : Fin 128).val || Unicode.isTitle (⟨c, l⟩ : Fin 128).val) = false from up] at s
    exact of_decide_eq_true s.symm
/-! ### the promises -/
def spIsInt (K : PySem.W.Frag) : Sp := fun vs H Q _ => ∃ x T, vs = [x] ∧ Kd K H x T ∧ Q (.bl (T == "int")) H
def spBtw (K : PySem.W.Frag) : Sp := fun vs H Q _ => ∃ x T lo hi, vs = [x, .int lo, .int hi] ∧ Kd K H x T ∧ Q (.bl (btw x lo hi)) H
def spIsW (K : PySem.W.Frag) : Sp := fun vs H Q _ => ∃ x T, vs = [x] ∧ Kd K H x T ∧ ∀ H', Same H H' → Q (.bl (isWb x)) H'
abbrev S_is_integer : Stmt := topS 8
abbrev N_is_integer : List Str := ["value"]
abbrev P_is_integer : List Str := ["value"]
theorem sc_is_integer : FnScope N_is_integer P_is_integer (defScope S_is_integer) := ⟨rfl, rfl, rfl, by decide +kernel, rfl, by decide +kernel, by decide +kernel⟩
abbrev S_is_between : Stmt := topS 9
abbrev N_is_between : List Str := ["value", "least", "most"]
abbrev P_is_between : List Str := ["value", "least", "most"]
theorem sc_is_between : FnScope N_is_between P_is_between (defScope S_is_between) := ⟨rfl, rfl, rfl, by decide +kernel, rfl, by decide +kernel, by decide +kernel⟩
abbrev S_is_word : Stmt := topS 10
abbrev N_is_word : List Str := ["value"]
abbrev P_is_word : List Str := ["value"]
theorem sc_is_word : FnScope N_is_word P_is_word (defScope S_is_word) := ⟨rfl, rfl, rfl, by decide +kernel, rfl, by decide +kernel, by decide +kernel⟩
section
variable {P : Program} {w : World} {K : PySem.W.Frag} {mg : Str → Option Value} {base : Heap}
set_option maxHeartbeats 4000000 in
theorem ok_is_integer {f : Addr} {fd : FuncData} (F : Fun K "is_integer" "is_integer" S_is_integer f fd) (B : Bl mg) : FnOk P w K mg base CX0 1 f fd P_is_integer (spIsInt K) := by
  refine F.ok sc_is_integer (fun vs H Q E h => ?_) (fun cdv A outer s H vs Q E hr h => ?_)
  · obtain ⟨x, T, rfl, _⟩ := h
    rfl
  · obtain ⟨x, T, rfl, hk, k⟩ := h
    refine ⟨_, (pss_one (ps_ret (pe_and (pe_callB call_isi (by rfl) B.m_isinstance (by decide +kernel) (pa_cons (pv 0) (pa_cons (pe_bltn (v := .ty "int") (by rfl) B.m_int (by decide +kernel) rfl) pa_nil))) (pe_one (pe_not (pe_callB call_isi (by rfl) B.m_isinstance (by decide +kernel) (pa_cons (pv 0) (pa_cons (pe_bltn (v := .ty "bool") (by rfl) B.m_bool (by decide +kernel) rfl) pa_nil)))))))), ?_⟩
    refine ⟨_, rfl, _, _, _, _, _, rfl, .ty "int", hk.t, kit7_int hk.m, _, rfl, ?_⟩
    refine ite_dec (fun hb => ?_) (fun hb => ?_)
    · refine ⟨_, rfl, _, _, _, _, _, rfl, .ty "bool", hk.t, kit7_bool hk.m, _, rfl, ?_⟩
      have e : (!(T == "bool")) = (T == "int") := by
        rcases Bool.or_eq_true_iff.mp hb with h | h
        · have := eq_of_beq h; subst this; rfl
        · have := eq_of_beq h; subst this; rfl
      rw [e]; exact k
    · have e : (T == "int") = false := (Bool.or_eq_false_iff.mp hb).1
      rw [← e]; exact k
set_option maxHeartbeats 4000000 in
theorem ok_is_between {f fI : Addr} {fd fdI : FuncData} (F : Fun K "is_between" "is_between" S_is_between f fd) (B : Bl mg) (d_is_integer : Df K mg "is_integer" S_is_integer fI fdI P_is_integer) (G_is_integer : FnOk P w K mg base CX0 1 fI fdI P_is_integer (spIsInt K)) : FnOk P w K mg base CX0 2 f fd P_is_between (spBtw K) := by
  refine F.ok sc_is_between (fun vs H Q E h => ?_) (fun cdv A outer s H vs Q E hr h => ?_)
  · obtain ⟨x, T, lo, hi, rfl, _⟩ := h
    rfl
  · obtain ⟨x, T, lo, hi, rfl, hk, k⟩ := h
    have hr_is_integer : Room 1 _ := hr.mono (Nat.le_refl 1)
    refine ⟨_, (pss_one (ps_ret (pe_and (pe_call G_is_integer hr_is_integer rfl d_is_integer.g d_is_integer.F.kp d_is_integer.b .nil pass0 (pa_cons (pv 0) pa_nil)) (pe_one (pe_chain op_le op_le (pv 1) (pv 0) (pv 2)))))), ?_⟩
    refine ⟨_, rfl, x, T, rfl, hk, _, rfl, ?_⟩
    refine ite_dec (fun hb => ?_) (fun hb => ?_)
    · obtain ⟨i, rfl⟩ := (ty_int hk.t).mp (eq_of_beq hb)
      refine ⟨_, rfl, _, rfl, _, _, rfl, rfl, _, rfl, ?_⟩
      refine ite_dec (fun h1 => ?_) (fun h1 => ?_)
      · refine ⟨_, rfl, _, _, rfl, rfl, ?_⟩
        have h1' : lo ≤ i := of_decide_eq_true h1
        have e : btw (.int i) lo hi = decide (i ≤ hi) := by simp [btw, h1']
        rw [e] at k; exact k
      · have h1' : ¬ lo ≤ i := of_decide_eq_false h1
        have e : btw (.int i) lo hi = false := by simp [btw, h1']
        rw [e] at k; exact k
    · have e : btw x lo hi = false := by
        cases x <;> try rfl
        have := (ty_int hk.t).mpr ⟨_, rfl⟩
        subst this
        cases hb
      rw [← e]; exact k
set_option maxHeartbeats 4000000 in
theorem ok_is_word {f : Addr} {fd : FuncData} {t : Tok} (F : Fun K "is_word" "is_word" S_is_word f fd) (B : Bl mg) (m_MOST_LETTERS : mg "MOST_LETTERS" = some (.int 8 t)) : FnOk P w K mg base CX0 1 f fd P_is_word (spIsW K) := by
  refine F.ok sc_is_word (fun vs H Q E h => ?_) (fun cdv A outer s H vs Q E hr h => ?_)
  · obtain ⟨x, T, rfl, _⟩ := h
    rfl
  · obtain ⟨x, T, rfl, hk, k⟩ := h
    refine ⟨_, (pss_cons (ps_if (PW.pt (pw_or (pt_not (pt_val (pe_callB call_isi (by rfl) B.m_isinstance (by decide +kernel) (pa_cons (pv 0) (pa_cons (pe_bltn (v := .ty "str") (by rfl) B.m_str (by decide +kernel) rfl) pa_nil))))) (pw_or1 (pt_not (pt_chain op_le op_le pe_int (pe_callB call_len_str (by rfl) B.m_len PySem.boot_len (pa_cons (pv 0) pa_nil)) (pe_glob (v := .int _) rfl m_MOST_LETTERS ⟨_, rfl⟩)))))) (pss_one (ps_ret pe_bl)) pss_nil)
 (pss_one (ps_ret (pe_and (pe_m0 PySem.F.slot_str_isascii PySem.F.type_str_isascii mt_isascii (pv 0)) (pe_and (pe_m0 PySem.F.slot_str_isalpha PySem.F.type_str_isalpha mt_isalpha (pv 0)) (pe_one (pe_m0 PySem.F.slot_str_islower PySem.F.type_str_islower mt_islower (pv 0)))))))), ?_⟩
    refine ⟨_, rfl, _, _, _, _, _, rfl, .ty "str", hk.t, kit7_str hk.m, _, rfl, ?_⟩
    refine ite_dec (fun hb => ?_) (fun hb => ?_)
    · have hb' : (T == "str") = false := by simpa using hb
      have e : isWb x = false := by
        cases x <;> try rfl
        have := (ty_str hk.t).mpr ⟨_, rfl⟩
        subst this
        cases hb'
      refine iteT ?_
      rw [← e]; exact k H (Same.refl H)
    · have hb' : (T == "str") = true := by simpa using hb
      obtain ⟨z, rfl⟩ := (ty_str hk.t).mp (eq_of_beq hb')
      have hz := hk.z z rfl
      have hzl : z.length ≤ sizeLine := Nat.le_trans hz (by decide)
      refine ⟨_, rfl, z, rfl, hzl, _, _, rfl, rfl, _, rfl, ?_⟩
      refine ite_dec (fun h1 => ?_) (fun h1 => ?_)
      · have h1' : (1 : Int) ≤ (z.length : Int) := of_decide_eq_true h1
        refine ⟨_, _, rfl, rfl, _, rfl, ?_⟩
        refine ite_dec (fun h2 => ?_) (fun h2 => ?_)
        · have h2' : ¬ (z.length : Int) ≤ 8 := by simpa using h2
          have e : isWb (.str z) = false := decide_eq_false (fun w => by have := w.2.1; omega)
          rw [← e]; exact k H (Same.refl H)
        · have h2' : (z.length : Int) ≤ 8 := by simpa using h2
          have hl0 : 0 < z.length := by have : (1 : Int) ≤ (z.length : Int) := h1'; omega
          have all : isWb (.str z) = (Txt.isascii z && (Txt.isalpha z && Txt.islower z)) := by
            rw [word_kinds hl0]
            show decide (IsW z) = _
            by_cases wz : ∀ c ∈ z.cps.toList, 97 ≤ c ∧ c ≤ 122
            · rw [decide_eq_true (show IsW z from ⟨by omega, by omega, wz⟩), decide_eq_true wz]
            · rw [decide_eq_false (fun z' : IsW z => wz z'.2.2), decide_eq_false wz]
          refine ⟨_, rfl, ⟨_, rfl⟩, z, rfl, rfl, trivial, _, rfl, ?_⟩
          refine ite_dec (fun g1 => ?_) (fun g1 => ?_)
          · refine ⟨_, rfl, ⟨_, rfl⟩, z, rfl, rfl, trivial, _, rfl, ?_⟩
            refine ite_dec (fun g2 => ?_) (fun g2 => ?_)
            · refine ⟨_, rfl, ⟨_, rfl⟩, z, rfl, rfl, trivial, ?_⟩
              have e : isWb (.str z) = Txt.islower z := by rw [all, g1, g2]; rfl
              rw [← e]; exact k H (Same.refl H)
            · have e : isWb (.str z) = false := by rw [all, g1, g2]; rfl
              rw [← e]; exact k H (Same.refl H)
          · have e : isWb (.str z) = false := by rw [all, g1]; rfl
            rw [← e]; exact k H (Same.refl H)
      · have h1' : ¬ (1 : Int) ≤ (z.length : Int) := of_decide_eq_false h1
        have e : isWb (.str z) = false := decide_eq_false (fun w => by have := w.1; omega)
        refine ⟨_, rfl, ?_⟩
        refine iteT ?_
        rw [← e]; exact k H (Same.refl H)
end
end TW
set_option Elab.async false
set_option linter.all false
set_option maxRecDepth 100000
namespace TW
open PySem PySem.Spec PyProof.Rows L2 TL
/-- what a field or a name holds -/
def hv : Option Nat → V
  | none => .non
  | some i => .int (i : Int)
theorem hv_some {m : Int} (h : 0 ≤ m) : hv (some m.toNat) = .int m := by
  show V.int ((m.toNat : Nat) : Int) = _
  rw [Int.toNat_of_nonneg h]
/-- a dict from words to such -/
def dk (l : List (Str × Option Nat)) : List (Key × V) := l.map fun p => ((Sum.inr p.1 : Key), hv p.2)
theorem dk_len (l : List (Str × Option Nat)) : (dk l).length = l.length := List.length_map ..
theorem dk_valV (k : Str) : ∀ l : List (Str × Option Nat), valV (dk l) (Sum.inr k : Key) = (l.lookup k).map hv
  | [] => rfl
  | (f, v) :: l => by
    have ih := dk_valV k l
    by_cases h : f = k
    · subst h
      rw [show dk ((f, v) :: l) = ((Sum.inr f : Key), hv v) :: dk l from rfl, valV_pos rfl, List.lookup_cons, beq_self_eq_true]
      rfl
    · have h2 : (k == f) = false := by simpa [beq_iff_eq] using fun e : k = f => h e.symm
      rw [show dk ((f, v) :: l) = ((Sum.inr f : Key), hv v) :: dk l from rfl, valV_neg (fun e => h (Sum.inr.inj e)), List.lookup_cons, h2, ih]
theorem lookup_none {k : Str} : ∀ {l : List (Str × Option Nat)}, k ∉ l.map (·.1) → l.lookup k = none
  | [], _ => rfl
  | (f, v) :: l, h => by
    have h2 : (k == f) = false := by simpa [beq_iff_eq] using fun e : k = f => h (e ▸ List.mem_cons_self ..)
    rw [List.lookup_cons, h2]
    exact lookup_none fun z => h (List.mem_cons_of_mem _ z)
theorem dk_put {l : List (Str × Option Nat)} {k : Str} {v : Option Nat} (h : k ∉ l.map (·.1)) : putK (dk l) (Sum.inr k : Key) (hv v) = dk (l ++ [(k, v)]) := by
  rw [putK_new _ (by rw [dk_valV, lookup_none h]; rfl)]
  unfold dk
  rw [List.map_append]
  rfl
theorem dk_map_put {k : Str} {v : Option Nat} : ∀ {l : List (Str × Option Nat)}, k ∉ l.map (·.1) → (dk l).map (fun kv => if kv.1 = (Sum.inr k : Key) then (kv.1, hv v) else kv) = dk l
  | [], _ => rfl
  | (f, x) :: l, h => by
    have hf : f ≠ k := fun e => h (by rw [← e]; exact List.mem_cons_self ..)
    have ih := dk_map_put (v := v) (l := l) (fun z => h (List.mem_cons_of_mem _ z))
    show (if (Sum.inr f : Key) = Sum.inr k then _ else _) :: (dk l).map _ = ((Sum.inr f : Key), hv x) :: dk l
    rw [if_neg (fun e => hf (Sum.inr.inj e)), ih]
theorem dk_again {l : List (Str × Option Nat)} {k : Str} {u v : Option Nat} (h : k ∉ l.map (·.1)) : putK (dk (l ++ [(k, u)])) (Sum.inr k : Key) (hv v) = dk (l ++ [(k, v)]) := by
  unfold putK
  rw [if_pos]
  · show (dk (l ++ [(k, u)])).map _ = _
    unfold dk
    rw [List.map_append, List.map_append, List.map_append]
    have := dk_map_put (v := v) h
    unfold dk at this
    rw [this]
    simp
  · rw [valV_any, dk_valV]
    have : (l ++ [(k, u)]).lookup k = some u := by
      rw [List.lookup_append, lookup_none h]
      simp
    rw [this]
    rfl
/-- values in bounds -/
def okv (n : Nat) : Option Nat → Prop
  | none => True
  | some i => i < n
def okl (n : Nat) (l : List (Str × Option Nat)) : Prop := ∀ p ∈ l, okv n p.2
abbrev Ob := List (Str × Option Nat)
/-- the objects of the law: a list at q of dicts at ds -/
structure ObjsAt (H : Hp) (q : Addr) (ds : List Addr) (fs : List Str) (n : Nat) (os : List Ob) : Prop where
  ls : H q = some (.lst (ds.map V.ref))
  len : ds.length = os.length
  nd : ds.Nodup
  at' : ∀ (i : Nat) (d : Addr) (o : Ob), ds[i]? = some d → os[i]? = some o → H d = some (.dK (dk o))
  ks : ∀ o ∈ os, (o.map (·.1)).Perm fs
  ok : ∀ o ∈ os, okl n o
/-- not the pool's -/
def Off (p c : Addr) (l : List Addr) : Prop := ∀ a ∈ l, a ≠ p ∧ a ≠ c
theorem ObjsAt.fr {p c q : Addr} {H H' : Hp} {ds : List Addr} {fs : List Str} {n : Nat} {os : List Ob} (O : ObjsAt H q ds fs n os) (hq : q ≠ p ∧ q ≠ c) (hd : Off p c ds) (f : Fr p c H H') : ObjsAt H' q ds fs n os :=
  ⟨f _ _ hq.1 hq.2 O.ls, O.len, O.nd, fun i d o h1 h2 => let z := hd d (List.mem_of_getElem? h1); f _ _ z.1 z.2 (O.at' i d o h1 h2), O.ks, O.ok⟩
theorem ObjsAt.same {q : Addr} {H H' : Hp} {ds : List Addr} {fs : List Str} {n : Nat} {os : List Ob} (O : ObjsAt H q ds fs n os) (f : Same H H') : ObjsAt H' q ds fs n os :=
  ⟨f _ _ O.ls, O.len, O.nd, fun i d o h1 h2 => f _ _ (O.at' i d o h1 h2), O.ks, O.ok⟩
def spValue : Sp := fun vs H Q _ => ∃ (p c : Addr) (n : Nat), vs = [.ref p, .int (n : Int)] ∧ Pool p c H ∧ n ≤ 1000 ∧
  ∀ (v : Option Nat) (H' : Hp), okv n v → Pool p c H' → Fr p c H H' → Q (hv v) H'
def spObjects : Sp := fun vs H Q _ => ∃ (p c a : Addr) (fs : List Str) (n : Nat), vs = [.ref p, .ref a, .int (n : Int)] ∧ Pool p c H ∧ (a ≠ p ∧ a ≠ c) ∧ H a = some (.lst (fs.map V.str)) ∧ fs.Nodup ∧ fs.length ≤ 20 ∧ n ≤ 1000 ∧
  ∀ (q : Addr) (ds : List Addr) (os : List Ob) (H' : Hp), H q = none → (∀ d ∈ ds, H d = none ∧ d ≠ q) → os.length = n → ObjsAt H' q ds fs n os → Pool p c H' → Fr p c H H' → Q (.ref q) H'
def spNames : Sp := fun vs H Q _ => ∃ (p c a : Addr) (ws : List Str) (n : Nat), vs = [.ref p, .ref a, .int (n : Int)] ∧ Pool p c H ∧ (a ≠ p ∧ a ≠ c) ∧ H a = some (.lst (ws.map V.str)) ∧ ws.Nodup ∧ ws.length ≤ 20 ∧ n ≤ 1000 ∧
  ∀ (q : Addr) (l : Ob) (H' : Hp), H q = none → H' q = some (.dK (dk l)) → l.map (·.1) = ws → okl n l → Pool p c H' → Fr p c H H' → Q (.ref q) H'
theorem Pool.upd2 {p c q : Addr} {H : Hp} (P : Pool p c H) (h : q ≠ p ∧ q ≠ c) (o : HO) : Pool p c (upd H q o) := by
  obtain ⟨xs, a2, m2, g1, g2, g3⟩ := P.ex
  exact ⟨P.ne, xs, a2, m2, by rw [upd_ne h.1.symm]; exact g1, by rw [upd_ne h.2.symm]; exact g2, g3⟩
theorem get_str {ws : List Str} {i : Nat} {x : V} (hx : (ws.map V.str)[i]? = some x) : ∃ z, ws[i]? = some z ∧ x = V.str z := by
  rw [List.getElem?_map] at hx
  cases e : ws[i]? with
  | none => rw [e] at hx; cases hx
  | some z => rw [e] at hx; exact ⟨z, rfl, (Option.some.inj hx).symm⟩
theorem nodup_fresh {ws : List Str} {i : Nat} {z : Str} (nd : ws.Nodup) (hz : ws[i]? = some z) : z ∉ ws.take i := fun hm => by
  obtain ⟨j, hj, e⟩ := List.mem_take_iff_getElem.mp hm
  have hj' : ws[j]? = some z := by rw [← e]; exact List.getElem?_eq_getElem _
  have hj2 := (List.getElem?_eq_some_iff.mp hj').1
  have := (List.getElem?_inj hj2 nd).mp (hj'.trans hz.symm)
  omega
theorem take_next {α : Type} {ws : List α} {i : Nat} {z : α} (hz : ws[i]? = some z) : ws.take (i + 1) = ws.take i ++ [z] := by
  rw [List.take_add_one, hz]; rfl
abbrev S_law_value : Stmt := topS 30
abbrev N_law_value : List Str := ["_law_pool", "_law_count", "_law_value_here"]
abbrev P_law_value : List Str := ["_law_pool", "_law_count"]
theorem sc_law_value : FnScope N_law_value P_law_value (defScope S_law_value) := ⟨rfl, rfl, rfl, by decide +kernel, rfl, by decide +kernel, by decide +kernel⟩
abbrev S_law_objects : Stmt := topS 31
abbrev N_law_objects : List Str := ["_law_pool", "_law_fields", "_law_count", "_law_objects_here", "_law_k", "_law_item", "_law_field"]
abbrev P_law_objects : List Str := ["_law_pool", "_law_fields", "_law_count"]
theorem sc_law_objects : FnScope N_law_objects P_law_objects (defScope S_law_objects) := ⟨rfl, rfl, rfl, by decide +kernel, rfl, by decide +kernel, by decide +kernel⟩
abbrev S_law_names : Stmt := topS 32
abbrev N_law_names : List Str := ["_law_pool", "_law_names_here", "_law_count", "_law_holders", "_law_name", "_law_number"]
abbrev P_law_names : List Str := ["_law_pool", "_law_names_here", "_law_count"]
theorem sc_law_names : FnScope N_law_names P_law_names (defScope S_law_names) := ⟨rfl, rfl, rfl, by decide +kernel, rfl, by decide +kernel, by decide +kernel⟩
section
variable {P : Program} {w : World} {K : PySem.W.Frag} {mg : Str → Option Value} {base : Heap}
set_option maxHeartbeats 4000000 in
theorem ok_value {f fD : Addr} {fd fdD : FuncData} (F : Fun K "_law_value" "_law_value" S_law_value f fd) (B : Bl mg) (d_law_draw : Df K mg "_law_draw" S_law_draw fD fdD P_law_draw) (G_law_draw : FnOk P w K mg base CX0 1 fD fdD P_law_draw spDraw) : FnOk P w K mg base CX0 2 f fd P_law_value spValue := by
  refine F.ok sc_law_value (fun vs H Q E h => ?_) (fun cdv A outer s H vs Q E hr h => ?_)
  · obtain ⟨p, c, n, rfl, _⟩ := h
    rfl
  · obtain ⟨p, c, n, rfl, PL, hn, k⟩ := h
    have hr_law_draw : Room 1 _ := hr.mono (Nat.le_refl 1)
    refine ⟨_, (pss_cons (ps_set (i := 2) sc_law_value.nd rfl (by first | exact Or.inl rfl | exact Or.inr rfl) (pe_call G_law_draw hr_law_draw rfl d_law_draw.g d_law_draw.F.kp d_law_draw.b .nil pass0 (pa_cons (pv 0) (pa_cons (pe_op op_add (pe_op op_mul pe_int (pv 1)) pe_int) pa_nil))))
 (pss_cons (ps_if (pt_cmpR op_ge (pv 2) (pe_op op_mul pe_int (pv 1)) (nomark _)) (pss_one (ps_ret pe_non)) pss_nil)
 (pss_one (ps_ret (pe_op op_mod (pe_callTy call_int1 (by rfl) B.m_int (by decide +kernel) (pa_cons (pv 2) pa_nil)) (pv 1)))))), ?_⟩
    refine ⟨_, rfl, _, rfl, _, _, rfl, rfl, .inl ⟨by decide, by decide⟩, _, _, rfl, rfl, p, c, _, rfl, PL, by omega, log_small (by omega) (by omega), fun r H1 r0 r1 P1 f1 => ?_⟩
    refine ⟨_, rfl, _, rfl, _, _, rfl, rfl, .inl ⟨by decide, by decide⟩, _, _, rfl, rfl, _, rfl, ?_⟩
    refine ite_dec (fun h => ?_) (fun h => ?_)
    · exact k none H1 trivial P1 f1
    · have h' : ¬ 4 * (n : Int) ≤ r := of_decide_eq_false h
      have hpos : (0 : Int) < (n : Int) := by omega
      refine ⟨_, rfl, .inl ⟨_, rfl, _, rfl, _, _, rfl, rfl, hpos, ?_⟩⟩
      have a1 := Int.emod_nonneg r (show (n : Int) ≠ 0 by omega)
      have a2 := Int.emod_lt_of_pos r hpos
      have q := k (some (r % (n : Int)).toNat) H1 (by show (r % (n : Int)).toNat < n; omega) P1 f1
      rwa [hv_some a1] at q
set_option maxHeartbeats 4000000 in
theorem ok_names {f fD : Addr} {fd fdD : FuncData} (F : Fun K "_law_names" "_law_names" S_law_names f fd) (B : Bl mg) (d_law_draw : Df K mg "_law_draw" S_law_draw fD fdD P_law_draw) (G_law_draw : FnOk P w K mg base CX0 1 fD fdD P_law_draw spDraw) : FnOk P w K mg base CX0 2 f fd P_law_names spNames := by
  refine F.ok sc_law_names (fun vs H Q E h => ?_) (fun cdv A outer s H vs Q E hr h => ?_)
  · obtain ⟨p, c, a, ws, n, rfl, _⟩ := h
    rfl
  · obtain ⟨p, c, a, ws, n, rfl, PL, S, hS, nd, hws, hn, k⟩ := h
    have hr_law_draw : Room 1 _ := hr.mono (Nat.le_refl 1)
    have hu := hu_of hr
    refine ⟨_, (pss_cons (ps_set (i := 3) sc_law_names.nd rfl (by first | exact Or.inl rfl | exact Or.inr rfl) pe_dnewK)
 (pss_cons (ps_for PassesOwn.never rfl (pi_list (pv 1)) (pg_name (i := 4) sc_law_names.nd rfl (by first | exact Or.inl rfl | exact Or.inr rfl)) (pss_cons (ps_set (i := 5) sc_law_names.nd rfl (by first | exact Or.inl rfl | exact Or.inr rfl) (pe_call G_law_draw hr_law_draw rfl d_law_draw.g d_law_draw.F.kp d_law_draw.b .nil pass0 (pa_cons (pv 0) (pa_cons (pe_op op_add (pe_op op_mul pe_int (pv 2)) pe_int) pa_nil))))
 (pss_cons (ps_dput hu (pv 3) (pv 4) pe_non rfl)
 (pss_one (ps_if (pt_cmpR op_lt (pv 5) (pe_op op_mul pe_int (pv 2)) (nomark _)) (pss_one (ps_dput hu (pv 3) (pv 4) (pe_op op_mod (pe_callTy call_int1 (by rfl) B.m_int (by decide +kernel) (pa_cons (pv 5) pa_nil)) (pv 2)) rfl)) pss_nil)))))
 (pss_one (ps_ret (pv 3))))), ?_⟩
    intro q hq
    obtain ⟨qp, qc⟩ := PL.np hq
    have aq : a ≠ q := ne_of_none hS hq
    refine ⟨_, rfl, a, rfl, ⟨_, SqL.of ((upd_ne aq).trans hS)⟩, for_list (xs := ws.map V.str) (fun i σ H2 => ∃ (l : Ob) (z1 z2 : Option V), σ = [some (.ref p), some (.ref a), some (.int (n : Int)), some (.ref q), z1, z2] ∧ H2 q = some (.dK (dk l)) ∧ l.map (·.1) = ws.take i ∧ okl n l ∧ Pool p c H2 ∧ Fr p c H H2) ?_ ?_ ?_ ?_⟩
    · exact ⟨[], _, _, rfl, upd_same, rfl, fun p hp => (nomatch hp), PL.frN hq, (Fr.refl p c H).updN hq⟩
    · rintro i σ H2 hi ⟨l, z1, z2, rfl, h2, hl, hok, P2, f2⟩
      exact SqL.of (f2 _ _ S.1 S.2 hS)
    · rintro i x σ H2 hx ⟨l, z1, z2, rfl, h2, hl, hok, P2, f2⟩
      obtain ⟨z, hz, rfl⟩ : ∃ z, ws[i]? = some z ∧ x = V.str z := by
        rw [List.getElem?_map] at hx
        cases e : ws[i]? with
        | none => rw [e] at hx; cases hx
        | some z => rw [e] at hx; exact ⟨z, rfl, (Option.some.inj hx).symm⟩
      have fresh : z ∉ l.map (·.1) := by
        rw [hl]
        exact nodup_fresh nd hz
      have take1 : ws.take (i + 1) = ws.take i ++ [z] := by rw [List.take_add_one, hz]; rfl
      refine ⟨_, rfl, _, rfl, _, _, rfl, rfl, .inl ⟨by decide, by decide⟩, _, _, rfl, rfl, p, c, _, rfl, P2, by omega, log_small (by omega) (by omega), fun r H3 r0 r1 P3 f3 => ?_⟩
      have h3 := f3 _ _ qp qc h2
      have hlen : (dk l).length < sizeLine := by
        rw [dk_len, ← List.length_map (f := (·.1)), hl, List.length_take]
        exact small1000 (by omega)
      refine ⟨_, rfl, _, rfl, _, _, rfl, DPut.k (k := (Sum.inr z : Key)) (v := V.non) h3 hlen, ?_⟩
      have e1 : putK (dk l) (Sum.inr z : Key) V.non = dk (l ++ [(z, none)]) := dk_put (v := none) fresh
      have hP4 : ∀ o, Pool p c (upd H3 q o) := fun o => by
        obtain ⟨xs, a2, m2, g1, g2, g3⟩ := P3.ex
        exact ⟨P3.ne, xs, a2, m2, by rw [upd_ne qp.symm]; exact g1, by rw [upd_ne qc.symm]; exact g2, g3⟩
      have hF4 : ∀ o, Fr p c H (upd H3 q o) := fun o => (f2.trans f3).updN hq
      refine ⟨_, rfl, _, rfl, _, _, rfl, rfl, .inl ⟨by decide, by decide⟩, _, _, rfl, rfl, _, rfl, ?_⟩
      refine ite_dec (fun hb => ?_) (fun hb => ?_)
      · have hb' : r < 3 * (n : Int) := of_decide_eq_true hb
        have hpos : (0 : Int) < (n : Int) := by omega
        have a1 := Int.emod_nonneg r (show (n : Int) ≠ 0 by omega)
        have a2 := Int.emod_lt_of_pos r hpos
        refine ⟨_, rfl, .inl ⟨_, rfl, _, rfl, _, _, rfl, rfl, hpos, _, rfl, _, rfl, _, _, rfl, DPut.k (k := (Sum.inr z : Key)) upd_same (by rw [e1, dk_len, List.length_append, ← List.length_map (f := (·.1)), hl, List.length_take]; exact small1000 (by simp only [List.length_singleton]; omega)), ?_⟩⟩
        refine ⟨l ++ [(z, some (r % (n : Int)).toNat)], _, _, rfl, ?_, ?_, ?_, ?_, ?_⟩
        · have e2 := dk_again (u := none) (v := some (r % (n : Int)).toNat) fresh
          rw [hv_some a1] at e2
          rw [upd_same, e1]
          exact congrArg (fun x => some (HO.dK x)) e2
        · rw [List.map_append, hl, take1]; rfl
        · intro y hy
          rcases List.mem_append.mp hy with hy | hy
          · exact hok y hy
          · rw [List.mem_singleton.mp hy]
            show (r % (n : Int)).toNat < n
            omega
        · rw [upd_upd]; exact hP4 _
        · rw [upd_upd]; exact hF4 _
      · refine ⟨l ++ [(z, none)], _, _, rfl, by rw [upd_same, e1], by rw [List.map_append, hl, take1]; rfl, ?_, hP4 _, hF4 _⟩
        intro y hy
        rcases List.mem_append.mp hy with hy | hy
        · exact hok y hy
        · rw [List.mem_singleton.mp hy]; trivial
    · rintro σ H2 ⟨l, z1, z2, rfl, h2, hl, hok, P2, f2⟩
      rw [List.length_map, List.take_length] at hl
      exact ⟨_, rfl, k q l H2 hq h2 hl hok P2 f2⟩

set_option maxHeartbeats 4000000 in
theorem ok_objects {f fV : Addr} {fd fdV : FuncData} (F : Fun K "_law_objects" "_law_objects" S_law_objects f fd) (B : Bl mg) (d_law_value : Df K mg "_law_value" S_law_value fV fdV P_law_value) (G_law_value : FnOk P w K mg base CX0 2 fV fdV P_law_value spValue) : FnOk P w K mg base CX0 3 f fd P_law_objects spObjects := by
  refine F.ok sc_law_objects (fun vs H Q E h => ?_) (fun cdv A outer s H vs Q E hr h => ?_)
  · obtain ⟨p, c, a, fs, n, rfl, _⟩ := h
    rfl
  · obtain ⟨p, c, a, fs, n, rfl, PL, S, hS, nd, hfs, hn, k⟩ := h
    have hr_law_value : Room 2 _ := hr.mono (Nat.le_refl 2)
    have hu := hu_of hr
    refine ⟨_, (pss_cons (ps_set (i := 3) sc_law_objects.nd rfl (by first | exact Or.inl rfl | exact Or.inr rfl) (pe_lst pa_nil))
 (pss_cons (ps_for PassesOwn.never rfl (pi_range1 (by rfl) B.m_range (pa_cons (pv 2) pa_nil)) (pg_name (i := 4) sc_law_objects.nd rfl (by first | exact Or.inl rfl | exact Or.inr rfl)) (pss_cons (ps_set (i := 5) sc_law_objects.nd rfl (by first | exact Or.inl rfl | exact Or.inr rfl) pe_dnewK)
 (pss_cons (ps_for PassesOwn.never rfl (pi_list (pv 1)) (pg_name (i := 6) sc_law_objects.nd rfl (by first | exact Or.inl rfl | exact Or.inr rfl)) (pss_one (ps_dput hu (pv 5) (pv 6) (pe_call G_law_value hr_law_value rfl d_law_value.g d_law_value.F.kp d_law_value.b .nil pass0 (pa_cons (pv 0) (pa_cons (pv 2) pa_nil))) rfl)))
 (pss_one (ps_expr (pe_bm PySem.F.plainAttrs_list PySem.F.slot_list_append PySem.F.type_list_append mt_append (pv 3) (pa_cons (pv 5) pa_nil)))))))
 (pss_one (ps_ret (pv 3))))), ?_⟩
    refine ⟨Nat.zero_le _, fun q hq => ?_⟩
    have hqo := PL.np hq
    have aq : a ≠ q := ne_of_none hS hq
    refine ⟨_, rfl, _, rfl, by omega, by omega, ?_⟩
    refine for_range (lo := 0) (n := (n : Int).toNat) (fun i σ H2 => ∃ (ds : List Addr) (os : List Ob) (z1 z2 z3 : Option V), σ = [some (.ref p), some (.ref a), some (.int (n : Int)), some (.ref q), z1, z2, z3] ∧ os.length = i ∧ (∀ d ∈ ds, H d = none ∧ d ≠ q) ∧ ObjsAt H2 q ds fs n os ∧ Pool p c H2 ∧ Fr p c H H2) ?_ ?_ ?_
    · exact ⟨[], [], _, _, _, rfl, rfl, fun d hd => (nomatch hd), ⟨upd_same, rfl, List.nodup_nil, fun i d o h => by simp at h, fun o ho => (nomatch ho), fun o ho => (nomatch ho)⟩, PL.upd2 hqo _, (Fr.refl p c H).updN hq⟩
    · rintro i σ H2 hi ⟨ds, os, z1, z2, z3, rfl, hlen, hds, O, P2, f2⟩
      intro d hd2
      have hd0 : H d = none := by
        cases e : H d with
        | none => rfl
        | some o =>
          by_cases h1 : d = p
          · obtain ⟨xs, a2, m2, g1, g2, g3⟩ := P2.ex
            rw [h1, g1] at hd2; cases hd2
          · by_cases h2 : d = c
            · obtain ⟨xs, a2, m2, g1, g2, g3⟩ := P2.ex
              rw [h2, g2] at hd2; cases hd2
            · rw [f2 _ _ h1 h2 e] at hd2; cases hd2
      have hdo := P2.np hd2
      have dq : d ≠ q := fun e => by rw [e, O.ls] at hd2; cases hd2
      have dds : d ∉ ds := fun hm => by
        obtain ⟨j, hj, e⟩ := List.getElem_of_mem hm
        have hj2 : j < os.length := by rw [← O.len]; exact hj
        have := O.at' j d os[j] (by rw [List.getElem?_eq_getElem hj, e]) (List.getElem?_eq_getElem hj2)
        rw [hd2] at this; cases this
      have hoff : Off p c ds := fun x hx => PL.np (hds x hx).1
      have ad : a ≠ d := ne_of_none hS hd0
      -- the fields of one object
      refine ⟨_, rfl, a, rfl, ⟨_, SqL.of ((upd_ne ad).trans (f2 _ _ S.1 S.2 hS))⟩, for_list (xs := fs.map V.str) (fun j σ H3 => ∃ (l : Ob) (z3 : Option V), σ = [some (.ref p), some (.ref a), some (.int (n : Int)), some (.ref q), some (.int (0 + (i : Int))), some (.ref d), z3] ∧ H3 d = some (.dK (dk l)) ∧ l.map (·.1) = fs.take j ∧ okl n l ∧ ObjsAt H3 q ds fs n os ∧ Pool p c H3 ∧ Fr p c H H3) ?_ ?_ ?_ ?_⟩
      · refine ⟨[], _, rfl, upd_same, rfl, fun p hp => (nomatch hp), ?_, P2.upd2 hdo _, f2.updN hd0⟩
        exact O.same fun b o e => by rw [upd_ne (ne_of_none e hd2)]; exact e
      · rintro j σ H3 hj ⟨l, z3, rfl, h3, hl, hok, O3, P3, f3⟩
        exact SqL.of (f3 _ _ S.1 S.2 hS)
      · rintro j x σ H3 hx ⟨l, z3, rfl, h3, hl, hok, O3, P3, f3⟩
        obtain ⟨z, hz, rfl⟩ := get_str hx
        have fresh : z ∉ l.map (·.1) := by rw [hl]; exact nodup_fresh nd hz
        refine ⟨_, rfl, _, rfl, p, c, n, rfl, P3, hn, fun v H4 hv4 P4 f4 => ?_⟩
        have h4 := f4 _ _ hdo.1 hdo.2 h3
        have hll : l.length < sizeLine := by
          rw [← List.length_map (f := (·.1)), hl, List.length_take]
          exact small1000 (by omega)
        refine ⟨_, rfl, _, rfl, _, _, rfl, DPut.k (k := (Sum.inr z : Key)) h4 (by rw [dk_len]; exact hll), ?_⟩
        rw [dk_put fresh]
        refine ⟨l ++ [(z, v)], _, rfl, upd_same, by rw [List.map_append, hl, take_next hz]; rfl, ?_, ?_, P4.upd2 hdo _, (f3.trans f4).updN hd0⟩
        · intro y hy
          rcases List.mem_append.mp hy with hy | hy
          · exact hok y hy
          · rw [List.mem_singleton.mp hy]; exact hv4
        · have O4 := O3.fr hqo hoff f4
          exact ⟨by rw [upd_ne dq.symm]; exact O4.ls, O4.len, O4.nd, fun i' d' o' g1 g2 => by
            rw [upd_ne (fun e => dds (by rw [← e]; exact List.mem_of_getElem? g1))]; exact O4.at' i' d' o' g1 g2, O4.ks, O4.ok⟩
      · rintro σ H3 ⟨l, z3, rfl, h3, hl, hok, O3, P3, f3⟩
        rw [List.length_map, List.take_length] at hl
        refine ⟨_, rfl, .inl ⟨rfl, _, SqL.of O3.ls⟩, _, rfl, q, _, _, rfl, rfl, O3.ls, by rw [List.length_map, O3.len, hlen]; exact small1000 (by omega), ?_⟩
        refine ⟨ds ++ [d], os ++ [l], _, _, _, rfl, by rw [List.length_append, hlen]; rfl, ?_, ?_, P3.upd2 hqo _, f3.updN hq⟩
        · intro x hx
          rcases List.mem_append.mp hx with hx | hx
          · exact hds x hx
          · rw [List.mem_singleton.mp hx]; exact ⟨hd0, dq⟩
        · refine ⟨by rw [upd_same, List.map_append]; rfl, by rw [List.length_append, List.length_append, O3.len]; rfl, ?_, ?_, ?_, ?_⟩
          · refine List.nodup_append.mpr ⟨O3.nd, by simp, fun x hx y hy => ?_⟩
            rw [List.mem_singleton.mp hy]
            exact fun e => dds (e ▸ hx)
          · intro j d' o' g1 g2
            rcases Nat.lt_or_ge j ds.length with hj | hj
            · rw [List.getElem?_append_left hj] at g1
              rw [List.getElem?_append_left (by rw [← O3.len]; exact hj)] at g2
              have nq : d' ≠ q := (hds d' (List.mem_of_getElem? g1)).2
              rw [upd_ne nq]
              exact O3.at' j d' o' g1 g2
            · rw [List.getElem?_append_right hj] at g1
              rw [List.getElem?_append_right (by rw [← O3.len]; exact hj), ← O3.len] at g2
              have hz : j - ds.length = 0 := by
                have := (List.getElem?_eq_some_iff.mp g1).1
                simp only [List.length_singleton] at this
                omega
              rw [hz] at g1 g2
              have e1 : d = d' := Option.some.inj g1
              have e2 : l = o' := Option.some.inj g2
              subst e1 e2
              rw [upd_ne dq]; exact h3
          · intro o ho
            rcases List.mem_append.mp ho with ho | ho
            · exact O3.ks o ho
            · rw [List.mem_singleton.mp ho, hl]
          · intro o ho
            rcases List.mem_append.mp ho with ho | ho
            · exact O3.ok o ho
            · rw [List.mem_singleton.mp ho]; exact hok
    · rintro σ H2 ⟨ds, os, z1, z2, z3, rfl, hlen, hds, O, P2, f2⟩
      exact ⟨_, rfl, k q ds os H2 hq hds (by rw [hlen]; omega) O P2 f2⟩
end
end TW
set_option Elab.async false
set_option linter.all false
set_option maxRecDepth 100000
namespace TW
open PySem PySem.Spec PyProof.Rows L2 TL
/-- a list or tuple of things of the seven kinds -/
structure SeqK (K : PySem.W.Frag) (H : Hp) (a : Addr) (xs : List V) : Prop where
  at' : SqL K H a xs ∨ SqT K H a xs
  z : xs.length ≤ 1000000
  ks : ∀ y ∈ xs, ∃ T, Kd K H y T
theorem sqt_same {K : PySem.W.Frag} {H H' : Hp} {a : Addr} {xs : List V} (e : Same H H') (h : SqT K H a xs) : SqT K H' a xs := by
  rcases h with (h | ⟨o, h⟩) | h
  · exact .inl (.inl (e _ _ h))
  · exact .inl (.inr ⟨o, e _ _ h⟩)
  · exact .inr h
theorem seq_same {K : PySem.W.Frag} {H H' : Hp} {a : Addr} {xs : List V} (e : Same H H') (h : SqL K H a xs ∨ SqT K H a xs) : SqL K H' a xs ∨ SqT K H' a xs := h.elim (fun h => .inl (e.seq h)) fun h => .inr (sqt_same e h)
theorem SeqK.same {K : PySem.W.Frag} {H H' : Hp} {a : Addr} {xs : List V} (e : Same H H') (S : SeqK K H a xs) : SeqK K H' a xs := ⟨seq_same e S.at', S.z, fun y hy => let ⟨T, h⟩ := S.ks y hy; ⟨T, h.same e⟩⟩
theorem same_new {H : Hp} {p : Addr} {o : HO} (h : H p = none) : Same H (upd H p o) := fun b x e => by
  rw [upd_ne (ne_of_none e h)]; exact e
/-- unlike words, so many -/
def AreW (xs : List V) (lo hi : Int) : Prop := ∃ ws : List Str, xs = ws.map V.str ∧ (∀ z ∈ ws, IsW z) ∧ ws.Nodup ∧ lo ≤ (ws.length : Int) ∧ (ws.length : Int) ≤ hi
theorem isWb_str {x : V} (h : isWb x = true) : ∃ z, x = .str z ∧ IsW z := by
  cases x <;> try (cases h; done)
  exact ⟨_, rfl, of_decide_eq_true h⟩
theorem all_strs : ∀ {xs : List V}, xs.all isWb = true → ∃ ws : List Str, xs = ws.map V.str ∧ ∀ z ∈ ws, IsW z
  | [], _ => ⟨[], rfl, fun z h => (nomatch h)⟩
  | x :: xs, h => by
    rw [List.all_cons, Bool.and_eq_true] at h
    obtain ⟨z, rfl, hz⟩ := isWb_str h.1
    obtain ⟨ws, rfl, hw⟩ := all_strs h.2
    exact ⟨z :: ws, rfl, fun y hy => by
      rcases List.mem_cons.mp hy with rfl | hy
      · exact hz
      · exact hw y hy⟩
theorem all_of_strs {ws : List Str} (h : ∀ z ∈ ws, IsW z) : (ws.map V.str).all isWb = true := List.all_eq_true.mpr fun x hx => by
  obtain ⟨z, hz, rfl⟩ := List.mem_map.mp hx
  exact decide_eq_true (h z hz)
theorem str_inj {l m : List Str} (h : l.map V.str = m.map V.str) : l = m := by
  induction l generalizing m with
  | nil => cases m with
    | nil => rfl
    | cons y m => cases h
  | cons x l ih => cases m with
    | nil => cases h
    | cons y m =>
      injection h with h1 h2
      injection h1 with h1
      rw [h1, ih h2]
def spAreW (K : PySem.W.Frag) : Sp := fun vs H Q _ => ∃ x T lo hi, vs = [x, .int lo, .int hi] ∧ Kd K H x T ∧ hi ≤ 1000 ∧
  ((T ≠ "list" ∧ T ≠ "tuple" ∧ ∀ H', Same H H' → Q (.bl false) H') ∨
    ((T = "list" ∨ T = "tuple") ∧ ∃ a xs, x = .ref a ∧ SeqK K H a xs ∧ ∀ b H', Same H H' → (b = true ↔ AreW xs lo hi) → Q (.bl b) H'))
def spAreF (K : PySem.W.Frag) : Sp := fun vs H Q _ => ∃ x T, vs = [x] ∧ Kd K H x T ∧
  ((T ≠ "list" ∧ T ≠ "tuple" ∧ ∀ H', Same H H' → Q (.bl false) H') ∨
    ((T = "list" ∨ T = "tuple") ∧ ∃ a xs, x = .ref a ∧ SeqK K H a xs ∧ ∀ b H', Same H H' → (b = true ↔ AreW xs 1 2) → Q (.bl b) H'))
abbrev S_are_words : Stmt := topS 12
abbrev N_are_words : List Str := ["value", "least", "most", "word"]
abbrev P_are_words : List Str := ["value", "least", "most"]
theorem sc_are_words : FnScope N_are_words P_are_words (defScope S_are_words) := ⟨rfl, rfl, rfl, by decide +kernel, rfl, by decide +kernel, by decide +kernel⟩
abbrev S_are_fields : Stmt := topS 13
abbrev N_are_fields : List Str := ["value"]
abbrev P_are_fields : List Str := ["value"]
theorem sc_are_fields : FnScope N_are_fields P_are_fields (defScope S_are_fields) := ⟨rfl, rfl, rfl, by decide +kernel, rfl, by decide +kernel, by decide +kernel⟩
abbrev S_is_one_of : Stmt := topS 11
abbrev N_is_one_of : List Str := ["value", "words"]
abbrev P_is_one_of : List Str := ["value", "words"]
theorem sc_is_one_of : FnScope N_is_one_of P_is_one_of (defScope S_is_one_of) := ⟨rfl, rfl, rfl, by decide +kernel, rfl, by decide +kernel, by decide +kernel⟩
/-- what is walked: a name's list or tuple -/
def iSeqv (K : PySem.W.Frag) (i : Nat) : TI := fun σ H R => ∃ a, σ[i]? = some (some (.ref a)) ∧ (((∃ xs, SqL K H a xs) ∧ R (Itl K a) H) ∨ ((∃ xs, SqT K H a xs) ∧ R (Itt K a) H))
theorem pi_seqv {X : Cx} {tg : Expr} (i : Nat) {x : Str} {pos : Pos} (hN : X.N[i]? = some x := by rfl) (hv : Vis X.env.scope x := by first | exact Or.inl rfl | exact Or.inr (Or.inl rfl) | exact Or.inr (Or.inr rfl)) (hd : (x == ("__debug__" : Str)) = false := by decide)
    (hcd : (x == ("__classdict__" : Str)) = false := by decide) : PI X tg (.Name x pos) (iSeqv X.K i) := by
  refine ⟨fun pins s σ H R I h => ?_⟩
  obtain ⟨a, e, h | h⟩ := h
  · exact (pi_list (tg := tg) (pe_var hN hv hd hcd)).run pins s σ H R I ⟨_, e, a, rfl, h⟩
  · exact (pi_tup (tg := tg) (pe_var hN hv hd hcd)).run pins s σ H R I ⟨_, e, a, rfl, h⟩
theorem seq_go {K : PySem.W.Frag} {H : Hp} {a : Addr} {xs : List V} {A C : Prop} (h : SqL K H a xs ∨ SqT K H a xs) (l : SqL K H a xs → A) (t : SqT K H a xs → C) :
    ((∃ xs, SqL K H a xs) ∧ A) ∨ ((∃ xs, SqT K H a xs) ∧ C) := h.elim (fun h => .inl ⟨⟨_, h⟩, l h⟩) fun h => .inr ⟨⟨_, h⟩, t h⟩
theorem lookup_none' {k : Str} : ∀ {l : List (Str × Option Nat)}, l.lookup k = none → k ∉ l.map (·.1)
  | [], _ => by simp
  | (f, v) :: l, h => by
    rw [List.lookup_cons] at h
    cases e : k == f with
    | true => rw [e] at h; cases h
    | false =>
      rw [e] at h
      have := lookup_none' h
      intro hm
      rcases List.mem_cons.mp hm with hm | hm
      · subst hm; simp at e
      · exact this hm
theorem kd_list {K : PySem.W.Frag} {H : Hp} {a : Addr} {T : String} (h : T = "list" ∨ T = "tuple") : (T == "list" || T == "tuple") = true := by
  rcases h with h | h <;> subst h <;> rfl
/-- a comprehension over a list or tuple -/
theorem for_either {K : PySem.W.Frag} {H : Hp} {a : Addr} {xs : List V} {α : Prop} (h : SqL K H a xs ∨ SqT K H a xs) (l : SqL K H a xs → α) (t : SqT K H a xs → α) : α := h.elim l t
section
variable {P : Program} {w : World} {K : PySem.W.Frag} {mg : Str → Option Value} {base : Heap}
set_option maxHeartbeats 8000000 in
theorem ok_are_words {f fW : Addr} {fd fdW : FuncData} (F : Fun K "are_words" "are_words" S_are_words f fd) (B : Bl mg) (d_is_word : Df K mg "is_word" S_is_word fW fdW P_is_word) (G_is_word : FnOk P w K mg base CX0 1 fW fdW P_is_word (spIsW K)) : FnOk P w K mg base CX0 2 f fd P_are_words (spAreW K) := by
  refine F.ok sc_are_words (fun vs H Q E h => ?_) (fun cdv A outer s H vs Q E hr h => ?_)
  · obtain ⟨x, T, lo, hi, rfl, _⟩ := h
    rfl
  · obtain ⟨x, T, lo, hi, rfl, hk, hh, k⟩ := h
    have hr_is_word : Room 1 _ := hr.mono (Nat.le_refl 1)
    rcases k with ⟨n1, n2, k⟩ | ⟨hT, a, xs, rfl, S, k⟩
    · refine ⟨_, (pss_cons (ps_if (PW.pt (pw_or (pt_not (pt_val (pe_callB call_isiT (by rfl) B.m_isinstance (by decide +kernel) (pa_cons (pv 0) (pa_cons (pe_tup (pa_cons (pe_bltn (v := .ty "list") (by rfl) B.m_list (by decide +kernel) rfl) (pa_cons (pe_bltn (v := .ty "tuple") (by rfl) B.m_tuple (by decide +kernel) rfl) pa_nil))) pa_nil))))) (pw_or1 (pt_not (pt_chain op_le op_le (pv 1) (pe_callB call_len_seq (by rfl) B.m_len PySem.boot_len (pa_cons (pv 0) pa_nil)) (pv 2)))))) (pss_one (ps_ret pe_bl)) pss_nil)
 (pss_one (ps_ret (pe_and (pe_callB (cr_all rfl) (by rfl) B.m_all (by decide +kernel) (pa_cons (pe_lc (own := [("word", 3)]) (g := gName 3) (tt := tYes) rfl sc_are_words.nd (pi_seqv 0) (blkOk_by (own := [("word", 3)]) (N := N_are_words) (sc := defScope S_are_words) (by decide +kernel)) (fun _ _ _ _ _ => (pg_name (i := 3) sc_are_words.nd rfl (by first | exact Or.inl rfl | exact Or.inr rfl))) (fun _ _ _ _ _ => pts_nil) (fun _ _ _ _ _ => (pe_call G_is_word hr_is_word rfl d_is_word.g d_is_word.F.kp d_is_word.b .nil pass0 (pa_cons (pv 3) pa_nil)))) pa_nil)) (pe_one (pe_cmpR op_eq (pe_lenSetN rfl (by rfl) B.m_len (by rfl) B.m_set (pv 0)) (pe_callB call_len_seq (by rfl) B.m_len PySem.boot_len (pa_cons (pv 0) pa_nil)) (nomark _))))))), ?_⟩
      refine ⟨_, rfl, (by show 2 ≤ sizeLine; decide), fun t ht => ⟨_, t, _, _, [.type "list", .type "tuple"], _, rfl, upd_same, .cons (.ty "list") (.cons (.ty "tuple") .nil), (hk.same (same_new ht)).t, kit7_seq hk.m, _, rfl, ?_⟩⟩
      have e : (T == "list" || T == "tuple") = false := by simp [n1, n2]
      rw [e]
      exact k _ (same_new ht)
    · refine ⟨_, (pss_cons (ps_if (PW.pt (pw_or (pt_not (pt_val (pe_callB call_isiT (by rfl) B.m_isinstance (by decide +kernel) (pa_cons (pv 0) (pa_cons (pe_tup (pa_cons (pe_bltn (v := .ty "list") (by rfl) B.m_list (by decide +kernel) rfl) (pa_cons (pe_bltn (v := .ty "tuple") (by rfl) B.m_tuple (by decide +kernel) rfl) pa_nil))) pa_nil))))) (pw_or1 (pt_not (pt_chain op_le op_le (pv 1) (pe_callB call_len_seq (by rfl) B.m_len PySem.boot_len (pa_cons (pv 0) pa_nil)) (pv 2)))))) (pss_one (ps_ret pe_bl)) pss_nil)
 (pss_one (ps_ret (pe_and (pe_callB (cr_all rfl) (by rfl) B.m_all (by decide +kernel) (pa_cons (pe_lc (own := [("word", 3)]) (g := gName 3) (tt := tYes) rfl sc_are_words.nd (pi_seqv 0) (blkOk_by (own := [("word", 3)]) (N := N_are_words) (sc := defScope S_are_words) (by decide +kernel)) (fun _ _ _ _ _ => (pg_name (i := 3) sc_are_words.nd rfl (by first | exact Or.inl rfl | exact Or.inr rfl))) (fun _ _ _ _ _ => pts_nil) (fun _ _ _ _ _ => (pe_call G_is_word hr_is_word rfl d_is_word.g d_is_word.F.kp d_is_word.b .nil pass0 (pa_cons (pv 3) pa_nil)))) pa_nil)) (pe_one (pe_cmpR op_eq (pe_lenSetN rfl (by rfl) B.m_len (by rfl) B.m_set (pv 0)) (pe_callB call_len_seq (by rfl) B.m_len PySem.boot_len (pa_cons (pv 0) pa_nil)) (nomark _))))))), ?_⟩
      refine ⟨_, rfl, (by show 2 ≤ sizeLine; decide), fun t ht => ⟨_, t, _, _, [.type "list", .type "tuple"], _, rfl, upd_same, .cons (.ty "list") (.cons (.ty "tuple") .nil), (hk.same (same_new ht)).t, kit7_seq hk.m, _, rfl, ?_⟩⟩
      have s1 := same_new (H := H) (o := HO.tup [V.ty "list", V.ty "tuple"]) ht
      have S1 := S.same s1
      have e : (T == "list" || T == "tuple") = true := kd_list (K := K) (H := H) (a := a) hT
      rw [e]
      refine iteF ?_
      refine ⟨_, rfl, _, rfl, a, xs, rfl, S1.at', _, _, rfl, rfl, _, rfl, ?_⟩
      have no : ∀ H', Same H H' → (¬ lo ≤ (xs.length : Int) ∨ ¬ (xs.length : Int) ≤ hi) → Q (.bl false) H' := fun H' s' n => k false H' s' ⟨fun z => (nomatch z), fun ⟨ws, e, _, _, h1, h2⟩ => by
        rw [e, List.length_map] at n
        rcases n with n | n
        · exact absurd h1 n
        · exact absurd h2 n⟩
      refine ite_dec (fun h1 => ?_) (fun h1 => ?_)
      · have h1' : lo ≤ (xs.length : Int) := of_decide_eq_true h1
        refine ⟨_, rfl, _, _, rfl, rfl, _, rfl, ?_⟩
        refine ite_dec (fun h2 => ?_) (fun h2 => ?_)
        · have h2' : ¬ (xs.length : Int) ≤ hi := by simpa using h2
          exact no _ s1 (.inr h2')
        · have h2' : (xs.length : Int) ≤ hi := by simpa using h2
          -- all([is_word(word) for word in value])
          refine ⟨a, rfl, seq_go S1.at' (fun hS => ?_) (fun hS => ?_)⟩
          all_goals
            intro D hD
            first
              | refine lc_list (xs := xs) (fun i H2 => Same (upd H t (.tup [V.ty "list", V.ty "tuple"])) H2 ∧ H2 D = some (.lst (((xs.take i).map isWb).map V.bl))) ?_ ?_ ?_ ?_
              | refine lc_tup (xs := xs) (fun i H2 => Same (upd H t (.tup [V.ty "list", V.ty "tuple"])) H2 ∧ H2 D = some (.lst (((xs.take i).map isWb).map V.bl))) ?_ ?_ ?_ ?_
            · exact ⟨same_new hD, upd_same⟩
            · rintro i H2 hi2 ⟨s2, h2D⟩
              first
                | exact s2.seq hS
                | exact sqt_same s2 hS
            · rintro i x H2 hx ⟨s2, h2D⟩
              refine ⟨rfl, yes_of ?_⟩
              obtain ⟨T2, hk2⟩ := S.ks x (List.mem_of_getElem? hx)
              refine ⟨_, rfl, x, T2, rfl, hk2.same (s1.trans s2), fun H3 s3 => ?_⟩
              refine ⟨_, s3 _ _ h2D, by rw [List.length_map, List.length_map, List.length_take]; exact Nat.lt_of_le_of_lt (Nat.le_trans (Nat.min_le_right _ _) S.z) (by decide), ?_⟩
              refine ⟨fun b o e => by rw [upd_ne (ne_of_none e hD)]; exact s3 _ _ (s2 _ _ e), ?_⟩
              rw [upd_same, take_next' hx, List.map_append, List.map_append]
              rfl
            · rintro H2 ⟨s2, h2D⟩
              rw [List.take_length] at h2D
              refine ⟨D, _, rfl, SqL.of h2D, _, rfl, ?_⟩
              refine ite_dec (fun hb => ?_) (fun hb => ?_)
              · rw [List.all_map] at hb
                obtain ⟨ws, rfl, hw⟩ := all_strs (xs := xs) hb
                have S2 := S1.same s2
                refine ⟨_, rfl, a, ws, rfl, S2.at', ?_, _, rfl, a, _, rfl, S2.at', rfl, ?_⟩
                · rw [List.length_map] at h2'; omega
                · refine k _ H2 (s1.trans s2) ?_
                  have e2 : (V.int (cnt ws : Nat) = V.int ((ws.map V.str).length : Nat)) ↔ ws.Nodup := by
                    rw [List.length_map, ← cnt_eq ws]
                    exact ⟨fun z => by injection z with z; omega, fun z => by rw [z]⟩
                  rw [List.length_map] at h1' h2'
                  rw [decide_eq_true_iff]
                  refine e2.trans ⟨fun nd => ⟨ws, rfl, hw, nd, h1', h2'⟩, fun ⟨ws2, e, _, nd, _⟩ => by rw [str_inj e]; exact nd⟩
              · refine k _ H2 (s1.trans s2) ⟨fun z => (nomatch z), fun ⟨ws, e, hw, _⟩ => ?_⟩
                rw [List.all_map] at hb
                have : xs.all isWb = true := by rw [e]; exact all_of_strs hw
                rw [show (xs.all (id ∘ isWb)) = xs.all isWb from rfl, this] at hb
                cases hb
      · have h1' : ¬ lo ≤ (xs.length : Int) := of_decide_eq_false h1
        refine ⟨_, rfl, ?_⟩
        refine iteT ?_
        exact no _ s1 (.inl h1')

set_option maxHeartbeats 4000000 in
theorem ok_are_fields {f fW : Addr} {fd fdW : FuncData} {t : Tok} (F : Fun K "are_fields" "are_fields" S_are_fields f fd) (m_MOST_FIELDS : mg "MOST_FIELDS" = some (.int 2 t)) (d_are_words : Df K mg "are_words" S_are_words fW fdW P_are_words) (G_are_words : FnOk P w K mg base CX0 2 fW fdW P_are_words (spAreW K)) : FnOk P w K mg base CX0 3 f fd P_are_fields (spAreF K) := by
  refine F.ok sc_are_fields (fun vs H Q E h => ?_) (fun cdv A outer s H vs Q E hr h => ?_)
  · obtain ⟨x, T, rfl, _⟩ := h
    rfl
  · obtain ⟨x, T, rfl, hk, k⟩ := h
    have hr_are_words : Room 2 _ := hr.mono (Nat.le_refl 2)
    refine ⟨_, (pss_one (ps_ret (pe_call G_are_words hr_are_words rfl d_are_words.g d_are_words.F.kp d_are_words.b .nil pass0 (pa_cons (pv 0) (pa_cons pe_int (pa_cons (pe_glob (v := .int _) rfl m_MOST_FIELDS ⟨_, rfl⟩) pa_nil)))))), ?_⟩
    exact ⟨_, rfl, x, T, 1, 2, rfl, hk, by decide, k⟩
/-- x one of the words of a dict, or of a list or tuple -/
def oneOf (x : V) (ws : List Str) : Bool := match x with
  | .str z => decide (z ∈ ws)
  | _ => false
def spOneOf (K : PySem.W.Frag) : Sp := fun vs H Q _ => ∃ x T a ws, vs = [x, .ref a] ∧ Kd K H x T ∧ ((∃ l : Ob, H a = some (.dK (dk l)) ∧ l.map (·.1) = ws) ∨ SqL K H a (ws.map V.str) ∨ SqT K H a (ws.map V.str)) ∧ Q (.bl (oneOf x ws)) H
set_option maxHeartbeats 4000000 in
theorem ok_is_one_of {f : Addr} {fd : FuncData} (F : Fun K "is_one_of" "is_one_of" S_is_one_of f fd) (B : Bl mg) : FnOk P w K mg base CX0 1 f fd P_is_one_of (spOneOf K) := by
  refine F.ok sc_is_one_of (fun vs H Q E h => ?_) (fun cdv A outer s H vs Q E hr h => ?_)
  · obtain ⟨x, T, a, ws, rfl, _⟩ := h
    rfl
  · obtain ⟨x, T, a, ws, rfl, hk, S, k⟩ := h
    have hu := hu_of hr
    have nstr : (T == "str") = false → oneOf x ws = false := fun h => by
      cases x <;> try rfl
      have := (ty_str hk.t).mpr ⟨_, rfl⟩
      subst this
      cases h
    rcases S with ⟨l, hd, hl⟩ | S
    · refine ⟨_, (pss_one (ps_ret (pe_and (pe_callB call_isi (by rfl) B.m_isinstance (by decide +kernel) (pa_cons (pv 0) (pa_cons (pe_bltn (v := .ty "str") (by rfl) B.m_str (by decide +kernel) rfl) pa_nil))) (pe_one (pe_cmp (pc_din hu (pv 0) (pv 1)) rfl))))), ?_⟩
      refine ⟨_, rfl, _, _, _, _, _, rfl, .ty "str", hk.t, kit7_str hk.m, _, rfl, ?_⟩
      refine ite_dec (fun hb => ?_) (fun hb => ?_)
      · obtain ⟨z, rfl⟩ := (ty_str hk.t).mp (eq_of_beq hb)
        refine ⟨_, rfl, _, rfl, a, _, rfl, DGet.k (k := (Sum.inr z : Key)) hd, ?_⟩
        have e : (valV (dk l) (Sum.inr z : Key)).isSome = oneOf (.str z) ws := by
          rw [dk_valV]
          show ((l.lookup z).map hv).isSome = decide (z ∈ ws)
          rw [← hl, Option.isSome_map]
          by_cases h : z ∈ l.map (·.1)
          · rw [decide_eq_true h]
            cases e : l.lookup z with
            | some v => rfl
            | none => exact absurd h (lookup_none' e)
          · rw [decide_eq_false h, lookup_none h]; rfl
        rw [e]; exact k
      · rw [nstr hb] at k; exact k
    · refine ⟨_, (pss_one (ps_ret (pe_and (pe_callB call_isi (by rfl) B.m_isinstance (by decide +kernel) (pa_cons (pv 0) (pa_cons (pe_bltn (v := .ty "str") (by rfl) B.m_str (by decide +kernel) rfl) pa_nil))) (pe_one (pe_cmpR op_in_seq (pv 0) (pv 1) (by rfl)))))), ?_⟩
      refine ⟨_, rfl, _, _, _, _, _, rfl, .ty "str", hk.t, kit7_str hk.m, _, rfl, ?_⟩
      refine ite_dec (fun hb => ?_) (fun hb => ?_)
      · obtain ⟨z, rfl⟩ := (ty_str hk.t).mp (eq_of_beq hb)
        refine ⟨_, rfl, _, rfl, a, _, rfl, S, rfl, TW.flat_strs ws, ?_⟩
        have e : inV (.str z) (ws.map V.str) = oneOf (.str z) ws := inV_strs
        rw [← e] at k; exact k
      · rw [nstr hb] at k; exact k
end
end TW
set_option Elab.async false
set_option linter.all false
set_option maxRecDepth 100000
set_option maxHeartbeats 2000000
/-! defs that are called where no repr is under way: they may call repr -/
namespace L2
open PySem PySem.Spec PyProof.Rows
/-- no repr is under way -/
def Still (A : Around) : Prop := A.guards = some []
theorem Still.down {A : Around} (h : Still A) (e : Env) : Still (A.deeper e) := h
theorem still_top : Still callerA := rfl
/-- what a def promises there -/
structure FnG (P : Program) (w : World) (K : PySem.W.Frag) (mg : Str → Option Value) (base : Heap) (CX : CXT) (k : Nat) (f : Addr) (fd : FuncData) (ps : List Str) (sp : Sp) : Prop where
  ln : ∀ vs H Q E, sp vs H Q E → vs.length = ps.length
  go : ∀ A : Around, Still A → Room k A → ∀ (st : List Env) (s : Shared) (H : Hp), Env0 P w K mg base A st s H → ∀ (ag : Args) (us : List Value) (vs : List V) (Q : VK) (E : XK), BindsTo s fd ag (ps.zip us) → Vals vs us → sp vs H Q E →
    codeAny (model P w) A (.call (.ref f) ag) (CR CX st P w H s Q E) s
theorem FnOk.still {P : Program} {w : World} {K : PySem.W.Frag} {mg : Str → Option Value} {base : Heap} {CX : CXT} {k : Nat} {f : Addr} {fd : FuncData} {ps : List Str} {sp : Sp} (F : FnOk P w K mg base CX k f fd ps sp) : FnG P w K mg base CX k f fd ps sp :=
  ⟨F.len, fun A _ hr st s H e0 ag us vs Q E hb r h => F.run A st s H ag us vs Q E hr e0 hb r h⟩
section
variable {P : Program} {w : World} {K : PySem.W.Frag} {mg : Str → Option Value} {base : Heap}
/-- a def by its body, called where no repr is under way -/
theorem Fun.still {x qual : Str} {st : Stmt} {f : Addr} {fd : FuncData} {N ps : List Str} {k : Nat} {sp : Sp} (F : Fun K x qual st f fd) (S : FnScope N ps (defScope st)) (ln : ∀ vs H Q E, sp vs H Q E → vs.length = ps.length)
    (bd : ∀ (cdv : Value) (A : Around) (up : List Env) (s : Shared) (H : Hp) (vs : List V) (Q : VK) (E : XK), Still (A.deeper (envOfC qual (defScope st) s.heap.objs.size f cdv)) → Room k (A.deeper (envOfC qual (defScope st) s.heap.objs.size f cdv)) → sp vs H Q E →
      ∃ t, PSs (cxOf CX0 P w K mg base N qual (defScope st) f cdv A up s H E).nox (defBody st) t ∧ t { nx := fun _ H' => Q .non H', rt := Q } (start N vs) H) : FnG P w K mg base CX0 (k + 1) f fd ps sp := by
  obtain ⟨oc, od, kV, dc, pm, an, cdv, ct, sl, rfl, lk, hc⟩ := F.ex
  refine ⟨ln, fun A hg hr up s H e0 ag us vs Q E bt rv h0 => ?_⟩
  have nl := ln _ _ _ _ h0
  have kin : K.In s.heap := e0.mod.kin.keeps fun _ _ z => (e0.bs _ _ z).1
  have free : s.heap.NoLimit := e0.mod.nolimit.keeps fun _ _ z => (e0.bs _ _ z).1
  have kinds : ∀ y ∈ ps.zip us, (defScope st).names.lookup y.1 = some .local ∨ ((defScope st).names.lookup y.1 = some .cell ∧ ((cellsFrom (s.heap.objs.size + 1) (defScope st).names []).lookup y.1).isSome = true) := by
    rintro ⟨n, v⟩ hy
    exact (S.par n (List.of_mem_zip hy).1).imp id fun c => ⟨c, PySem.W.cellsFrom_some _ _ _ (.inl c)⟩
  refine codeAny_call_function hr.depth (kin _ _ lk) rfl S.co S.gen rfl (PySem.W.codeRec_of kin hc) (bt _ _ _ _ (wpAny_newFunctionEnv_cells S.kind kinds fun en hn s1 y => ?_))
  subst hn
  refine ⟨free.keeps y.toInCall.keep, codeAny_func ?_⟩
  obtain ⟨t, ht, q0⟩ := bd cdv A up s H vs Q E (hg.down _) (hr.deeper _) h0
  have I0 : Inv (cxOf CX0 P w K mg base N qual (defScope st) f cdv A up s H E) [] (start N vs) H s1 := inv_start S hr.hd e0 nl rv y
  refine wpAny_mono (ht.nox.run [] s1 (start N vs) H _ I0 q0) (fun fl s2 z => ?_) fun _ _ z => z
  match fl, z with
  | .ret u, ⟨v, _, H2, J, r, q⟩ => exact ⟨v, H2, J.os, J.bare, J.base, J.hok, r, q⟩
  | .next, ⟨_, H2, J, q⟩ => exact ⟨.non, H2, J.os, J.bare, J.base, J.hok, rfl, q⟩
  | .brk, ⟨_, _, _, q⟩ => exact False.elim q
  | .cont, ⟨_, _, _, q⟩ => exact False.elim q
end
section
variable {X : Cx} {CX : CXT} {k : Nat} {f : Addr} {fd : FuncData} {ps : List Str} {sp : Sp} {dvs : List V} {ds : List Value} {E : XK} {x : Str} {p pos : Pos} {e : Expr} {es : List Expr} {t : TA}
theorem run_still {pins : List (Addr × Obj)} {σ : St} {H : Hp} {s : Shared} {Q : VK} {us : List Value} {vs : List V} (F : FnG X.prog X.w X.K X.mg X.base CX k f fd ps sp) (hs : Still X.A) (hr : Room k X.A) (hb : Binds X.K fd ps ds) (hd : Vals dvs ds) (hx : Passes CX X E)
    (I : Inv X pins σ H s) (r : Vals vs us) (h : sp (vs ++ dvs) H Q E) : wpAny (model X.prog X.w) X.A (call (.ref f) us) (EP X pins σ Q) X.xe s := by
  have rr : Vals (vs ++ dvs) (us ++ ds) := r.append hd
  have nl : (us ++ ds).length = ps.length := rr.length.symm.trans (F.ln _ _ _ _ h)
  refine wpAny_call (codeAny_mono (F.go X.A hs hr X.stack s H I.env0 ⟨us, []⟩ _ _ Q E (hb s us I.kIn nl) rr h) fun z s2 hz => ?_)
  match z, hz with
  | .error er, hz => exact hx pins σ H s er s2 I hz
  | .ok (.ret u), hz => exact I.after hz
  | .ok .next, hz => exact False.elim hz
  | .ok .brk, hz => exact False.elim hz
  | .ok .cont, hz => exact False.elim hz
/-- f(e, ..) of such a def -/
theorem pe_callG (F : FnG X.prog X.w X.K X.mg X.base CX k f fd ps sp) (hs : Still X.A) (hr : Room k X.A) (hg : Gl X x) (hm : X.mg x = some (.ref f)) (hk : PySem.W.keepIn X.K (.ref f) = true) (hb : Binds X.K fd ps ds) (hd : Vals dvs ds) (hx : Passes CX X E)
    (ha : PA X (e :: es) t) (ndb : (x == ("__debug__" : Str)) = false := by decide) (hst : starEach (e :: es) X.env = (false, eval e X.env) :: starEach es X.env := by rfl) (hpl : (backTo pos (starEach es X.env)).any (·.1) = false := by rfl) :
    PE X (.Call (.Name x p) (e :: es) [] pos) (tCall sp dvs E t) := by
  constructor
  intro pins s σ H Q I h
  refine wpAny_Call_Name_kw (ld_glob I hg hm (PySem.W.callWith_K (h₀ := X.base) I.ok.mod.kin hk (thn (ha.run pos pins s σ H _ I h) ?_) hst hpl) ndb)
  rintro us s1 ⟨vs, H1, I1, r, q⟩
  exact ⟨I1.kIn, run_still F hs hr hb hd hx I1 r q⟩
/-- repr(x), x data of any depth -/
def rRepr (K : PySem.W.Frag) : List V → Hp → VK → Prop := fun vs H Q => ∃ (a : Addr) (d : PyData), vs = [.ref a] ∧ Dp K H (.ref a) d ∧ d.showable = true ∧ d.hasDict = false ∧ d.depth ≤ 60 ∧ d.shown.length ≤ sizeLine ∧ Q (.str d.shown) H
theorem call_reprD (hs : Still X.A) (hu : X.A.units + 64 < cLine) : CallR X (.builtin "repr") (rRepr X.K) := by
  rintro pins s σ H vs us Q I r ⟨a, d, rfl, hd, sh, nd, dp, sz, q⟩
  obtain rfl := Vals.ref1 r
  obtain ⟨as, rd⟩ := Dp.reads I d _ _ hd rfl
  exact repr_of_reads' rd sh (PyData.noDict_hsm nd) hs (by omega) (fun _ _ z => z) (fun h' u tk hk => ⟨.str d.shown, H, I.kept hk, ⟨u, rfl⟩, q⟩) sz
end
/-! the law's own def, from the top -/
section
variable {P : Program} {w : World} {K : PySem.W.Frag} {mg mb : Str → Option Value} {CX : CXT} {k : Nat} {fa a : Addr} {fd : FuncData} {x : Str} {sp : Sp} {t : Shared} {vs : List Value} {ns : List Int}
theorem still_from {H : Hp} (kin : K.In t.heap) (gl : t.heap.Ns mainGlobals mg) (bl : t.heap.Ns builtinsNs mb) (bb : ∀ x : Str, x ≠ "__name__" → mb x = bootBuiltins x) (nolim : t.heap.NoLimit) (gen : t.gens = #[]) (ha : t.heap.get? a = some { cls := .type "list", data := .seq vs.toArray }) (hr : Room k callerA)
    (F : ∀ base : Heap, K.In base → base.Ns mainGlobals mg → FnG P w K mg base CX k fa fd [x] sp) (bind : ∀ (s : Shared) (u : Value), BindsTo s fd ⟨[u], []⟩ [(x, u)]) (low : ∀ H e s', CX [] H t (fun _ _ _ => False) e s' → False)
    (hO : Only H) (hs : sp [.ref a] H (fun v _ => v = .bl true) fun _ _ _ => False) (ok : HOk P w H t.heap) (one : ∀ b, H b ≠ none → b = a) (off : H a ≠ none → K.lookup a = none) :
    codeAny (model P w) callerA (.call (.ref fa) ⟨[.ref a], []⟩) (fun r s' => r = .ok (.ret (.bool true)) ∧ OldK t.heap s'.heap ∧ s'.os = t.os ∧ AllBare s'.gens) t := by
  have away : ∀ {b : Addr} {o : Obj}, t.heap.get? b = some o → o.data ≠ .seq vs.toArray → H b = none := fun {b o} g ne => by
    refine Decidable.byContradiction fun z => ?_
    rw [one b z, ha] at g
    cases g
    exact ne rfl
  have ns' : ∀ {b : Addr} {m : Str → Option Value}, t.heap.Ns b m → (hidT t.heap H).Ns b m := fun {b m} h => by
    obtain ⟨o, es, ep, g, d, r⟩ := h
    exact ⟨o, es, ep, hidT_get g (away g (by rw [d]; exact fun z => nomatch z)), d, r⟩
  have kin' : K.In (hidT t.heap H) := fun b o g => hidT_get (kin b o g) (Decidable.byContradiction fun z => by
    have e := one b z
    subst e
    rw [off z] at g
    cases g)
  have md : Mod K mg (hidT t.heap H) := by
    obtain ⟨mc, l1, l2⟩ := nolim
    exact ⟨kin', ns' gl, ⟨mb, ns' bl, bb⟩, mc, ns' l1, l2⟩
  have e0 : Env0 P w K mg (hidT t.heap H) callerA [] t H := ⟨rfl, md, fun _ _ g => of_hidT g, Nat.le_of_eq (hidT_size _ _), trivial, fun b z => (nomatch z), ok, .of_eq gen⟩
  refine codeAny_mono ((F _ kin' (ns' gl)).go callerA still_top hr [] t H e0 ⟨[.ref a], []⟩ [.ref a] [.ref a] _ _ (bind t _) (.cons rfl .nil) hs) fun z s2 hz => ?_
  match z, hz with
  | .error er, hz => exact (low H er s2 hz).elim
  | .ok .next, hz => exact False.elim hz
  | .ok .brk, hz => exact False.elim hz
  | .ok .cont, hz => exact False.elim hz
  | .ok (.ret u), ⟨v, H2, os, bare, un, ok2, rv, ev⟩ =>
    have ev' : v = .bl true := ev
    subst ev'
    have eu : u = Value.bool true := rv
    subst eu
    refine ⟨rfl, OldK.of_keep fun b o g => ?_, os, bare⟩
    rcases hO b with n | ⟨ob, xs, e⟩
    · exact un.keep b o g n (fun z => (nomatch z)) (fun z => (nomatch z))
    · have g1 := (ok b _ e).1
      rw [g] at g1
      cases g1
      exact (ok2 b _ (un.frzs b _ _ e)).1
theorem law_still (kin : K.In t.heap) (gl : t.heap.Ns mainGlobals mg) (bl : t.heap.Ns builtinsNs mb) (bb : ∀ x : Str, x ≠ "__name__" → mb x = bootBuiltins x) (nolim : t.heap.NoLimit) (gen : t.gens = #[]) (ha : t.heap.get? a = some { cls := .type "list", data := .seq vs.toArray })
    (hi : IntsAre vs ns) (hl : ns.length ≤ sizeLine) (hr : Room k callerA)
    (F : ∀ base : Heap, K.In base → base.Ns mainGlobals mg → FnG P w K mg base CX k fa fd [x] sp) (bind : ∀ (s : Shared) (u : Value), BindsTo s fd ⟨[u], []⟩ [(x, u)]) (low : ∀ H e s', CX [] H t (fun _ _ _ => False) e s' → False)
    (hs : ∀ H : Hp, Only H → SqL K H a (ns.map V.int) → sp [.ref a] H (fun v _ => v = .bl true) fun _ _ _ => False) :
    codeAny (model P w) callerA (.call (.ref fa) ⟨[.ref a], []⟩) (fun r s' => r = .ok (.ret (.bool true)) ∧ OldK t.heap s'.heap ∧ s'.os = t.os ∧ AllBare s'.gens) t := by
  have rv := vals_ints hi
  have nl := hi.length
  obtain ⟨ob, eo⟩ : ∃ ob : Obj, ob = { cls := .type "list", data := .seq vs.toArray } := ⟨_, rfl⟩
  cases hk : K.lookup a with
  | some o =>
    have g := kin a o hk
    rw [ha] at g
    cases g
    have hO : Only fun _ => none := fun _ => .inl rfl
    refine still_from kin gl bl bb nolim gen ha hr F bind low hO (hs _ hO (.inr ⟨_, vs.toArray, _, hk, rfl, rfl, rfl, ?_, ?_⟩)) (fun b u z => nomatch z) (fun b z => absurd rfl z) (fun z => absurd rfl z)
    · rw [List.size_toArray, nl]
      exact hl
    · simpa using rv
  | none =>
    have here : ∀ b, (upd (fun _ => none) a (.frz ob (.lst (ns.map V.int)))) b ≠ none → b = a := fun b z => Decidable.byContradiction fun n => z (upd_ne n)
    have hO : Only (upd (fun _ => none) a (.frz ob (.lst (ns.map V.int)))) := fun b => by
      by_cases n : b = a
      · subst n
        exact .inr ⟨_, _, upd_same⟩
      · exact .inl (upd_ne n)
    refine still_from kin gl bl bb nolim gen ha hr F bind low hO (hs _ hO (.inl (.inr ⟨ob, upd_same⟩))) (fun b u z => ?_) here (fun _ => hk)
    have e := here b (by rw [z]; exact fun y => nomatch y)
    subst e
    rw [upd_same] at z
    cases z
    subst eo
    exact ⟨ha, by rw [List.length_map]; exact hl, vs, _, rv, ha⟩
end
/-- what k_head leaves, for a law whose def needs that no repr is under way -/
theorem walk_still {l : PySem.W.OpenLaw} {n k : Nat} {q : Program} {loose : List Str} {XP : (Str → Option Value) → Heap → Prop} {YP : World → Heap → Prop} {d : DefRec} {K : Params → PySem.W.Frag} {sp : World → Sp} {x : Str}
    (m1 : l.most = some n) (m2 : n ≤ sizeLine) (nd : d.params.defaults = []) (hr : Room k callerA) (hY : ∀ (w : World) (h : Heap), YP w h → (K w.params).In h)
    (F : ∀ (w : World) (mg : Str → Option Value) (fa : Addr) (h : Heap), (K w.params).In h → h.Ns mainGlobals mg → mg d.name = some (.ref fa) →
      ∃ fd : FuncData, (∀ (s : Shared) (u : Value), BindsTo s fd ⟨[u], []⟩ [(x, u)]) ∧ ∀ base : Heap, (K w.params).In base → base.Ns mainGlobals mg → FnG l.prog w (K w.params) mg base CX0 k fa fd [x] (sp w))
    (hs : ∀ (w : World) (H : Hp) (a : Addr) (ns : List Int), ns.length ≤ n → Only H → SqL (K w.params) H a (ns.map V.int) → sp w [.ref a] H (fun v _ => v = .bl true) fun _ _ _ => False) :
    PySem.W.WalkO q loose XP YP l.row.toRowW d [] (fun f vs => PySem.call f vs) := by
  refine Att.attach_call m1 nd fun w s0 s1 mg mb fa o pm cd doc a vs ns G Y e1 e2 e3 e4 e5 e6 e7 e8 => ?_
  have kin := hY w _ Y
  obtain ⟨fd, hb, hF⟩ := F w mg fa _ kin G.T.g e4
  exact law_still kin G.T.g G.T.b G.T.builtins G.T.nolimit e8 e5 e6 (Nat.le_trans e7 m2) hr hF hb (fun _ _ _ z => z) fun H hO hS => hs w H a ns e7 hO hS
end L2
set_option Elab.async false
set_option linter.all false
set_option maxRecDepth 100000
namespace TW
open PySem PySem.Spec PyProof.Rows L2 TL
theorem ix_listK {X : Cx} {K : PySem.W.Frag} (h : X.K = K) : IxR X (rIxL K) := h ▸ ix_list
theorem ix_tupK {X : Cx} {K : PySem.W.Frag} (h : X.K = K) : IxR X (rIxT K) := h ▸ ix_tup
theorem ix_seqK {X : Cx} {K : PySem.W.Frag} (h : X.K = K) : IxR X (rIx K) := h ▸ ix_seq
theorem pi_listK {X : Cx} {K : PySem.W.Frag} {tg l : Expr} {tl : TE} (h : X.K = K) (hl : PE X l tl) : PI X tg l (iList K tl) := h ▸ pi_list hl
theorem pi_tupK {X : Cx} {K : PySem.W.Frag} {tg l : Expr} {tl : TE} (h : X.K = K) (hl : PE X l tl) : PI X tg l (iTup K tl) := h ▸ pi_tup hl
theorem sl_listK {X : Cx} {K : PySem.W.Frag} (h : X.K = K) : SlR X (rSlL K) := h ▸ sl_list
theorem op_in_seqK {X : Cx} {K : PySem.W.Frag} (h : X.K = K) : OpR X (compareOp .In) (rIn K false) := h ▸ op_in_seq
theorem op_notIn_seqK {X : Cx} {K : PySem.W.Frag} (h : X.K = K) : OpR X (compareOp .NotIn) (rIn K true) := h ▸ op_notIn_seq
theorem call_isiK {X : Cx} {K : PySem.W.Frag} (h : X.K = K) : CallR X (.builtin "isinstance") (rIsi K) := h ▸ call_isi
end TW
set_option Elab.async false
set_option linter.all false
set_option maxRecDepth 100000
set_option maxHeartbeats 2000000
/-! A lambda with parameters, handed to a def beside other arguments, and called there. -/
namespace LamQ
open PySem PySem.Spec PyProof.Rows L2 LamX NdefX
/-- the object of the lambda F at its address -/
abbrev lamO (F : NF) (body : Expr) (pm ctv : Value) : Obj := PySem.W.kla_obj "<lambda>" F.qual F.params body F.scope F.cl pm F.c ctv
section
variable {CX : CXT} {P : Program} {w : World} {K : PySem.W.Frag} {mg : Str → Option Value} {base : Heap} {N ps fr : List Str} {F : NF} {f : Addr} {A : Around} {outer : List Env} {s : Shared} {H : Hp} {E : XK} {us : List Value} {vs : List V} {ws : List (Option V)} {Q : VK} {k : Nat} {body : Expr} {pm ctv : Value}
/-- a lambda called -/
theorem lam_call (S : NScope N ps fr F.scope) (ho : s.heap.get? f = some (lamO F body pm ctv)) (hc : H F.c = some (CodeO F.c F.qual)) (hb : ∀ us : List Value, us.length = ps.length → bindArgs (PySem.W.kla_fn "<lambda>" F.qual F.params body F.scope F.cl pm (.ref F.c) ctv) ⟨us, []⟩ = pure (ps.zip us))
    (hr : Room (k + 1) A) (e0 : Env0 P w K mg base A outer s H) (C : CellsAt F.cl fr ws s.heap H) (r : Vals vs us) (hl : vs.length = ps.length)
    (hbody : Room k (A.deeper (envF F f s.heap.objs.size)) → ∃ t, PE (ncx CX P w K mg base N F f A outer s H E) body t ∧ t (startF N vs ws) H Q) :
    codeAny (model P w) A (.call (.ref f) ⟨us, []⟩) (CR CX outer P w H s Q E) s := by
  have lim : s.heap.NoLimit := e0.mod.nolimit.keeps fun b o e => (e0.bs b o e).1
  refine PySem.W.kla_callFunE hr.depth ho rfl S.co S.gen rfl (codeO_at e0.hok hc) ?_
  rw [hb us (by rw [← r.length]; exact hl)]
  refine wpAny_pure (wpAny_newFunctionEnv S.nocell (fun ⟨n, _⟩ hy => S.par n (List.of_mem_zip hy).1) (fun h₁ hns hsb => ⟨lim.fresh _ hsb, ?_⟩) S.kind)
  show codeAny _ _ (.expr body (envF F f s.heap.objs.size)) _ _
  have kp : ∀ b o, s.heap.get? b = some o → h₁.get? b = some o := fun b o e => hsb.extBut b o (Nat.ne_of_lt (Heap.lt_size e)) (Heap.get?_push_of_some _ e)
  obtain ⟨t, ht, hq⟩ := hbody (hr.deeper _)
  have I : Inv (ncx CX P w K mg base N F f A outer s H E) [] (startF N vs ws) H { s with heap := h₁, toks := s.toks + (ps.zip us).length } := inv_startN S hr.hd e0 hl r C hns kp
  refine PySem.W.kla_codeExpr (wpAny_mono (ht.run [] _ (startF N vs ws) H _ I hq) (fun v s' hs => ?_) fun e s' hs => hs)
  obtain ⟨w', H', J, rv, q⟩ := hs
  exact ⟨w', H', J.os, J.bare, J.base, J.hok, rv, q⟩
end
/-- cells keep what they hold while others run -/
theorem cells_un {cl : List (Str × Addr)} {fr : List Str} {ws : List (Option V)} {h h' : Heap} {H H' : Hp} {fs : List Addr} (C : CellsAt cl fr ws h H) (un : Un fs [] H H' h h') : CellsAt cl fr ws h' H' := by
  have kp : ∀ y c, cl.lookup y = some c → ∀ v, h.IsCell c v → h'.IsCell c v := fun y c e v ⟨o, ho, hd⟩ => by
    obtain ⟨sl, q⟩ := un.any ho (C.all y c e).1 (by simp)
    exact ⟨_, q, hd⟩
  refine ⟨C.len, fun y c e => ?_, C.inj, fun i y e => ?_⟩
  · obtain ⟨n, v, z⟩ := C.all y c e
    refine ⟨?_, v, kp y c e v z⟩
    obtain ⟨o, ho, _⟩ := z
    exact un.free c o ho n (by simp)
  · obtain ⟨c, hc, hv⟩ := C.has i y e
    exact ⟨c, hc, fun v ev => by
      obtain ⟨u, r, z⟩ := hv v ev
      exact ⟨u, r, kp y c hc _ z⟩⟩
/-- where a def entered at (s, H) stands to a lambda made ahead of it -/
structure Lam (Z : Cx) (N ps fr : List Str) (F : NF) (f : Addr) (body : Expr) (ws : List (Option V)) : Prop where
  S : NScope N ps fr F.scope
  ob : ∃ pm ctv, Z.s_0.heap.get? f = some (lamO F body pm ctv)
  nH : Z.H_0 f = none
  nf : f ∉ Z.fs
  nx : Z.ex = []
  C : CellsAt F.cl fr ws Z.s_0.heap Z.H_0
  hb : ∀ (pm ctv : Value) (us : List Value), us.length = ps.length → bindArgs (PySem.W.kla_fn "<lambda>" F.qual F.params body F.scope F.cl pm (.ref F.c) ctv) ⟨us, []⟩ = pure (ps.zip us)
/-- what the body gives, run anywhere -/
def Body (P : Program) (w : World) (K : PySem.W.Frag) (mg : Str → Option Value) (base : Heap) (N : List Str) (F : NF) (body : Expr) (k : Nat) (t : TE) : Prop :=
  ∀ (f : Addr) (A : Around) (outer : List Env) (s : Shared) (H : Hp), Room k (A.deeper (envF F f s.heap.objs.size)) → PE (ncx C8.CX0 P w K mg base N F f A outer s H C8.E0) body t
/-- a(e ..), a the name that holds the lambda -/
def tAct (f : Addr) (F : NF) (i : Nat) (N : List Str) (ws : List (Option V)) (t : TE) (ta : TA) : TE := fun σ H Q => σ[i]? = some (some (.ref f)) ∧ ta σ H fun vs H1 => vs.length = 1 ∧ H1 F.c = some (CodeO F.c F.qual) ∧ t (startF N vs ws) H1 Q
theorem pe_act1 {Z : Cx} {N fr : List Str} {y : Str} {F : NF} {f : Addr} {body : Expr} {ws : List (Option V)} {k i : Nat} {t : TE} {ta : TA} {a : Str} {e : Expr} {p pos : Pos} (L : Lam Z N [y] fr F f body ws) (B : Body Z.prog Z.w Z.K Z.mg Z.base N F body k t) (hr : Room (k + 1) Z.A)
    (hN : Z.N[i]? = some a) (hv : Vis Z.env.scope a) (ha : PA Z [e] ta) (hd : (a == ("__debug__" : Str)) = false := by decide) (hcd : (a == ("__classdict__" : Str)) = false := by decide)
    (he : starEach [e] Z.env = (false, eval e Z.env) :: starEach [] Z.env := by rfl) (hpl : (backTo pos (starEach [] Z.env)).any (·.1) = false := by rfl) :
    PE Z (.Call (.Name a p) [e] [] pos) (tAct f F i N ws t ta) := by
  refine ⟨fun pins s σ H Q I h => ?_⟩
  obtain ⟨hs, ht⟩ := h
  obtain ⟨pm, ctv, ob⟩ := L.ob
  have at_ : ∀ {s1 : Shared} {σ1 : L2.St} {H1 : Hp}, Inv Z pins σ1 H1 s1 → s1.heap.get? f = some (lamO F body pm ctv) := fun {s1 σ1 H1} I1 => I1.base.keep f _ ob L.nH L.nf (by rw [L.nx]; simp)
  refine wpAny_Call_Name_kw (thn ((pe_var (pos := p) hN hv hd hcd).run pins s σ H (fun v H1 => v = .ref f ∧ H1 = H) I ⟨.ref f, hs, rfl, rfl⟩) fun u s1 ⟨v, H1, I1, r1, q1⟩ => ?_)
  obtain ⟨ev, eH⟩ := q1
  subst ev
  rw [eH] at I1
  obtain rfl : u = Value.ref f := r1
  refine PySem.W.callWith_F (first := []) ⟨_, _, _, _, at_ I1⟩ (thn (ha.run pos pins s1 σ H _ I1 ht) fun us s2 ⟨vs, H2, I2, r, hl, hc, q⟩ => ⟨⟨_, _, _, _, at_ I2⟩, ?_⟩) he hpl
  show wpAny _ _ (call (.ref f) us) _ _ _
  have un := I2.base
  rw [L.nx] at un
  have rc := lam_call (CX := C8.CX0) (E := C8.E0) (N := N) (f := f) (Q := Q) L.S (at_ I2) hc (L.hb pm ctv) hr I2.env0 (cells_un L.C un) r hl fun hr2 => ⟨t, B f Z.A Z.stack s2 H2 hr2, q⟩
  refine wpAny_call (codeAny_mono rc fun r s' hq => ?_)
  cases r with
  | error e => exact (show False from hq).elim
  | ok fl =>
    cases fl with
    | ret u => exact I2.after hq
    | next => exact False.elim hq
    | brk => exact False.elim hq
    | cont => exact False.elim hq
/-- the lambda that X makes, with its code object at c' -/
abbrev lamF (X : Cx) (params : Arguments) (scope : Scope) (c' : Addr) : NF := ⟨"<lambda>", X.env.qual ++ "<lambda>", params, [], scope, cloFrom X.env.cells scope.names [], c'⟩
/-- g(e, lambda y: body): what is asked of g, told of the lambda at f -/
def tLam2 (H00 : Hp) (T : List (Addr × Str)) (q : Str) (js : List Nat) (ta : TE) (TT : Addr → Addr → List (Option V) → V → Hp → VK → Prop) : TE := fun σ H Q => ta σ H fun v H0 =>
  Tabs T H0 ∧ ∀ (f c' : Addr) (H1 : Hp), ExtN H0 H1 → (∀ b ps, H00 b = some (.tbl ps) → H1 b ≠ none) → Tabs T H1 → H1 f = none → H1 c' = some (CodeO c' q) → TT c' f (js.map (slotAt σ)) v H1 Q
theorem pe_lam2 {X : Cx} {T : List (Addr × Str)} {x a0 a1 y : Str} {st : Stmt} {g c P : Addr} {fd : FuncData} {Ng N fr : List Str} {js : List Nat} {k : Nat} {params : Arguments} {body : Expr} {scope : Scope} {ta : TE} {TT : Addr → Addr → List (Option V) → V → Hp → VK → Prop} {e : Expr} {p lpos pos : Pos}
    (hg : Gl X x) (hm : X.mg x = some (.ref g)) (Fg : Fun X.K x x st g fd) (hb : L2.Binds X.K fd [a0, a1] []) (Sg : FnScope Ng [a0, a1] (defScope st))
    (TB : TabB X.base X.mg c P) (hcode : X.env.code = .ref c) (hmT : (P, X.env.qual ++ "<lambda>") ∈ T) (hu : ∀ p ∈ T, p.1 = P → p.2 = X.env.qual ++ "<lambda>") (hr : Room (k + 1) X.A)
    (hdef : defaultsOf params X.env = ([], [])) (hfree : ∀ y ∈ scope.names, y.2 = .free → X.env.scope.names.lookup y.1 = some .cell ∨ X.env.scope.names.lookup y.1 = some .free) (SL : NScope N [y] fr scope) (hfr : ∀ y ∈ fr, (y, NameKind.free) ∈ scope.names) (hjs : js.map (fun j => X.N[j]?) = fr.map some)
    (hbind : ∀ (q : Str) (cl : List (Str × Addr)) (pm cv ctv : Value) (us : List Value), us.length = 1 → bindArgs (PySem.W.kla_fn "<lambda>" q params body scope cl pm cv ctv) ⟨us, []⟩ = pure ([y].zip us))
    (ha : PE X e ta)
    (hG : ∀ (cdv : Value) (f c' : Addr) (s' : Shared) (H1 : Hp) (v : V) (ws : List (Option V)) (Q : VK), Room k (X.A.deeper (envOfC x (defScope st) s'.heap.objs.size g cdv)) →
      Lam (cxOf L2.CX0 X.prog X.w X.K X.mg X.base Ng x (defScope st) g cdv X.A X.stack s' H1 L2.E0).nox N [y] fr (lamF X params scope c') f body ws → TT c' f ws v H1 Q →
      ∃ tb, PSs (cxOf L2.CX0 X.prog X.w X.K X.mg X.base Ng x (defScope st) g cdv X.A X.stack s' H1 L2.E0).nox (defBody st) tb ∧ tb { nx := fun _ H' => Q .non H', rt := Q } (L2.start Ng [v, .ref f]) H1)
    (hdb : (x == ("__debug__" : Str)) = false := by decide) (hs1 : starEach [e, .Lambda params body scope lpos] X.env = (false, eval e X.env) :: starEach [.Lambda params body scope lpos] X.env := by rfl) :
    PE X (.Call (.Name x p) [e, .Lambda params body scope lpos] [] pos) (tLam2 X.H_0 T (X.env.qual ++ "<lambda>") js ta TT) := by
  refine ⟨fun pins s σ H Q I h => ?_⟩
  refine wpAny_Call_Name_kw (ld_glob I hg hm ?_ hdb)
  refine PySem.W.callWith_K (h₀ := X.base) I.ok.mod.kin Fg.kp ?_ hs1 (by rfl)
  rw [hs1]
  show wpAny _ _ (spliced ((false, eval e X.env) :: backTo pos (starEach [.Lambda params body scope lpos] X.env))) _ _ s
  refine Calls.spliced_cons (thn (ha.run pins s σ H _ I h) fun u0 s1 ⟨v, H0, I1, r0, hT, hq⟩ => ?_)
  show wpAny _ _ (spliced ((false, eval (.Lambda params body scope lpos) X.env) :: backTo pos (starEach [] X.env))) _ _ s1
  refine Calls.spliced_cons (lam_make2 I1 TB hcode hmT hu hT hdef (fun z hz e => (hfree z hz e).elim (fun k => I1.ok.has _ (.inl k)) fun k => I1.ok.has _ (.inr k)) fun f c' pm' ctv H1 s' I2 eN T1 hf hfn hfr' hco => ?_)
  refine Calls.spliced_nil ⟨I2.kIn, ?_⟩
  have C : CellsAt (cloFrom X.env.cells scope.names []) fr (js.map (slotAt σ)) s'.heap H1 := cells_of I2 (Caps.made I2.ok hfree hfr hjs)
  obtain ⟨oc, od, kV, doc, pm, an, cdv, ct, osl, rfl, lk, hcd⟩ := Fg.ex
  have rc : codeAny (model X.prog X.w) X.A (.call (.ref g) ⟨[u0, .ref f], []⟩) (CR L2.CX0 X.stack X.prog X.w H1 s' Q L2.E0) s' := by
    refine run_ofS (N := Ng) (ps := [a0, a1]) (us := [u0, .ref f]) (vs := [v, .ref f]) lk hcd Sg hr I2.env0 (hb s' [u0, .ref f] I2.kIn rfl) (.cons r0 (.cons rfl .nil)) rfl fun hr' => ?_
    obtain ⟨t', ht', hq'⟩ := hG cdv f c' s' H1 v _ Q hr' ⟨SL, ⟨_, _, hf⟩, hfn, hfr', rfl, C, fun pm ctv us hl => hbind _ _ _ _ _ us hl⟩ (hq f c' H1 eN (fun b ps eb z => by
      obtain ⟨more, e2⟩ := I2.base.tbls b ps eb
      rw [z] at e2
      cases e2) T1 hfn hco)
    exact ⟨t', ht'.nox, hq'⟩
  refine wpAny_call (codeAny_mono rc fun r s2 hq => ?_)
  cases r with
  | error e => exact (show False from hq).elim
  | ok fl =>
    cases fl with
    | ret u => exact I2.after hq
    | next => exact False.elim hq
    | brk => exact False.elim hq
    | cont => exact False.elim hq
end LamQ
set_option Elab.async false
set_option linter.all false
set_option maxRecDepth 100000
namespace TW
open PySem PySem.Spec PyProof.Rows L2 TL LamX NdefX LamQ
abbrev S_normal_form : Stmt := topS 23
abbrev N_normal_form : List Str := ["fields", "objects", "names", "numbers", "renumbered", "field", "old", "name"]
abbrev P_normal_form : List Str := ["fields", "objects", "names"]
theorem sc_normal_form : FnScope N_normal_form P_normal_form (defScope S_normal_form) := ⟨rfl, rfl, rfl, by decide +kernel, rfl, by decide +kernel, by decide +kernel⟩
/-- the lambda that normal_form hands on -/
def L_nf : Expr := match defBody S_normal_form with
  | .Assign _ (.Call _ [_, l] _ _) _ :: _ => l
  | _ => .Name "x" ⟨0, 0, 0, 0⟩
def lamScope : Expr → Scope
  | .Lambda _ _ sc _ => sc
  | _ => { kind := .function, names := [], isGenerator := false, isCoroutine := false }
def lamBody : Expr → Expr
  | .Lambda _ b _ _ => b
  | e => e
def lamArgs : Expr → Arguments
  | .Lambda a _ _ _ => a
  | _ => { posonlyargs := [], args := [], vararg := none, kwonlyargs := [], kw_defaults := [], kwarg := none, defaults := [] }
def lamPos : Expr → Pos
  | .Lambda _ _ _ p => p
  | _ => ⟨0, 0, 0, 0⟩
def N_lam : List Str := ["fresh", "objects", "fields", "one", "field"]
theorem L_nf_eq : L_nf = .Lambda (lamArgs L_nf) (lamBody L_nf) (lamScope L_nf) (lamPos L_nf) := by rfl
theorem sc_lam : NScope N_lam ["fresh"] ["objects", "fields"] (lamScope L_nf) := nscope_by (by decide +kernel)
section
variable {P : Program} {w : World} {K : PySem.W.Frag} {mg : Str → Option Value} {base : Heap} {X : Cx}
def tLamB (K : PySem.W.Frag) : TE := tLc2 (iList K (tVar 0)) (gName 3) tYes (iTup K (tVar 2)) (gName 4) tYes (tDGet (tOp (rIxL K) (tVar 1) (tVar 3)) (tVar 4)) [3, 4] [4]
theorem lam_body {k : Nat} {F : NF} (hs : F.scope = lamScope L_nf) : Body P w K mg base N_lam F (lamBody L_nf) k (tLamB K) := by
  intro f A outer s H hr
  obtain ⟨nm, qu, pa, bd, sc, cl, c⟩ := F
  cases hs
  have hu := hu_of hr
  exact (pe_lc2 (own := [("one", 3), ("field", 4)]) (vs1 := [4]) (g := gName 3) (g1 := gName 4) (tt := tYes) (tt1 := tYes) rfl sc_lam.nd (pi_list (pv 0)) (blkOk_by (own := [("one", 3), ("field", 4)]) (N := N_lam) (sc := lamScope L_nf) (by decide +kernel)) (by decide) (fun _ _ _ _ _ => pg_name (i := 3) sc_lam.nd rfl (by first | exact Or.inl rfl | exact Or.inr rfl)) (fun _ _ _ _ _ => pts_nil) (fun _ _ _ _ _ => (pi_tupK (K := K) rfl (pv 2))) (fun _ _ _ _ _ => pg_name (i := 4) sc_lam.nd rfl (by first | exact Or.inl rfl | exact Or.inr rfl)) (fun _ _ _ _ _ => pts_nil) (fun _ _ _ _ _ => (pe_dget hu (pe_ix (ix_listK (K := K) rfl) (pv 1) (pv 3) (fun _ _ => rfl)) (pv 4) (fun _ _ => rfl))))
end
end TW
set_option Elab.async false
set_option linter.all false
set_option maxRecDepth 100000
namespace TW
open PySem PySem.Spec PyProof.Rows L2 TL LamX NdefX LamQ
/-! ### the mirror of the numbering -/
def fld (os : List Ob) (k : Nat) (f : Str) : Option Nat := ((os[k]?).bind (·.lookup f)).join
def meet (ord : List Nat) (v : Option Nat) : List Nat := match v with
  | none => ord
  | some k => if k ∈ ord then ord else ord ++ [k]
def kids (os : List Ob) (fs : List Str) (k : Nat) : List (Option Nat) := fs.map (fld os k)
/-- one round: the numbers so far, the edge -/
def lvl (os : List Ob) (fs : List Str) (s : List Nat × List (Option Nat)) : List Nat × List (Option Nat) :=
  let o := s.2.foldl meet s.1
  (o, (o.drop s.1.length).flatMap (kids os fs))
def lvs (os : List Ob) (fs : List Str) (e : List (Option Nat)) : Nat → List Nat × List (Option Nat)
  | 0 => ([], e)
  | j + 1 => lvl os fs (lvs os fs e j)
def nmv (l : Ob) (n : Str) : Option Nat := (l.lookup n).join
/-- a dict from the old to the new numbers -/
def nk (ord : List Nat) : List (Key × V) := ord.zipIdx.map fun p => ((Sum.inl (p.1 : Int) : Key), V.int (p.2 : Int))
theorem nk_len (ord : List Nat) : (nk ord).length = ord.length := by unfold nk; rw [List.length_map, List.length_zipIdx]
theorem nk_snoc (ord : List Nat) (k : Nat) : nk (ord ++ [k]) = nk ord ++ [((Sum.inl (k : Int) : Key), V.int (ord.length : Int))] := by
  unfold nk
  rw [List.zipIdx_append, List.map_append]
  simp
theorem idx_ne {x k : Nat} {r : List Nat} (h : x ≠ k) : (x :: r).idxOf k = r.idxOf k + 1 := by
  rw [List.idxOf_cons]
  have : (x == k) = false := by simpa using h
  rw [this]
  rfl
theorem nk_at (k : Nat) : ∀ (ord : List Nat) (j : Nat), valV ((ord.zipIdx j).map fun p => ((Sum.inl (p.1 : Int) : Key), V.int (p.2 : Int))) (Sum.inl (k : Int) : Key) = if k ∈ ord then some (V.int ((j + ord.idxOf k : Nat) : Int)) else none
  | [], j => rfl
  | x :: r, j => by
    rw [List.zipIdx_cons, List.map_cons]
    by_cases h : x = k
    · subst h
      rw [valV_pos rfl, if_pos (List.mem_cons_self ..), List.idxOf_cons_self]
      rfl
    · rw [valV_neg (fun e => h (by injection e with e; omega)), nk_at k r (j + 1)]
      by_cases m : k ∈ r
      · rw [if_pos m, if_pos (List.mem_cons_of_mem _ m), idx_ne h]
        congr 3
        omega
      · rw [if_neg m, if_neg (fun z => by rcases List.mem_cons.mp z with z | z; exact h z.symm; exact m z)]
theorem nk_val (ord : List Nat) (k : Nat) : valV (nk ord) (Sum.inl (k : Int) : Key) = if k ∈ ord then some (V.int (ord.idxOf k : Int)) else none := by
  have := nk_at k ord 0
  rw [Nat.zero_add] at this
  exact this
theorem meet_in {ord : List Nat} {v : Option Nat} {n : Nat} (h : ∀ k ∈ ord, k < n) (hv : okv n v) : ∀ k ∈ meet ord v, k < n := by
  cases v with
  | none => exact h
  | some i =>
    unfold meet
    dsimp only
    split
    · exact h
    · intro k hk
      rcases List.mem_append.mp hk with hk | hk
      · exact h k hk
      · rw [List.mem_singleton.mp hk]; exact hv
theorem meet_nd {ord : List Nat} {v : Option Nat} (h : ord.Nodup) : (meet ord v).Nodup := by
  cases v with
  | none => exact h
  | some i =>
    unfold meet
    dsimp only
    split
    · exact h
    · rename_i hi
      refine List.nodup_append.mpr ⟨h, by simp, fun x hx y hy => ?_⟩
      rw [List.mem_singleton.mp hy]
      exact fun e => hi (by rw [← e]; exact hx)
theorem meets_pre (vs : List (Option Nat)) : ∀ ord : List Nat, ∃ t, vs.foldl meet ord = ord ++ t := by
  induction vs with
  | nil => exact fun ord => ⟨[], (List.append_nil _).symm⟩
  | cons v vs ih =>
    intro ord
    obtain ⟨t, ht⟩ := ih (meet ord v)
    have : ∃ u, meet ord v = ord ++ u := by
      cases v with
      | none => exact ⟨[], (List.append_nil _).symm⟩
      | some k =>
        unfold meet
        dsimp only
        split
        · exact ⟨[], (List.append_nil _).symm⟩
        · exact ⟨[k], rfl⟩
    obtain ⟨u, hu⟩ := this
    exact ⟨u ++ t, by rw [List.foldl_cons, ht, hu, List.append_assoc]⟩
theorem okv_fld {os : List Ob} {n : Nat} (h : ∀ o ∈ os, okl n o) (k : Nat) (f : Str) : okv n (fld os k f) := by
  unfold fld
  cases e : os[k]? with
  | none => trivial
  | some o =>
    show okv n ((o.lookup f).join)
    cases e2 : o.lookup f with
    | none => trivial
    | some v =>
      have hm : (f, v) ∈ o := by
        clear e h
        induction o with
        | nil => cases e2
        | cons p r ih =>
          obtain ⟨g, u⟩ := p
          rw [List.lookup_cons] at e2
          cases z : f == g with
          | true =>
            rw [z] at e2
            have : f = g := by simpa using z
            rw [this, ← Option.some.inj e2]
            exact List.mem_cons_self ..
          | false =>
            rw [z] at e2
            exact List.mem_cons_of_mem _ (ih e2)
      exact h o (List.mem_of_getElem? e) _ hm
theorem okv_look {l : Ob} {n : Nat} (h : okl n l) (f : Str) : okv n (nmv l f) := by
  have := okv_fld (os := [l]) (n := n) (fun o ho => by rw [List.mem_singleton.mp ho]; exact h) 0 f
  exact this
theorem lc2_go {K : PySem.W.Frag} {a b : Addr} {xs ys : List V} {o p ib : Nat} {te : TE} {vs vs1 : List Nat} {σ : St'} {H1 : Hp} {D : Addr} {Qd : Hp → Prop} (Pv : Nat → Nat → Hp → Prop)
    (hw : ∀ x, wipe ((wipe σ vs).set o (some x)) vs = wipe σ vs) (hb : ∀ x, ((wipe σ vs).set o (some x))[ib]? = some (some (.ref b)))
    (hw1 : ∀ x y, wipe ((wipe ((wipe σ vs).set o (some x)) vs1).set p (some y)) vs1 = wipe ((wipe σ vs).set o (some x)) vs1)
    (h0 : Pv 0 0 (upd H1 D (.lst []))) (hl : ∀ i H, Pv i 0 H → SqL K H a xs) (ht : ∀ i j H, Pv i j H → SqT K H b ys)
    (step : ∀ i H, i < xs.length → Pv i ys.length H → Pv (i + 1) 0 H)
    (hs : ∀ i j x y H, xs[i]? = some x → ys[j]? = some y → Pv i j H → te ((wipe ((wipe σ vs).set o (some x)) vs1).set p (some y)) H fun v H7 => ∃ acc, H7 D = some (.lst acc) ∧ acc.length < sizeLine ∧ Pv i (j + 1) (upd H7 D (.lst (acc ++ [v]))))
    (hd : ∀ H, Pv xs.length 0 H → Qd H) :
    ∃ W : Nat → Nat → Hp → Prop, (∃ m, W 0 m (upd H1 D (.lst []))) ∧ ∀ i m H, W i m H →
      ((Itl K a).stop i H ∧ Qd H) ∨ ((Itl K a).go i H ∧ ∃ Nx : Hp → Prop, (∀ H', Nx H' → ∃ m', m' < m ∧ W (i + 1) m' H') ∧ ∀ x H', (Itl K a).yld i H x H' → gName o x (wipe σ vs) H' fun σ2 H2 => wipe σ2 vs = wipe σ vs ∧ tYes σ2 H2 fun c H3 =>
        if c = true then iTup K (tVar ib) σ2 H3 fun J1 H4 => ∃ W1 : Nat → Nat → Hp → Prop, (∃ m, W1 0 m H4) ∧ ∀ j k H, W1 j k H →
          (J1.stop j H ∧ Nx H) ∨ (J1.go j H ∧ ∃ Nx1 : Hp → Prop, (∀ H', Nx1 H' → ∃ k', k' < k ∧ W1 (j + 1) k' H') ∧ ∀ x H', J1.yld j H x H' → gName p x (wipe σ2 vs1) H' fun σ3 H5 => wipe σ3 vs1 = wipe σ2 vs1 ∧ tYes σ3 H5 fun c H6 =>
            if c = true then te σ3 H6 fun y H7 => ∃ acc, H7 D = some (.lst acc) ∧ acc.length < sizeLine ∧ Nx1 (upd H7 D (.lst (acc ++ [y]))) else Nx1 H6)
        else Nx H3) := by
  refine ⟨fun i m H => m = xs.length - i ∧ i ≤ xs.length ∧ Pv i 0 H, ⟨_, rfl, Nat.zero_le _, h0⟩, ?_⟩
  rintro i m H ⟨rfl, hi, pv⟩
  have q := hl i H pv
  by_cases lt : i < xs.length
  · refine .inr ⟨⟨xs, xs[i], q, List.getElem?_eq_getElem lt⟩, Pv (i + 1) 0, fun H' p' => ⟨xs.length - (i + 1), by omega, rfl, lt, p'⟩, fun x H' hy => ?_⟩
    obtain ⟨e, y⟩ := hy
    subst e
    have hx := y xs q
    refine ⟨hw x, yes_of ⟨_, hb x, b, rfl, ⟨_, ht i 0 H' pv⟩, fun j k H2 => k = ys.length - j ∧ j ≤ ys.length ∧ Pv i j H2, ⟨_, rfl, Nat.zero_le _, pv⟩, ?_⟩⟩
    rintro j k H2 ⟨rfl, hj, pv2⟩
    have q2 := ht i j H2 pv2
    by_cases lt2 : j < ys.length
    · refine .inr ⟨⟨ys, ys[j], q2, List.getElem?_eq_getElem lt2⟩, Pv i (j + 1), fun H' p' => ⟨ys.length - (j + 1), by omega, rfl, lt2, p'⟩, fun z H3 hz => ?_⟩
      obtain ⟨e, y2⟩ := hz
      subst e
      exact ⟨hw1 x z, yes_of (hs i j x z H3 hx (y2 ys q2) pv2)⟩
    · have e : j = ys.length := by omega
      subst e
      exact .inl ⟨⟨ys, q2, Nat.le_refl _⟩, step i H2 lt pv2⟩
  · have e : i = xs.length := by omega
    subst e
    exact .inl ⟨⟨xs, q, Nat.le_refl _⟩, hd H pv⟩
theorem get_hv {vs : List (Option Nat)} {i : Nat} {x : V} (hx : (vs.map hv)[i]? = some x) : ∃ v, vs[i]? = some v ∧ x = hv v := by
  rw [List.getElem?_map] at hx
  cases e : vs[i]? with
  | none => rw [e] at hx; cases hx
  | some z => rw [e] at hx; exact ⟨z, rfl, (Option.some.inj hx).symm⟩
theorem get_nat {vs : List Nat} {i : Nat} {x : V} (hx : (vs.map fun k : Nat => V.int (k : Int))[i]? = some x) : ∃ v, vs[i]? = some v ∧ x = V.int (v : Int) := by
  rw [List.getElem?_map] at hx
  cases e : vs[i]? with
  | none => rw [e] at hx; cases hx
  | some z => rw [e] at hx; exact ⟨z, rfl, (Option.some.inj hx).symm⟩
theorem dget_dk {H : Hp} {a : Addr} {kvs : List (Key × V)} {k : Key} {v : V} (e : H a = some (.dK kvs)) (h : valV kvs k = some v) : DGet H a (kV k) (some v) := h ▸ DGet.k e
theorem lookup_some {k : Str} : ∀ {l : List (Str × Option Nat)}, k ∈ l.map (·.1) → ∃ v, l.lookup k = some v
  | [], h => by simp at h
  | (f, v) :: l, h => by
    rw [List.lookup_cons]
    cases e : k == f with
    | true => exact ⟨v, rfl⟩
    | false =>
      rcases List.mem_cons.mp h with h | h
      · subst h; simp at e
      · exact lookup_some h
theorem nmv_val {l : Ob} {z : Str} (h : z ∈ l.map (·.1)) : valV (dk l) (Sum.inr z : Key) = some (hv (nmv l z)) := by
  obtain ⟨v, e⟩ := lookup_some h
  rw [dk_valV]
  unfold nmv
  rw [e]
  rfl
theorem fld_val {os : List Ob} {k : Nat} {o : Ob} {f : Str} (ho : os[k]? = some o) (h : f ∈ o.map (·.1)) : valV (dk o) (Sum.inr f : Key) = some (hv (fld os k f)) := by
  have := nmv_val h
  unfold fld
  rw [ho]
  exact this
theorem flat_take {α β : Type} {xs : List α} {i : Nat} {x : α} (h : xs[i]? = some x) (g : α → List β) : (xs.take (i + 1)).flatMap g = (xs.take i).flatMap g ++ g x := by
  rw [take_next' h, List.flatMap_append]
  simp
theorem flat_len {os : List Ob} {fs : List Str} : ∀ ks : List Nat, (ks.flatMap (kids os fs)).length = ks.length * fs.length
  | [] => by simp
  | k :: ks => by
    have ih := flat_len (os := os) (fs := fs) ks
    rw [List.flatMap_cons, List.length_append, ih, List.length_cons]
    unfold kids
    rw [List.length_map, Nat.succ_mul]
    omega
theorem nd_len {ks : List Nat} {n : Nat} (nd : ks.Nodup) (h : ∀ k ∈ ks, k < n) : ks.length ≤ n := by
  have := len_le_of_sub ks (List.range n) nd fun x hx => List.mem_range.mpr (h x hx)
  rwa [List.length_range] at this
/-- the edge in the making -/
def part (os : List Ob) (fs : List Str) (fr : List Nat) (i j : Nat) : List (Option Nat) := (fr.take i).flatMap (kids os fs) ++ (match fr[i]? with
  | some k => (fs.take j).map (fld os k)
  | none => [])
theorem part_00 (os : List Ob) (fs : List Str) (fr : List Nat) : part os fs fr 0 0 = [] := by
  unfold part
  cases fr <;> rfl
theorem part_end {os : List Ob} {fs : List Str} {fr : List Nat} {i : Nat} (h : i < fr.length) : part os fs fr i fs.length = part os fs fr (i + 1) 0 := by
  unfold part
  rw [List.getElem?_eq_getElem h, flat_take (List.getElem?_eq_getElem h)]
  dsimp only
  rw [List.take_length]
  have : (match fr[i + 1]? with | some k => (fs.take 0).map (fld os k) | none => []) = ([] : List (Option Nat)) := by
    cases fr[i + 1]? <;> rfl
  rw [this, List.append_nil]
  rfl
theorem part_next {os : List Ob} {fs : List Str} {fr : List Nat} {i j k : Nat} {f : Str} (h : fr[i]? = some k) (hf : fs[j]? = some f) : part os fs fr i (j + 1) = part os fs fr i j ++ [fld os k f] := by
  unfold part
  rw [h]
  dsimp only
  rw [take_next' hf, List.map_append, List.append_assoc]
  rfl
theorem part_all (os : List Ob) (fs : List Str) (fr : List Nat) : part os fs fr fr.length 0 = fr.flatMap (kids os fs) := by
  unfold part
  rw [List.take_length, List.getElem?_eq_none (Nat.le_refl _), List.append_nil]
theorem part_len (os : List Ob) (fs : List Str) (fr : List Nat) (i j : Nat) : (part os fs fr i j).length ≤ fr.length * fs.length + fs.length := by
  unfold part
  rw [List.length_append, flat_len, List.length_take]
  have h1 : min i fr.length * fs.length ≤ fr.length * fs.length := Nat.mul_le_mul_right _ (Nat.min_le_right _ _)
  have h2 : (match fr[i]? with | some k => (fs.take j).map (fld os k) | none => []).length ≤ fs.length := by
    cases fr[i]? with
    | none => exact Nat.zero_le _
    | some k =>
      show ((fs.take j).map (fld os k)).length ≤ _
      rw [List.length_map, List.length_take]
      exact Nat.min_le_right _ _
  omega
/-- what new_numbers is asked, told of the lambda at fl -/
def spNL (K : PySem.W.Frag) (F : NF) (fl : Addr) (ws : List (Option V)) (v : V) (H : Hp) (Q : VK) : Prop := ∃ (aF aO aN : Addr) (fs : List Str) (ds : List Addr) (os : List Ob) (l : Ob), v = .ref aN ∧ ws = [some (.ref aO), some (.ref aF)] ∧ H F.c = some (CodeO F.c F.qual) ∧ SqT K H aF (fs.map V.str) ∧ fs.length ≤ 1000 ∧ ObjsAt H aO ds fs os.length os ∧ os.length ≤ 1000 ∧
  H aN = some (.dK (dk l)) ∧ (l.map (·.1)).Nodup ∧ l.length < 64 ∧ okl os.length l ∧
  ∀ (d : Addr) (ys : List Str) (j : Nat) (ord : List Nat) (H' : Hp), Same H H' → H d = none → H' d = some (.dK (nk ord)) → ys.Perm (l.map (·.1)) → sortedS ys = true → lvs os fs (ys.map (nmv l)) j = (ord, []) → ord.Nodup → (∀ k ∈ ord, k < os.length) → Q (.ref d) H'
abbrev S_new_numbers : Stmt := topS 24
abbrev N_new_numbers : List Str := ["names", "held_by", "numbers", "met", "name", "fresh", "number"]
abbrev P_new_numbers : List Str := ["names", "held_by"]
theorem sc_new_numbers : FnScope N_new_numbers P_new_numbers (defScope S_new_numbers) := ⟨rfl, rfl, rfl, by decide +kernel, rfl, by decide +kernel, by decide +kernel⟩
section
variable {P : Program} {w : World} {K : PySem.W.Frag} {mg : Str → Option Value} {base : Heap}
set_option maxHeartbeats 8000000 in
theorem ok_new_numbers {cdv : Value} {A : Around} {outer : List Env} {s : Shared} {H : Hp} {g fl : Addr} {F : NF} {ws : List (Option V)} {v : V} {Q : VK} (B : Bl mg) (hs : F.scope = lamScope L_nf)
    (L : Lam (cxOf CX0 P w K mg base N_new_numbers "new_numbers" (defScope S_new_numbers) g cdv A outer s H E0).nox N_lam ["fresh"] ["objects", "fields"] F fl (lamBody L_nf) ws) (hr : Room 1 (A.deeper (envOfC "new_numbers" (defScope S_new_numbers) s.heap.objs.size g cdv))) (h : spNL K F fl ws v H Q) :
    ∃ tb, PSs (cxOf CX0 P w K mg base N_new_numbers "new_numbers" (defScope S_new_numbers) g cdv A outer s H E0).nox (defBody S_new_numbers) tb ∧ tb { nx := fun _ H' => Q .non H', rt := Q } (L2.start N_new_numbers [v, .ref fl]) H := by
    obtain ⟨aF, aO, aN, fs, ds, os, l, rfl, rfl, hco, hF, hfs, O, hos, hN, nd, h64, hl, k⟩ := h
    have hu := hu_of hr
    refine ⟨_, (pss_cons (ps_set (i := 2) sc_new_numbers.nd rfl (by first | exact Or.inl rfl | exact Or.inr rfl) pe_dnewK)
 (pss_cons (ps_setLc (i := 3) (own := [("name", 4)]) (g := gName 4) (tt := tYes) rfl sc_new_numbers.nd rfl rfl (sw_true rfl rfl rfl (by decide +kernel)) (pi_list (pe_callB (call_sortedD rfl) (by rfl) B.m_sorted (by decide +kernel) (pa_cons (pv 0) pa_nil))) (blkOk_by (own := [("name", 4)]) (N := N_new_numbers) (sc := defScope S_new_numbers) (by decide +kernel)) (fun _ _ _ _ _ => (pg_name (i := 4) sc_new_numbers.nd rfl (by first | exact Or.inl rfl | exact Or.inr rfl))) (fun _ _ _ _ _ => pts_nil) (fun _ _ _ _ _ => (pe_dget hu (pv 0) (pv 4) (fun _ _ => rfl))))
 (pss_cons (ps_while PassesOwn.never (pt_truth (pv 3) (by intro _; rfl)) (pss_cons (ps_set (i := 5) sc_new_numbers.nd rfl (by first | exact Or.inl rfl | exact Or.inr rfl) (pe_lst pa_nil))
 (pss_cons (ps_for PassesOwn.never rfl (pi_list (pv 3)) (pg_name (i := 6) sc_new_numbers.nd rfl (by first | exact Or.inl rfl | exact Or.inr rfl)) (pss_one (ps_if (PW.pt (pw_and (pt_cmpR op_notN (pv 6) pe_non (nomark _)) (pw_and1 (pt_cmp (pc_dnotin hu (pv 6) (pv 2)))))) (pss_cons (ps_dput hu (pv 2) (pv 6) (pe_callB call_lenD (by rfl) B.m_len PySem.boot_len (pa_cons (pv 2) pa_nil)) rfl)
 (pss_one (ps_expr (pe_bm PySem.F.plainAttrs_list PySem.F.slot_list_append PySem.F.type_list_append mt_append (pv 5) (pa_cons (pv 6) pa_nil))))) pss_nil)))
 (pss_one (ps_set (i := 3) sc_new_numbers.nd rfl (by first | exact Or.inl rfl | exact Or.inr rfl) (pe_act1 (i := 1) L (lam_body (k := 0) hs) hr rfl (Or.inl rfl) (pa_cons (pv 5) pa_nil)))))))
 (pss_one (ps_ret (pv 2)))))), ?_⟩
    intro d hd
    have s1 : Same H (upd H d (.dK [])) := same_new hd
    -- edge = [names[name] for name in sorted(names)]
    refine ⟨_, rfl, aN, dk l, l.map (·.1), rfl, .inl (s1 _ _ hN), by unfold dk; rw [List.map_map, List.map_map]; rfl, by rw [List.length_map]; exact h64, fun ys p perm srt hp => ⟨p, rfl, ⟨_, SqL.of upd_same⟩, fun D hD => ?_⟩⟩
    have hym : ∀ z ∈ ys, z ∈ l.map (·.1) := fun z hz => perm.mem_iff.mp hz
    have hyl : ys.length < 64 := by rw [perm.length_eq, List.length_map]; exact h64
    have hd1 : (upd H d (.dK [])) d = some (.dK []) := upd_same
    have s2 : Same (upd H d (.dK [])) (upd (upd H d (.dK [])) p (.lst (ys.map V.str))) := same_new hp
    refine lc_list (xs := ys.map V.str) (fun i H2 => Same (upd (upd H d (.dK [])) p (.lst (ys.map V.str))) H2 ∧ H2 D = some (.lst (((ys.take i).map (nmv l)).map hv))) ⟨same_new hD, upd_same⟩ (fun i H2 _ h => SqL.of (h.1 _ _ upd_same)) ?_ ?_
    · rintro i x H2 hx ⟨s3, h2⟩
      obtain ⟨z, hz, rfl⟩ := get_str hx
      refine ⟨rfl, yes_of ?_⟩
      have hN2 := s3 _ _ (s2 _ _ (s1 _ _ hN))
      refine ⟨_, rfl, _, rfl, aN, hv (nmv l z), rfl, dget_dk (k := (Sum.inr z : Key)) hN2 (nmv_val (hym z (List.mem_of_getElem? hz))), _, h2, ?_, ?_⟩
      · rw [List.length_map, List.length_map, List.length_take]
        exact small1000 (by omega)
      · refine ⟨fun b o e => by rw [upd_ne (ne_of_none e hD)]; exact s3 _ _ e, ?_⟩
        rw [upd_same, take_next' hz, List.map_append, List.map_append]
        rfl
    · rintro H2 ⟨s3, h2⟩
      rw [List.length_map, List.take_length] at h2
      have hDd : d ≠ D := ne_of_none (s2 _ _ hd1) hD
      have S0 : Same H H2 := fun b o e => s3 _ _ (s2 _ _ (s1 _ _ e))
      have hd2 : H2 d = some (.dK []) := s3 _ _ (s2 _ _ hd1)
      -- while edge
      refine ⟨fun m σ H3 => ∃ (j : Nat) (ord : List Nat) (edge : List (Option Nat)) (E : Addr) (z4 z5 z6 : Option V), σ = [some (.ref aN), some (.ref fl), some (.ref d), some (.ref E), z4, z5, z6] ∧
        lvs os fs (ys.map (nmv l)) j = (ord, edge) ∧ ord.Nodup ∧ (∀ k ∈ ord, k < os.length) ∧ (∀ v ∈ edge, okv os.length v) ∧ edge.length ≤ 1000000 ∧ H3 d = some (.dK (nk ord)) ∧ H3 E = some (.lst (edge.map hv)) ∧ Same H H3 ∧
        m = 2 * (os.length - ord.length) + (if edge = [] then 0 else 1), ⟨_, 0, [], ys.map (nmv l), D, _, _, _, rfl, rfl, List.nodup_nil, fun k hk => (nomatch hk), ?_, ?_, hd2, h2, S0, rfl⟩, ?_⟩
      · intro v hv'
        obtain ⟨z, _, rfl⟩ := List.mem_map.mp hv'
        exact okv_look hl z
      · rw [List.length_map]; omega
      · rintro m σ H3 ⟨j, ord, edge, E, z4, z5, z6, rfl, hlv, hnd, hlt, hok, hel, h3d, h3E, S3, rfl⟩
        refine ⟨_, rfl, _, .inl ⟨_, SqL.of h3E, rfl⟩, ?_⟩
        have S1 : ∀ {A C : Prop}, (edge ≠ [] → A) → (edge = [] → C) → if (!(edge.map hv).isEmpty) = true then A else C := fun {A C} h1 h2 => by
          cases edge with
          | nil => exact iteF (h2 rfl)
          | cons v r => exact iteT (h1 (by simp))
        refine S1 (fun hne => ?_) (fun he => ?_)
        · refine ⟨fun σ' H' => ∃ m' : Nat, m' < 2 * (os.length - ord.length) + (if edge = [] then 0 else 1) ∧ ∃ (j : Nat) (ord : List Nat) (edge : List (Option Nat)) (E : Addr) (z4 z5 z6 : Option V), σ' = [some (.ref aN), some (.ref fl), some (.ref d), some (.ref E), z4, z5, z6] ∧
            lvs os fs (ys.map (nmv l)) j = (ord, edge) ∧ ord.Nodup ∧ (∀ k ∈ ord, k < os.length) ∧ (∀ v ∈ edge, okv os.length v) ∧ edge.length ≤ 1000000 ∧ H' d = some (.dK (nk ord)) ∧ H' E = some (.lst (edge.map hv)) ∧ Same H H' ∧
            m' = 2 * (os.length - ord.length) + (if edge = [] then 0 else 1), fun σ' H' h => h, ?_⟩
          -- fresh = []
          refine ⟨Nat.zero_le _, fun R hR => ?_⟩
          have dR : d ≠ R := ne_of_none h3d hR
          have ER : E ≠ R := ne_of_none h3E hR
          have hRH : H R = none := S3.free hR
          have pre : ∀ i, ∃ t, (edge.take i).foldl meet ord = ord ++ t := fun i => meets_pre _ ord
          refine ⟨_, rfl, E, rfl, ⟨_, SqL.of ((upd_ne ER).trans h3E)⟩, for_list (xs := edge.map hv) (fun i σ H4 => ∃ (z6 : Option V), σ = [some (.ref aN), some (.ref fl), some (.ref d), some (.ref E), z4, some (.ref R), z6] ∧
            H4 d = some (.dK (nk ((edge.take i).foldl meet ord))) ∧ H4 R = some (.lst ((((edge.take i).foldl meet ord).drop ord.length).map fun k : Nat => V.int (k : Int))) ∧ H4 E = some (.lst (edge.map hv)) ∧ ((edge.take i).foldl meet ord).Nodup ∧ (∀ k ∈ (edge.take i).foldl meet ord, k < os.length) ∧ Same H H4) ?_ ?_ ?_ ?_⟩
          · exact ⟨_, rfl, (upd_ne dR).trans h3d, by rw [upd_same]; simp, (upd_ne ER).trans h3E, hnd, hlt, fun b o e => by rw [upd_ne (ne_of_none e hRH)]; exact S3 _ _ e⟩
          · rintro i σ H4 hi ⟨z6, rfl, g1, g2, g3, g4, g5, g6⟩
            exact SqL.of g3
          · rintro i x σ H4 hx ⟨z6, rfl, g1, g2, g3, g4, g5, g6⟩
            obtain ⟨v, hv', rfl⟩ := get_hv hx
            have tk : (edge.take (i + 1)).foldl meet ord = meet ((edge.take i).foldl meet ord) v := by rw [take_next' hv', List.foldl_append]; rfl
            refine ⟨_, rfl, rfl, _, rfl, ?_⟩
            cases v with
            | none =>
              refine iteF ?_
              refine iteF ?_
              exact ⟨_, rfl, by rw [tk]; exact g1, by rw [tk]; exact g2, g3, by rw [tk]; exact g4, by rw [tk]; exact g5, g6⟩
            | some k0 =>
              refine iteT ?_
              refine ⟨_, rfl, _, rfl, d, _, rfl, DGet.k (k := (Sum.inl (k0 : Int) : Key)) g1, _, rfl, ?_⟩
              rw [nk_val]
              have hk0 : k0 < os.length := hok _ (List.mem_of_getElem? hv')
              by_cases hin : k0 ∈ (edge.take i).foldl meet ord
              · rw [if_pos hin]
                refine iteF ?_
                have e : meet ((edge.take i).foldl meet ord) (some k0) = (edge.take i).foldl meet ord := if_pos hin
                exact ⟨_, rfl, by rw [tk, e]; exact g1, by rw [tk, e]; exact g2, g3, by rw [tk, e]; exact g4, by rw [tk, e]; exact g5, g6⟩
              · rw [if_neg hin]
                refine iteT ?_
                have e : meet ((edge.take i).foldl meet ord) (some k0) = (edge.take i).foldl meet ord ++ [k0] := if_neg hin
                have hol := nd_len g4 g5
                refine ⟨_, rfl, d, _, rfl, g1, _, rfl, _, rfl, d, _, rfl, DPut.k (k := (Sum.inl (k0 : Int) : Key)) g1 (by rw [nk_len]; exact small1000 (by omega)), ?_⟩
                have ep : putK (nk ((edge.take i).foldl meet ord)) (Sum.inl (k0 : Int) : Key) (V.int ((nk ((edge.take i).foldl meet ord)).length : Int)) = nk ((edge.take i).foldl meet ord ++ [k0]) := by
                  rw [putK_new _ (by rw [nk_val, if_neg hin]), nk_snoc, nk_len]
                have g2' : (upd H4 d (.dK (putK (nk ((edge.take i).foldl meet ord)) (Sum.inl (k0 : Int) : Key) (V.int ((nk ((edge.take i).foldl meet ord)).length : Int))))) R = some (.lst ((((edge.take i).foldl meet ord).drop ord.length).map fun k : Nat => V.int (k : Int))) := (upd_ne dR.symm).trans g2
                refine ⟨_, rfl, .inl ⟨rfl, _, SqL.of g2'⟩, _, rfl, R, _, _, rfl, rfl, g2', by rw [List.length_map, List.length_drop]; exact small1000 (by omega), ?_⟩
                obtain ⟨t, ht⟩ := pre i
                refine ⟨_, rfl, ?_, ?_, ?_, ?_, ?_, ?_⟩
                · rw [upd_ne dR, upd_same, tk, e, ep]
                · rw [upd_same, tk, e, ht, List.append_assoc, List.drop_left, List.drop_left, List.map_append]
                  rfl
                · rw [upd_ne ER, upd_ne (ne_of h3d h3E (by intro z; cases z)).symm]; exact g3
                · rw [tk]; exact meet_nd g4
                · rw [tk]; exact meet_in g5 hk0
                · intro b o e2
                  rw [upd_ne (ne_of_none e2 hRH), upd_ne (ne_of_none e2 hd)]
                  exact g6 _ _ e2
          · rintro σ H4 ⟨z6, rfl, g1, g2, g3, g4, g5, g6⟩
            rw [List.length_map, List.take_length] at g1 g2 g4 g5
            have hol := nd_len g4 g5
            obtain ⟨t, ht⟩ := meets_pre edge ord
            have hfl : ((edge.foldl meet ord).drop ord.length).length ≤ os.length := by rw [List.length_drop]; omega
            have hmul : ((edge.foldl meet ord).drop ord.length).length * fs.length ≤ 1000000 := Nat.le_trans (Nat.mul_le_mul (Nat.le_trans hfl hos) hfs) (by decide)
            have O4 := O.same g6
            refine ⟨rfl, _, rfl, rfl, g6 _ _ hco, ?_⟩
            refine ⟨_, rfl, R, rfl, ⟨_, SqL.of g2⟩, fun D2 hD2 => lc2_go (b := aF) (xs := ((edge.foldl meet ord).drop ord.length).map fun k : Nat => V.int (k : Int)) (ys := fs.map V.str)
              (fun i j H5 => Same H4 H5 ∧ H5 D2 = some (.lst ((part os fs ((edge.foldl meet ord).drop ord.length) i j).map hv))) (fun x => rfl) (fun x => rfl) (fun x y => rfl) ⟨same_new hD2, by rw [upd_same, part_00]; rfl⟩ (fun i H5 h => SqL.of (h.1 _ _ g2)) (fun i j H5 h => sqt_same (fun b o e => h.1 _ _ (g6 _ _ e)) hF) ?_ ?_ ?_⟩
            · rintro i H5 hi ⟨s5, h5⟩
              rw [List.length_map] at hi h5
              rw [part_end hi] at h5
              exact ⟨s5, h5⟩
            · rintro i j2 x y H5 hx hy ⟨s5, h5⟩
              obtain ⟨k0, hk0, rfl⟩ := get_nat hx
              obtain ⟨f0, hf0, rfl⟩ := get_str hy
              have hk0' : k0 < os.length := g5 k0 (List.mem_of_mem_drop (List.mem_of_getElem? hk0))
              have hkd : k0 < ds.length := by rw [O.len]; exact hk0'
              have O5 := O4.same s5
              have ho : os[k0]? = some os[k0] := List.getElem?_eq_getElem hk0'
              have hdk : ds[k0]? = some ds[k0] := List.getElem?_eq_getElem hkd
              have hf1 : f0 ∈ (os[k0]).map (·.1) := (O.ks _ (List.getElem_mem hk0')).mem_iff.mpr (List.mem_of_getElem? hf0)
              refine ⟨_, rfl, _, rfl, aO, _, _, _, rfl, rfl, SqL.of O5.ls, atI_nat (j := k0) (by rw [List.getElem?_map, hdk]; rfl), _, rfl, ds[k0], hv (fld os k0 f0), rfl, dget_dk (k := (Sum.inr f0 : Key)) (O5.at' k0 _ _ hdk ho) (fld_val ho hf1), _, h5, ?_, ?_, ?_⟩
              · rw [List.length_map]
                refine Nat.lt_of_le_of_lt (part_len ..) ?_
                exact Nat.lt_of_le_of_lt (show _ ≤ 1001000 by omega) (by decide)
              · intro b o e
                rw [upd_ne (ne_of_none e hD2)]
                exact s5 _ _ e
              · rw [upd_same, part_next hk0 hf0, List.map_append]
                rfl
            · rintro H5 ⟨s5, h5⟩
              rw [List.length_map, part_all] at h5
              have hkids : ∀ v ∈ ((edge.foldl meet ord).drop ord.length).flatMap (kids os fs), okv os.length v := by
                intro v hv'
                obtain ⟨k0, _, hv2⟩ := List.mem_flatMap.mp hv'
                obtain ⟨f0, _, rfl⟩ := List.mem_map.mp hv2
                exact okv_fld O.ok k0 f0
              refine ⟨_, ?_, j + 1, edge.foldl meet ord, ((edge.foldl meet ord).drop ord.length).flatMap (kids os fs), D2, _, _, _, rfl, ?_, g4, g5, hkids, ?_, s5 _ _ g1, h5, fun b o e => s5 _ _ (g6 _ _ e), rfl⟩
              · rw [if_neg hne]
                have hlen : (edge.foldl meet ord).length = ord.length + t.length := by rw [ht, List.length_append]
                cases t with
                | nil =>
                  rw [List.append_nil] at ht
                  rw [ht]
                  simp
                | cons x r =>
                  rw [List.length_cons] at hlen
                  split <;> omega
              · show lvl os fs (lvs os fs (ys.map (nmv l)) j) = _
                rw [hlv]
                rfl
              · rw [flat_len]; exact hmul
        · subst he
          exact ⟨_, rfl, k d ys j ord H3 S3 hd h3d perm srt hlv hnd hlt⟩
end
end TW
set_option Elab.async false
set_option linter.all false
set_option maxRecDepth 100000
namespace TW
open PySem PySem.Spec PyProof.Rows L2 TL LamX NdefX LamQ
def passS : Stmt := .Pass ⟨0, 0, 0, 0⟩
def asgVal (s : Stmt) : Expr := match s with
  | .Assign _ v _ => v
  | .Return (some v) _ => v
  | _ => .Constant .none 0 ⟨0, 0, 0, 0⟩
def lcScope (e : Expr) : Scope := match e with
  | .ListComp _ _ sc _ => sc
  | _ => defScope passS
/-! ### d.get(None) -/
section
variable {X : Cx} {pins : List (Addr × Obj)} {σ : St'} {H : Hp} {s : Shared} {a : Addr} {kvs : List (Key × V)} {A : Around} {E : Value → Shared → Prop}
theorem d_getNone {Q : Value → Shared → Prop} (I : Inv X pins σ H s) (e : Rd H a (.dK kvs)) (h : ∀ s', Inv X pins σ H s' → Q .none s') : wpAny (model X.prog X.w) A (call (.builtin "dict.get") [.ref a, .none]) Q E s := by
  obtain ⟨_, hd, vs, _, dd⟩ := dk_rd I.hok e
  obtain ⟨f, hm, hf⟩ := none_map dd
  refine call_meetsIn PySem.F.slot_dict_get dd.typeIs PySem.F.entry_dict_get (PySem.F.args_dict_get_2 _ _) (meets_dict_get (noneKind X.prog X.w) a (show (noneKind X.prog X.w).is none .none = true from rfl) hd) ⟨f, hm, ?_⟩
  rw [hf]
  exact h _ (I.tok _)
def tDGet1N (td ty : TE) : TE := fun σ H Q => td σ H fun x H1 => ∃ a, x = .ref a ∧ IsD H1 a ∧ ty σ H1 fun y H2 => (∃ o, DGet H2 a y o ∧ Q (o.getD .non) H2) ∨ (y = .non ∧ ∃ kvs, Rd H2 a (.dK kvs) ∧ Q .non H2)
variable {o e : Expr} {apos cpos : Pos} {td ty : TE}
theorem pe_dget1N (hu : X.A.units + 1 < cLine) (ho : PE X o td) (he : PE X e ty) (m : M1 X o "get" apos e cpos) : PE X (.Call (.Attribute o "get" apos) [e] [] cpos) (tDGet1N td ty) := by
  refine ⟨fun pins s σ H Q I h => wpAny_Call_method m.base m.few m.line PySem.F.plainAttrs_dict PySem.F.slot_dict_get PySem.F.type_dict_get (thn (ho.run pins s σ H _ I h) fun u s1 h1 => ?_)⟩
  obtain ⟨x, H1, I1, rx, a, rfl, d, q1⟩ := h1
  cases rx
  obtain ⟨t1, t2, _⟩ := isD_at I1 d
  refine ⟨t1, t2, ?_⟩
  rw [m.trees]
  refine Calls.callWith_builtin rfl (Calls.evalArgs_plain (Calls.spliced_cons (thn (he.run pins s1 σ H1 _ I1 q1) fun iv s2 h2 => Calls.spliced_nil ?_)))
  obtain ⟨y, H2, I2, ry, ⟨ov, g, q2⟩ | ⟨rfl, kvs, g, q2⟩⟩ := h2
  · exact d_get1 hu I2 g ry fun w' s3 I3 rw' => ⟨_, H2, I3, rw', q2⟩
  · cases ry
    exact d_getNone I2 g fun s3 I3 => ⟨.non, H2, I3, rfl, q2⟩
end
/-! ### comprehensions over a locked dict -/
theorem lc_keys {d : Addr} {o : Obj} {kvs : List (Key × V)} {g : TG} {tt : TT} {te : TE} {vs : List Nat} {σ : St'} {H1 : Hp} {D : Addr} {Qd : Hp → Prop} (Pv : Nat → Hp → Prop) (h0 : Pv 0 (upd H1 D (.lst []))) (hl : ∀ i H, Pv i H → H d = some (.frz o (.dK kvs)))
    (hs : ∀ i k v H, kvs[i]? = some (k, v) → Pv i H → g (kV k) (wipe σ vs) H fun σ2 H2 => wipe σ2 vs = wipe σ vs ∧ tt σ2 H2 fun b H3 =>
      if b = true then te σ2 H3 fun y H4 => ∃ acc, H4 D = some (.lst acc) ∧ acc.length < sizeLine ∧ Pv (i + 1) (upd H4 D (.lst (acc ++ [y]))) else Pv (i + 1) H3) (hd : ∀ H, Pv kvs.length H → Qd H) :
    ∃ W : Nat → Nat → Hp → Prop, (∃ m, W 0 m (upd H1 D (.lst []))) ∧ ∀ i m H, W i m H →
      ((Itk d o kvs).stop i H ∧ Qd H) ∨ ((Itk d o kvs).go i H ∧ ∃ Nx : Hp → Prop, (∀ H', Nx H' → ∃ m', m' < m ∧ W (i + 1) m' H') ∧ ∀ x H', (Itk d o kvs).yld i H x H' → g x (wipe σ vs) H' fun σ2 H2 => wipe σ2 vs = wipe σ vs ∧ tt σ2 H2 fun b H3 =>
        if b = true then te σ2 H3 fun y H4 => ∃ acc, H4 D = some (.lst acc) ∧ acc.length < sizeLine ∧ Nx (upd H4 D (.lst (acc ++ [y]))) else Nx H3) := by
  refine ⟨fun i m H => m = kvs.length - i ∧ i ≤ kvs.length ∧ Pv i H, ⟨_, rfl, Nat.zero_le _, h0⟩, ?_⟩
  rintro i m H ⟨rfl, hi, p⟩
  have q := hl i H p
  by_cases lt : i < kvs.length
  · refine .inr ⟨⟨q, lt⟩, Pv (i + 1), fun H' p' => ⟨kvs.length - (i + 1), by omega, rfl, lt, p'⟩, fun x H' hy => ?_⟩
    obtain ⟨rfl, k, v, hk, rfl⟩ := hy
    exact hs i k v _ hk p
  · have e : i = kvs.length := by omega
    subst e
    exact .inl ⟨⟨q, Nat.le_refl _⟩, hd H p⟩
theorem dc_keys {d : Addr} {o : Obj} {kws : List (Key × V)} {g : TG} {tt : TT} {tk tv : TE} {vs : List Nat} {σ : St'} {H1 : Hp} {D : Addr} {Qd : Hp → Prop} (Pv : Nat → Hp → Prop) (h0 : Pv 0 (upd H1 D (.dK []))) (hl : ∀ i H, Pv i H → H d = some (.frz o (.dK kws)))
    (hs : ∀ i k v H, kws[i]? = some (k, v) → Pv i H → g (kV k) (wipe σ vs) H fun σ2 H2 => wipe σ2 vs = wipe σ vs ∧ tt σ2 H2 fun b H3 =>
      if b = true then tk σ2 H3 fun y H4 => tv σ2 H4 fun z H5 => ∃ kvs k, y = kV k ∧ H5 D = some (.dK kvs) ∧ kvs.length < sizeLine ∧ Pv (i + 1) (upd H5 D (.dK (putK kvs k z))) else Pv (i + 1) H3) (hd : ∀ H, Pv kws.length H → Qd H) :
    ∃ W : Nat → Nat → Hp → Prop, (∃ m, W 0 m (upd H1 D (.dK []))) ∧ ∀ i m H, W i m H →
      ((Itk d o kws).stop i H ∧ Qd H) ∨ ((Itk d o kws).go i H ∧ ∃ Nx : Hp → Prop, (∀ H', Nx H' → ∃ m', m' < m ∧ W (i + 1) m' H') ∧ ∀ x H', (Itk d o kws).yld i H x H' → g x (wipe σ vs) H' fun σ2 H2 => wipe σ2 vs = wipe σ vs ∧ tt σ2 H2 fun b H3 =>
        if b = true then tk σ2 H3 fun y H4 => tv σ2 H4 fun z H5 => ∃ kvs k, y = kV k ∧ H5 D = some (.dK kvs) ∧ kvs.length < sizeLine ∧ Nx (upd H5 D (.dK (putK kvs k z))) else Nx H3) := by
  refine ⟨fun i m H => m = kws.length - i ∧ i ≤ kws.length ∧ Pv i H, ⟨_, rfl, Nat.zero_le _, h0⟩, ?_⟩
  rintro i m H ⟨rfl, hi, p⟩
  have q := hl i H p
  by_cases lt : i < kws.length
  · refine .inr ⟨⟨q, lt⟩, Pv (i + 1), fun H' p' => ⟨kws.length - (i + 1), by omega, rfl, lt, p'⟩, fun x H' hy => ?_⟩
    obtain ⟨rfl, k, v, hk, rfl⟩ := hy
    exact hs i k v _ hk p
  · have e : i = kws.length := by omega
    subst e
    exact .inl ⟨⟨q, Nat.le_refl _⟩, hd H p⟩
/-- behind a lock -/
theorem same_unlock {H H2 : Hp} {d : Addr} {o : Obj} {u : HO} (e : H d = some u) (s : Same (upd H d (.frz o u)) H2) : Same H (upd H2 d u) := fun b x h => by
  by_cases hb : b = d
  · subst hb
    rw [upd_same]
    rw [e] at h
    exact h
  · rw [upd_ne hb]
    exact s _ _ (by rw [upd_ne hb]; exact h)
/-! ### the mirror -/
def ren (ord : List Nat) (v : Option Nat) : Option Nat := v.bind fun k => if k ∈ ord then some (ord.idxOf k) else none
def row (os : List Ob) (fs : List Str) (ord : List Nat) (k : Nat) : Ob := fs.map fun f => (f, ren ord (fld os k f))
def renL (ord : List Nat) (l : Ob) : Ob := l.map fun p => (p.1, ren ord p.2)
theorem ren_ok (ord : List Nat) (v : Option Nat) : okv ord.length (ren ord v) := by
  cases v with
  | none => trivial
  | some k =>
    unfold ren
    show okv _ (if k ∈ ord then some (ord.idxOf k) else none)
    by_cases h : k ∈ ord
    · rw [if_pos h]; exact List.idxOf_lt_length_of_mem h
    · rw [if_neg h]; trivial
theorem ren_val (ord : List Nat) (k : Nat) : (valV (nk ord) (Sum.inl (k : Int) : Key)).getD .non = hv (ren ord (some k)) := by
  rw [nk_val]
  unfold ren
  show _ = hv (if k ∈ ord then some (ord.idxOf k) else none)
  by_cases h : k ∈ ord
  · rw [if_pos h, if_pos h]; rfl
  · rw [if_neg h, if_neg h]; rfl
/-- numbers.get(v) -/
theorem get_ren {H : Hp} {a : Addr} {ord : List Nat} (v : Option Nat) (e : Rd H a (.dK (nk ord))) : (hv v = .non ∧ hv (ren ord v) = .non) ∨ ∃ o, DGet H a (hv v) o ∧ o.getD .non = hv (ren ord v) := by
  cases v with
  | none => exact .inl ⟨rfl, rfl⟩
  | some k => exact .inr ⟨valV (nk ord) (Sum.inl (k : Int) : Key), .inl ⟨_, Sum.inl (k : Int), e, rfl, rfl⟩, ren_val ord k⟩
theorem put_ren {l : Ob} {f : Str} {x : V} {v : Option Nat} (e : x = hv v) (h : f ∉ l.map (·.1)) : putK (dk l) (Sum.inr f : Key) x = dk (l ++ [(f, v)]) := by
  rw [e]; exact dk_put h
theorem row_take {os : List Ob} {fs : List Str} {ord : List Nat} {k j : Nat} {f : Str} (h : fs[j]? = some f) : (row os fs ord k).take (j + 1) = (row os fs ord k).take j ++ [(f, ren ord (fld os k f))] := by
  refine take_next' ?_
  unfold row
  rw [List.getElem?_map, h]; rfl
theorem row_fst (os : List Ob) (fs : List Str) (ord : List Nat) (k : Nat) : (row os fs ord k).map (·.1) = fs := by
  unfold row
  rw [List.map_map]
  exact List.map_id' fs
theorem nk_get {ord : List Nat} {i : Nat} {kk : Key} {vv : V} (h : (nk ord)[i]? = some (kk, vv)) : ∃ k, ord[i]? = some k ∧ kk = Sum.inl (k : Int) := by
  unfold nk at h
  rw [List.getElem?_map, List.getElem?_zipIdx] at h
  cases e : ord[i]? with
  | none => rw [e] at h; cases h
  | some k =>
    rw [e] at h
    refine ⟨k, rfl, ?_⟩
    have := Option.some.inj h
    exact (congrArg Prod.fst this).symm
theorem dk_get {l : Ob} {i : Nat} {kk : Key} {vv : V} (h : (dk l)[i]? = some (kk, vv)) : ∃ n v, l[i]? = some (n, v) ∧ kk = Sum.inr n ∧ vv = hv v := by
  unfold dk at h
  rw [List.getElem?_map] at h
  cases e : l[i]? with
  | none => rw [e] at h; cases h
  | some p =>
    rw [e] at h
    have := Option.some.inj h
    exact ⟨p.1, p.2, rfl, (congrArg Prod.fst this).symm, (congrArg Prod.snd this).symm⟩
theorem nmv_at : ∀ {l : Ob} {i : Nat} {n : Str} {v : Option Nat}, (l.map (·.1)).Nodup → l[i]? = some (n, v) → nmv l n = v
  | [], _, _, _, _, h => by simp at h
  | (f, u) :: l, 0, n, v, _, h => by
    have e := Option.some.inj h
    injection e with e1 e2
    subst e1 e2
    unfold nmv
    rw [List.lookup_cons, beq_self_eq_true]
    rfl
  | (f, u) :: l, i + 1, n, v, nd, h => by
    rw [List.map_cons, List.nodup_cons] at nd
    have h' : l[i]? = some (n, v) := h
    have ih := nmv_at nd.2 h'
    unfold nmv at ih ⊢
    have hne : (n == f) = false := by
      have : n ≠ f := fun e => nd.1 (by rw [← e]; exact List.mem_map.mpr ⟨_, List.mem_of_getElem? h', rfl⟩)
      simpa using this
    rw [List.lookup_cons, hne]
    exact ih
theorem renL_fst (ord : List Nat) (l : Ob) : (renL ord l).map (·.1) = l.map (·.1) := by
  unfold renL
  rw [List.map_map]
  rfl
theorem renL_take {ord : List Nat} {l : Ob} {i : Nat} {n : Str} {v : Option Nat} (h : l[i]? = some (n, v)) : (renL ord l).take (i + 1) = (renL ord l).take i ++ [(n, ren ord v)] := by
  refine take_next' ?_
  unfold renL
  rw [List.getElem?_map, h]; rfl
/-- the table of normal_form's code objects: its lambda's alone -/
def tabQ : Str := ("normal_form" : Str) ++ ".<locals>." ++ "<lambda>"
abbrev TB1 (Pt : Addr) : List (Addr × Str) := [(Pt, tabQ)]
/-- all but the table stays, nothing goes -/
structure SamN (Pt : Addr) (H H' : Hp) : Prop where
  k : ExtN H H'
  f : ∀ x, H' x = none → H x = none
  t : Tabs (TB1 Pt) H'
theorem SamN.of {Pt : Addr} {H H1 : Hp} (e : ExtN H H1) (o : ∀ b ps, H b = some (.tbl ps) → H1 b ≠ none) (t : Tabs (TB1 Pt) H1) : SamN Pt H H1 := by
  refine ⟨e, fun x hx => ?_, t⟩
  cases ex : H x with
  | none => rfl
  | some u =>
    by_cases hu : ∃ ps, u = .tbl ps
    · obtain ⟨ps, eu⟩ := hu
      rw [eu] at ex
      exact absurd hx (o x ps ex)
    · have e3 := e x u ex fun ps z => hu ⟨ps, z⟩
      rw [hx] at e3
      cases e3
theorem SamN.same {Pt : Addr} {H H1 H2 : Hp} (a : SamN Pt H H1) (s : Same H1 H2) : SamN Pt H H2 := ⟨fun b o e n => s _ _ (a.k b o e n), fun x hx => a.f x (s.free hx), a.t.ext s⟩
/-- the lambda, its code object at c1 -/
abbrev nfL (c1 : Addr) : NF := ⟨"<lambda>", tabQ, lamArgs L_nf, [], lamScope L_nf, [], c1⟩
theorem nf_caps : ndefB (defScope S_normal_form) (lamScope L_nf) ["objects", "fields"] = true := by decide +kernel
theorem bind_lam : ∀ (q : Str) (cl : List (Str × Addr)) (pm cv ctv : Value) (us : List Value), us.length = 1 → bindArgs (PySem.W.kla_fn "<lambda>" q (lamArgs L_nf) (lamBody L_nf) (lamScope L_nf) cl pm cv ctv) ⟨us, []⟩ = pure ((["fresh"] : List Str).zip us) := fun q cl pm cv ctv us hl => match us, hl with
  | [_], _ => rfl
/-- a def of the text whose code object is at c -/
structure FunC (K : PySem.W.Frag) (x qual : Str) (st : Stmt) (f : Addr) (fd : FuncData) (c : Addr) : Prop where
  ex : ∃ (oc : Value) (od : Option Addr) (kV doc pm : Value) (an : Option Addr) (ct : Value) (osl : Array (Option Value)),
    fd = PySem.W.fnOf x qual (defArgs st) (defBody st) (defScope st) .none kV doc pm an (.ref c) ct ∧ K.lookup f = some ⟨oc, od, .func fd, osl⟩ ∧ PySem.W.codeIn K (.ref c) qual = true
theorem FunC.ok {P : Program} {w : World} {K : PySem.W.Frag} {mg : Str → Option Value} {base : Heap} {x qual : Str} {st : Stmt} {f c : Addr} {fd : FuncData} {N ps : List Str} {k : Nat} {sp : Sp} (F : FunC K x qual st f fd c) (S : FnScope N ps (defScope st)) (len : ∀ vs H Q E, sp vs H Q E → vs.length = ps.length)
    (hbody : ∀ (A : Around) (outer : List Env) (s : Shared) (H : Hp) (vs : List V) (Q : VK) (E : XK), Room k (A.deeper (envOfC qual (defScope st) s.heap.objs.size f (.ref c))) → sp vs H Q E →
      ∃ t, PSs (cxOf CX0 P w K mg base N qual (defScope st) f (.ref c) A outer s H E).nox (defBody st) t ∧ t { nx := fun _ H' => Q .non H', rt := Q } (start N vs) H) : FnOk P w K mg base CX0 (k + 1) f fd ps sp := by
  obtain ⟨oc, od, kV, doc, pm, an, ct, osl, rfl, lk, hcd⟩ := F.ex
  refine fn_of lk hcd S len fun A outer s H vs Q E hr hsp => ?_
  obtain ⟨t, h, q⟩ := hbody A outer s H vs Q E hr hsp
  exact ⟨t, h.nox, q⟩
def spNF (K : PySem.W.Frag) (Pt : Addr) : Sp := fun vs H Q _ => ∃ (aF aO aN : Addr) (fs : List Str) (ds : List Addr) (os : List Ob) (l : Ob), vs = [.ref aF, .ref aO, .ref aN] ∧ Tabs (TB1 Pt) H ∧ SqT K H aF (fs.map V.str) ∧ fs.length ≤ 1000 ∧ fs.Nodup ∧ ObjsAt H aO ds fs os.length os ∧ os.length ≤ 1000 ∧
  H aN = some (.dK (dk l)) ∧ (l.map (·.1)).Nodup ∧ l.length < 64 ∧ okl os.length l ∧
  ∀ (t rD nD : Addr) (ds' : List Addr) (ys : List Str) (j : Nat) (ord : List Nat) (H' : Hp), SamN Pt H H' → H t = none → H rD = none → H nD = none → (∀ d ∈ ds', H d = none) → H' t = some (.tup [.ref aF, .ref rD, .ref nD]) → ys.Perm (l.map (·.1)) → sortedS ys = true → lvs os fs (ys.map (nmv l)) j = (ord, []) → ord.Nodup → (∀ k ∈ ord, k < os.length) →
    ObjsAt H' rD ds' fs ord.length (ord.map (row os fs ord)) → H' nD = some (.dK (dk (renL ord l))) → Q (.ref t) H'
section
variable {P : Program} {w : World} {K : PySem.W.Frag} {mg : Str → Option Value} {base : Heap}
theorem sqt_ext {H H1 : Hp} {a : Addr} {xs : List V} (e : ExtN H H1) (h : SqT K H a xs) : SqT K H1 a xs := by
  rcases h with (h | ⟨o, h⟩) | h
  · exact .inl (.inl (e _ _ h fun ps z => nomatch z))
  · exact .inl (.inr ⟨o, e _ _ h fun ps z => nomatch z⟩)
  · exact .inr h
theorem objs_ext {H H1 : Hp} {aO : Addr} {ds : List Addr} {fs : List Str} {n : Nat} {os : List Ob} (e : ExtN H H1) (O : ObjsAt H aO ds fs n os) : ObjsAt H1 aO ds fs n os := ⟨e _ _ O.ls (fun ps z => (nomatch z)), O.len, O.nd, fun i d o h1 h2 => e _ _ (O.at' i d o h1 h2) (fun ps z => (nomatch z)), O.ks, O.ok⟩
set_option maxHeartbeats 8000000 in
theorem ok_normal_form {f fN Cn Pt : Addr} {fd fdN : FuncData} (F : FunC K "normal_form" "normal_form" S_normal_form f fd Cn) (TB : TabB base mg Cn Pt) (B : Bl mg) (d_new_numbers : Df K mg "new_numbers" S_new_numbers fN fdN P_new_numbers) : FnOk P w K mg base CX0 3 f fd P_normal_form (spNF K Pt) := by
  refine F.ok sc_normal_form (fun vs H Q E h => ?_) (fun A outer s H vs Q E hr h => ?_)
  · obtain ⟨aF, aO, aN, fs, ds, os, l, rfl, _⟩ := h
    rfl
  · obtain ⟨aF, aO, aN, fs, ds, os, l, rfl, hT, hF0, hfs, fnd, O0, hos, hN0, nd, h64, hl, k0⟩ := h
    have hu := hu_of hr
    have hr2 : Room 2 _ := hr
    refine ⟨_, (pss_cons (ps_set (i := 3) sc_normal_form.nd rfl (by first | exact Or.inl rfl | exact Or.inr rfl) (pe_lam2 (T := TB1 Pt) (Ng := N_new_numbers) (N := N_lam) (y := "fresh") (fr := ["objects", "fields"]) (js := [1, 0]) (k := 1) (params := lamArgs L_nf) (body := lamBody L_nf) (scope := lamScope L_nf) (lpos := lamPos L_nf) (TT := fun c1 fl ws v H1 Q => spNL K (nfL c1) fl ws v H1 Q) rfl d_new_numbers.g d_new_numbers.F d_new_numbers.b sc_new_numbers TB rfl (List.mem_singleton.mpr rfl) (fun p hp _ => congrArg Prod.snd (List.mem_singleton.mp hp)) hr2 rfl (ndef_free nf_caps) sc_lam (ndef_fr nf_caps) rfl bind_lam (pv 2) (fun cdv fl c1 s1 H1 v ws Q hr1 L h => ok_new_numbers (P := P) (w := w) (K := K) (mg := mg) (base := base) B rfl L hr1 h)))
 (pss_cons (ps_lock (ps_setLc (i := 4) (own := [("old", 6)]) (g := gName 6) (tt := tYes) rfl sc_normal_form.nd rfl rfl (sw_true rfl rfl rfl (by decide +kernel)) (pi_keys (pv 3)) (blkOk_by (own := [("old", 6)]) (N := N_normal_form) (sc := defScope S_normal_form) (by decide +kernel)) (fun _ _ _ _ _ => (pg_name (i := 6) sc_normal_form.nd rfl (by first | exact Or.inl rfl | exact Or.inr rfl))) (fun _ _ _ _ _ => pts_nil) (fun _ _ _ _ _ => (pe_dc (own := [("field", 5)]) (g := gName 5) (tt := tYes) rfl sc_normal_form.nd (pi_tupK (K := K) rfl (pv 0)) (blkOk_by (own := [("field", 5)]) (N := N_normal_form) (sc := { kind := .function, names := [(".0", .local), ("old", .cell), ("fields", .cell), ("numbers", .cell), ("objects", .cell)], isGenerator := false, isCoroutine := false }) (by decide +kernel)) (fun _ _ _ _ _ => pg_name (i := 5) sc_normal_form.nd rfl (by first | exact Or.inl rfl | exact Or.inr rfl)) (fun _ _ _ _ _ => pts_nil) (fun _ _ _ _ _ => (pv 5)) (fun _ _ _ _ _ => (pe_dget1N hu (pv 3) (pe_dget hu (pe_ix (ix_listK (K := K) rfl) (pv 1) (pv 6) (fun _ _ => rfl)) (pv 5) (fun _ _ => rfl)) ⟨rfl, rfl, rfl, rfl⟩))))))
 (pss_one (ps_ret (pe_tup (pa_cons (pv 0) (pa_cons (pv 4) (pa_cons (pe_lock (pe_dc (own := [("name", 7)]) (g := gName 7) (tt := tYes) rfl sc_normal_form.nd (pi_keys (pv 2)) (blkOk_by (own := [("name", 7)]) (N := N_normal_form) (sc := defScope S_normal_form) (by decide +kernel)) (fun _ _ _ _ _ => pg_name (i := 7) sc_normal_form.nd rfl (by first | exact Or.inl rfl | exact Or.inr rfl)) (fun _ _ _ _ _ => pts_nil) (fun _ _ _ _ _ => (pv 7)) (fun _ _ _ _ _ => (pe_dget1N hu (pv 3) (pe_dget hu (pv 2) (pv 7) (fun _ _ => rfl)) ⟨rfl, rfl, rfl, rfl⟩)))) pa_nil)))))))), ?_⟩
    refine ⟨_, rfl, hT, fun fl c1 Hm eN eT TM nfl hco => ?_⟩
    have hF := sqt_ext eN hF0
    have O := objs_ext eN O0
    have hN : Hm aN = some (.dK (dk l)) := eN _ _ hN0 fun ps z => nomatch z
    have SN := SamN.of eN eT TM
    have k : ∀ (t rD nD : Addr) (ds' : List Addr) (ys : List Str) (j : Nat) (ord : List Nat) (H' : Hp), Same Hm H' → Hm t = none → Hm rD = none → Hm nD = none → (∀ d ∈ ds', Hm d = none) → H' t = some (.tup [.ref aF, .ref rD, .ref nD]) → ys.Perm (l.map (·.1)) → sortedS ys = true → lvs os fs (ys.map (nmv l)) j = (ord, []) → ord.Nodup → (∀ k ∈ ord, k < os.length) →
      ObjsAt H' rD ds' fs ord.length (ord.map (row os fs ord)) → H' nD = some (.dK (dk (renL ord l))) → Q (.ref t) H' := fun t rD nD ds' ys j ord H' s1 e1 e2 e3 e4 => k0 t rD nD ds' ys j ord H' (SN.same s1) (SN.f _ e1) (SN.f _ e2) (SN.f _ e3) fun d m => SN.f _ (e4 d m)
    refine ⟨aF, aO, aN, fs, ds, os, l, rfl, rfl, hco, hF, hfs, O, hos, hN, nd, h64, hl, fun d ys j ord H1 S1 hd hd1 perm srt hlv hnd hlt => ?_⟩
    have hol := nd_len hnd hlt
    -- renumbered
    refine ⟨d, .dK (nk ord), hd1, trivial, fun od => ?_⟩
    refine ⟨_, rfl, d, od, rfl, .inl ⟨nk ord, upd_same, fun D hD => ?_⟩⟩
    have aNd : aN ≠ d := ne_of_none hN hd
    have stay : ∀ {b : Addr} {o : HO}, Hm b = some o → (upd H1 d (.frz od (.dK (nk ord)))) b = some o := fun {b o} e => by
      rw [upd_ne (ne_of_none e hd)]
      exact S1 _ _ e
    have sL : Same Hm (upd H1 d (.frz od (.dK (nk ord)))) := fun b o e => stay e
    refine lc_keys (d := d) (o := od) (kvs := nk ord) (fun i H2 => ∃ ds' : List Addr, Same (upd H1 d (.frz od (.dK (nk ord)))) H2 ∧ H2 D = some (.lst (ds'.map V.ref)) ∧ ds'.length = i ∧ ds'.Nodup ∧ (∀ x ∈ ds', (upd H1 d (.frz od (.dK (nk ord)))) x = none ∧ x ≠ D) ∧
      (∀ (i' : Nat) (d' : Addr) (k : Nat), ds'[i']? = some d' → ord[i']? = some k → H2 d' = some (.dK (dk (row os fs ord k))))) ?_ ?_ ?_ ?_
    · exact ⟨[], same_new hD, upd_same, rfl, List.nodup_nil, fun x hx => (nomatch hx), fun i' d' k h => by simp at h⟩
    · rintro i H2 ⟨ds', s2, _⟩
      exact s2 _ _ upd_same
    · rintro i kk vv H2 hkk ⟨ds', s2, hD2, hlen, dnd, dfr, dat⟩
      obtain ⟨k0, hk0, rfl⟩ := nk_get hkk
      have hi : i < ord.length := (List.getElem?_eq_some_iff.mp hk0).1
      refine ⟨rfl, yes_of ?_⟩
      have hF2 : SqT K H2 aF (fs.map V.str) := sqt_same (fun b o e => s2 _ _ (sL _ _ e)) hF
      refine ⟨_, rfl, aF, rfl, ⟨_, hF2⟩, fun E hE => ?_⟩
      have hEL := s2.free hE
      have DE : D ≠ E := ne_of_none hD2 hE
      refine dc_tup (xs := fs.map V.str) (fun j H3 => Same H2 H3 ∧ H3 E = some (.dK (dk ((row os fs ord k0).take j)))) ⟨same_new hE, upd_same⟩ (fun j H3 _ h => sqt_same h.1 hF2) ?_ ?_
      · rintro j x H3 hx ⟨s3, hE3⟩
        obtain ⟨f0, hf0, rfl⟩ := get_str hx
        have s03 : Same Hm H3 := fun b o e => s3 _ _ (s2 _ _ (sL _ _ e))
        have O3 := O.same s03
        have hd3 : H3 d = some (.frz od (.dK (nk ord))) := s3 _ _ (s2 _ _ upd_same)
        have hk0' : k0 < os.length := hlt k0 (List.mem_of_getElem? hk0)
        have hkd : k0 < ds.length := by rw [O.len]; exact hk0'
        have ho : os[k0]? = some os[k0] := List.getElem?_eq_getElem hk0'
        have hdk : ds[k0]? = some ds[k0] := List.getElem?_eq_getElem hkd
        have hf1 : f0 ∈ (os[k0]).map (·.1) := (O.ks _ (List.getElem_mem hk0')).mem_iff.mpr (List.mem_of_getElem? hf0)
        refine ⟨rfl, yes_of ⟨_, rfl, _, rfl, d, rfl, .inl ⟨_, .inr ⟨od, hd3⟩⟩, _, rfl, _, rfl, aO, _, _, _, rfl, rfl, SqL.of O3.ls, atI_nat (j := k0) (by rw [List.getElem?_map, hdk]; rfl), _, rfl, ds[k0], hv (fld os k0 f0), rfl, dget_dk (k := (Sum.inr f0 : Key)) (O3.at' k0 _ _ hdk ho) (fld_val ho hf1), ?_⟩⟩
        refine (get_ren (a := d) (ord := ord) (H := H3) (fld os k0 f0) (.inr ⟨od, hd3⟩)).elim (fun ⟨e1, e2⟩ => .inr ⟨e1, nk ord, .inr ⟨od, hd3⟩, ?_⟩) (fun ⟨ov, g, e2⟩ => .inl ⟨ov, g, ?_⟩)
        all_goals refine ⟨_, (Sum.inr f0 : Key), rfl, hE3, ?_, fun b o e => ?_, ?_⟩
        any_goals
          rw [upd_same, row_take hf0]
          refine congrArg (fun z => some (HO.dK z)) (put_ren (by first | exact e2.symm | exact e2) ?_)
          rw [List.map_take, row_fst]
          exact nodup_fresh fnd hf0
        any_goals
          rw [upd_ne (ne_of_none e hE)]
          exact s3 _ _ e
        all_goals
          rw [dk_len, List.length_take]
          refine Nat.lt_of_le_of_lt (Nat.min_le_right _ _) ?_
          rw [← List.length_map (f := (·.1)), row_fst]
          exact Nat.lt_of_le_of_lt hfs (by decide)
      · rintro H3 ⟨s3, hE3⟩
        have hfull : (row os fs ord k0).take (fs.map V.str).length = row os fs ord k0 := by
          rw [List.length_map]
          refine List.take_of_length_le ?_
          rw [← List.length_map (f := (·.1)), row_fst]
          exact Nat.le_refl _
        rw [hfull] at hE3
        refine ⟨_, s3 _ _ hD2, by rw [List.length_map, hlen]; exact small1000 (by omega), ds' ++ [E], ?_, ?_, ?_, ?_, ?_, ?_⟩
        · intro b o e
          rw [upd_ne (ne_of_none e hD)]
          exact s3 _ _ (s2 _ _ e)
        · rw [upd_same, List.map_append]; rfl
        · rw [List.length_append, hlen]; rfl
        · refine List.nodup_append.mpr ⟨dnd, by simp, fun x hx y hy => ?_⟩
          rw [List.mem_singleton.mp hy]
          intro e
          obtain ⟨i', hi', e'⟩ := List.getElem_of_mem hx
          have hi2 : i' < ord.length := by omega
          have := dat i' x ord[i'] (by rw [List.getElem?_eq_getElem hi', e']) (List.getElem?_eq_getElem hi2)
          rw [e, hE] at this
          cases this
        · intro x hx
          rcases List.mem_append.mp hx with hx | hx
          · exact dfr x hx
          · rw [List.mem_singleton.mp hx]; exact ⟨hEL, DE.symm⟩
        · intro i' d' k g1 g2
          rcases Nat.lt_or_ge i' ds'.length with hj | hj
          · rw [List.getElem?_append_left hj] at g1
            rw [upd_ne (dfr d' (List.mem_of_getElem? g1)).2]
            exact s3 _ _ (dat i' d' k g1 g2)
          · rw [List.getElem?_append_right hj] at g1
            have hz : i' = ds'.length := by
              have := (List.getElem?_eq_some_iff.mp g1).1
              simp only [List.length_singleton] at this
              omega
            subst hz
            rw [Nat.sub_self] at g1
            have e1 : E = d' := Option.some.inj g1
            subst e1
            rw [hlen, hk0] at g2
            have e2 : k0 = k := Option.some.inj g2
            subst e2
            rw [upd_ne DE.symm]; exact hE3
    · rintro H2 ⟨ds', s2, hD2, hlen, dnd, dfr, dat⟩
      rw [nk_len] at hlen
      refine ⟨s2 _ _ upd_same, ?_⟩
      have dD : D ≠ d := fun e => by rw [e, upd_same] at hD; cases hD
      have S2 : Same H1 (upd H2 d (.dK (nk ord))) := same_unlock hd1 s2
      have hD3 : (upd H2 d (.dK (nk ord))) D = some (.lst (ds'.map V.ref)) := (upd_ne dD).trans hD2
      have hN3 : (upd H2 d (.dK (nk ord))) aN = some (.dK (dk l)) := S2 _ _ (S1 _ _ hN)
      have hd3 : (upd H2 d (.dK (nk ord))) d = some (.dK (nk ord)) := upd_same
      have at3 : ∀ (i' : Nat) (d' : Addr) (k : Nat), ds'[i']? = some d' → ord[i']? = some k → (upd H2 d (.dK (nk ord))) d' = some (.dK (dk (row os fs ord k))) := fun i' d' k g1 g2 => by
        have n := (dfr d' (List.mem_of_getElem? g1)).1
        rw [upd_ne (fun e => by rw [e, upd_same] at n; cases n)]
        exact dat i' d' k g1 g2
      have fr0 : ∀ {x : Addr}, (upd H1 d (.frz od (.dK (nk ord)))) x = none → Hm x = none := fun {x} n => by
        have hx : x ≠ d := fun e => by rw [e, upd_same] at n; cases n
        rw [upd_ne hx] at n
        exact S1.free n
      generalize upd H2 d (.dK (nk ord)) = H3 at *
      -- the tuple
      refine ⟨_, rfl, _, rfl, aN, .dK (dk l), hN3, trivial, fun od2 => ⟨_, rfl, aN, od2, rfl, .inl ⟨dk l, upd_same, fun E hE => ?_⟩⟩⟩
      have hNE : aN ≠ E := fun e => by rw [← e, upd_same] at hE; cases hE
      have hE3 : H3 E = none := by rw [upd_ne hNE.symm] at hE; exact hE
      have dN : d ≠ aN := aNd.symm
      refine dc_keys (d := aN) (o := od2) (kws := dk l) (fun i H4 => Same (upd H3 aN (.frz od2 (.dK (dk l)))) H4 ∧ H4 E = some (.dK (dk ((renL ord l).take i)))) ⟨same_new hE, upd_same⟩ (fun i H4 h => h.1 _ _ upd_same) ?_ ?_
      · rintro i kk vv H4 hkk ⟨s4, hE4⟩
        obtain ⟨n0, v0, hn0, rfl, rfl⟩ := dk_get hkk
        have hd4 : H4 d = some (.dK (nk ord)) := s4 _ _ ((upd_ne dN).trans hd3)
        have hN4 : H4 aN = some (.frz od2 (.dK (dk l))) := s4 _ _ upd_same
        have hv0 : nmv l n0 = v0 := nmv_at nd hn0
        have hm : n0 ∈ l.map (·.1) := List.mem_map.mpr ⟨_, List.mem_of_getElem? hn0, rfl⟩
        refine ⟨rfl, yes_of ⟨_, rfl, _, rfl, d, rfl, .inl ⟨_, .inl hd4⟩, _, rfl, _, rfl, aN, hv v0, rfl, .inl ⟨dk l, Sum.inr n0, .inr ⟨od2, hN4⟩, rfl, by rw [nmv_val hm, hv0]⟩, ?_⟩⟩
        refine (get_ren (a := d) (ord := ord) (H := H4) v0 (.inl hd4)).elim (fun ⟨e1, e2⟩ => .inr ⟨e1, nk ord, .inl hd4, ?_⟩) (fun ⟨ov, g, e2⟩ => .inl ⟨ov, g, ?_⟩)
        all_goals refine ⟨_, (Sum.inr n0 : Key), rfl, hE4, ?_, fun b o e => ?_, ?_⟩
        any_goals
          rw [upd_same, renL_take hn0]
          refine congrArg (fun z => some (HO.dK z)) (put_ren (by first | exact e2.symm | exact e2) ?_)
          rw [List.map_take, renL_fst]
          exact nodup_fresh nd (by rw [List.getElem?_map, hn0]; rfl)
        any_goals
          rw [upd_ne (ne_of_none e hE)]
          exact s4 _ _ e
        all_goals
          rw [dk_len, List.length_take]
          refine Nat.lt_of_le_of_lt (Nat.min_le_right _ _) ?_
          unfold renL
          rw [List.length_map]
          exact small1000 (by omega)
      · rintro H4 ⟨s4, hE4⟩
        have hfull : (renL ord l).take (dk l).length = renL ord l := by
          rw [dk_len]
          refine List.take_of_length_le ?_
          unfold renL
          rw [List.length_map]
          exact Nat.le_refl _
        rw [hfull] at hE4
        refine ⟨s4 _ _ upd_same, ?_⟩
        have S4 : Same H3 (upd H4 aN (.dK (dk l))) := same_unlock hN3 s4
        refine ⟨(by show 3 ≤ sizeLine; decide), fun t ht => ?_⟩
        have hE5 : (upd H4 aN (.dK (dk l))) E = some (.dK (dk (renL ord l))) := (upd_ne hNE.symm).trans hE4
        have S5 : Same (upd H4 aN (.dK (dk l))) (upd (upd H4 aN (.dK (dk l))) t (.tup [.ref aF, .ref D, .ref E])) := same_new ht
        have hts : Hm t = none := S1.free (S2.free (S4.free ht))
        refine k t D E ds' ys j ord _ (fun b o e => S5 _ _ (S4 _ _ (S2 _ _ (S1 _ _ e)))) hts (fr0 hD) (S1.free (S2.free hE3)) (fun x hx => fr0 (dfr x hx).1) upd_same perm srt hlv hnd hlt ?_ (S5 _ _ hE5)
        refine ⟨S5 _ _ (S4 _ _ hD3), by rw [hlen, List.length_map], dnd, fun i' d' o' g1 g2 => ?_, fun o ho => ?_, fun o ho => ?_⟩
        · rw [List.getElem?_map] at g2
          cases e : ord[i']? with
          | none => rw [e] at g2; cases g2
          | some k0 =>
            rw [e] at g2
            have e2 : row os fs ord k0 = o' := Option.some.inj g2
            rw [← e2]
            exact S5 _ _ (S4 _ _ (at3 i' d' k0 g1 e))
        · obtain ⟨k0, _, rfl⟩ := List.mem_map.mp ho
          rw [row_fst]
        · obtain ⟨k0, _, rfl⟩ := List.mem_map.mp ho
          intro p hp2
          obtain ⟨f0, _, rfl⟩ := List.mem_map.mp hp2
          exact ren_ok ..
end
end TW
set_option Elab.async false
set_option linter.all false
set_option maxRecDepth 100000
namespace TW
open PySem PySem.Spec PyProof.Rows L2 TL
def heldb (x : V) (n : Nat) : Bool := decide (x = .non) || btw x 0 ((n : Int) - 1)
theorem held_hv {v : Option Nat} {n : Nat} (h : okv n v) : heldb (hv v) n = true := by
  cases v with
  | none => rfl
  | some i =>
    have h' : i < n := h
    show (decide (V.int (i : Int) = .non) || (decide (0 ≤ (i : Int)) && decide ((i : Int) ≤ (n : Int) - 1))) = true
    rw [decide_eq_true (show (0 : Int) ≤ (i : Int) by omega), decide_eq_true (show (i : Int) ≤ (n : Int) - 1 by omega)]
    simp
theorem kd_hv {K : PySem.W.Frag} {H : Hp} (v : Option Nat) : ∃ T, Kd K H (hv v) T := by
  cases v with
  | none => exact ⟨"NoneType", by decide, .base .non, fun z e => nomatch e⟩
  | some i => exact ⟨"int", by decide, .base (.int _), fun z e => nomatch e⟩
def spHeld (K : PySem.W.Frag) : Sp := fun vs H Q _ => ∃ x T n, vs = [x, .int ((n : Nat) : Int)] ∧ Kd K H x T ∧ Q (.bl (heldb x n)) H
/-- an object that is one -/
def spObj (K : PySem.W.Frag) : Sp := fun vs H Q _ => ∃ (d a : Addr) (o : Ob) (n : Nat) (fs : List Str), vs = [.ref d, .ref a, .int (n : Int)] ∧ H d = some (.dK (dk o)) ∧ (SqL K H a (fs.map V.str) ∨ SqT K H a (fs.map V.str)) ∧ (o.map (·.1)).Perm fs ∧ o.length ≤ 1000 ∧ okl n o ∧ ∀ H', Same H H' → Q (.bl true) H'
def spPath (K : PySem.W.Frag) : Sp := fun vs H Q _ => ∃ (x : V) (T : String) (b : Addr) (ws : List Str), vs = [x, .ref b] ∧ Kd K H x T ∧ SqT K H b (ws.map V.str) ∧
  ((T ≠ "list" ∧ T ≠ "tuple" ∧ ∀ H', Same H H' → Q (.bl false) H') ∨
    ((T = "list" ∨ T = "tuple") ∧ ∃ a xs, x = .ref a ∧ SeqK K H a xs ∧ ∀ H', Same H H' → Q (.bl (xs.all fun y => oneOf y ws)) H'))
abbrev S_is_held : Stmt := topS 21
abbrev N_is_held : List Str := ["value", "many"]
abbrev P_is_held : List Str := ["value", "many"]
theorem sc_is_held : FnScope N_is_held P_is_held (defScope S_is_held) := ⟨rfl, rfl, rfl, by decide +kernel, rfl, by decide +kernel, by decide +kernel⟩
abbrev S_is_object : Stmt := topS 20
abbrev N_is_object : List Str := ["value", "fields", "many", "field"]
abbrev P_is_object : List Str := ["value", "fields", "many"]
theorem sc_is_object : FnScope N_is_object P_is_object (defScope S_is_object) := ⟨rfl, rfl, rfl, by decide +kernel, rfl, by decide +kernel, by decide +kernel⟩
abbrev S_is_path : Stmt := topS 22
abbrev N_is_path : List Str := ["value", "fields", "step"]
abbrev P_is_path : List Str := ["value", "fields"]
theorem sc_is_path : FnScope N_is_path P_is_path (defScope S_is_path) := ⟨rfl, rfl, rfl, by decide +kernel, rfl, by decide +kernel, by decide +kernel⟩
section
variable {P : Program} {w : World} {K : PySem.W.Frag} {mg : Str → Option Value} {base : Heap}
set_option maxHeartbeats 4000000 in
theorem ok_is_held {f fB : Addr} {fd fdB : FuncData} (F : Fun K "is_held" "is_held" S_is_held f fd) (d_is_between : Df K mg "is_between" S_is_between fB fdB P_is_between) (G_is_between : FnOk P w K mg base CX0 2 fB fdB P_is_between (spBtw K)) : FnOk P w K mg base CX0 3 f fd P_is_held (spHeld K) := by
  refine F.ok sc_is_held (fun vs H Q E h => ?_) (fun cdv A outer s H vs Q E hr h => ?_)
  · obtain ⟨x, T, n, rfl, _⟩ := h
    rfl
  · obtain ⟨x, T, n, rfl, hk, k⟩ := h
    have hr_is_between : Room 2 _ := hr.mono (Nat.le_refl 2)
    refine ⟨_, (pss_one (ps_ret (pe_or (pe_cmpR op_isN (pv 0) pe_non (nomark _)) (pe_one (pe_call G_is_between hr_is_between rfl d_is_between.g d_is_between.F.kp d_is_between.b .nil pass0 (pa_cons (pv 0) (pa_cons pe_int (pa_cons (pe_op op_sub (pv 1) pe_int) pa_nil)))))))), ?_⟩
    refine ⟨_, rfl, rfl, _, rfl, ?_⟩
    refine ite_dec (fun hb => ?_) (fun hb => ?_)
    · have e : heldb x n = true := by unfold heldb; rw [hb]; rfl
      rw [e] at k; exact k
    · have e : heldb x n = btw x 0 ((n : Int) - 1) := by unfold heldb; rw [hb]; rfl
      rw [e] at k
      exact ⟨_, rfl, _, rfl, _, _, rfl, rfl, x, T, 0, (n : Int) - 1, rfl, hk, k⟩
set_option maxHeartbeats 4000000 in
theorem ok_is_object {f fB : Addr} {fd fdB : FuncData} (F : Fun K "is_object" "is_object" S_is_object f fd) (B : Bl mg) (d_is_held : Df K mg "is_held" S_is_held fB fdB P_is_held) (G_is_held : FnOk P w K mg base CX0 3 fB fdB P_is_held (spHeld K)) : FnOk P w K mg base CX0 4 f fd P_is_object (spObj K) := by
  refine F.ok sc_is_object (fun vs H Q E h => ?_) (fun cdv A outer s H vs Q E hr h => ?_)
  · obtain ⟨d, a, o, n, fs, rfl, _⟩ := h
    rfl
  · obtain ⟨d, a, o, n, fs, rfl, hd, hA, pm, hol, hok, k⟩ := h
    have hr_is_held : Room 3 _ := hr.mono (Nat.le_refl 3)
    have hu := hu_of hr
    refine ⟨_, (pss_cons (ps_if (PW.pt (pw_or (pt_not (pt_val (pe_callB call_isi (by rfl) B.m_isinstance (by decide +kernel) (pa_cons (pv 0) (pa_cons (pe_bltn (v := .ty "dict") (by rfl) B.m_dict (by decide +kernel) rfl) pa_nil))))) (pw_or1 (pt_cmpR op_ne (pe_callB call_lenD (by rfl) B.m_len PySem.boot_len (pa_cons (pv 0) pa_nil)) (pe_callB call_len_seq (by rfl) B.m_len PySem.boot_len (pa_cons (pv 1) pa_nil)) (nomark _))))) (pss_one (ps_ret pe_bl)) pss_nil)
 (pss_one (ps_ret (pe_callB (cr_all rfl) (by rfl) B.m_all (by decide +kernel) (pa_cons (pe_lc (own := [("field", 3)]) (g := gName 3) (tt := tYes) rfl sc_is_object.nd (pi_seqv 1) (blkOk_by (own := [("field", 3)]) (N := N_is_object) (sc := defScope S_is_object) (by decide +kernel)) (fun _ _ _ _ _ => (pg_name (i := 3) sc_is_object.nd rfl (by first | exact Or.inl rfl | exact Or.inr rfl))) (fun _ _ _ _ _ => pts_nil) (fun _ _ _ _ _ => (pe_and (pe_cmp (pc_din hu (pv 3) (pv 0)) rfl) (pe_one (pe_call G_is_held hr_is_held rfl d_is_held.g d_is_held.F.kp d_is_held.b .nil pass0 (pa_cons (pe_dget hu (pv 0) (pv 3) (fun _ _ => rfl)) (pa_cons (pv 2) pa_nil))))))) pa_nil))))), ?_⟩
    refine ⟨_, rfl, _, _, _, _, _, rfl, .ty "dict", .base (.dK hd), kit7_dict (by decide), _, rfl, ?_⟩
    refine iteF ?_
    refine ⟨_, rfl, d, _, rfl, hd, _, rfl, a, _, rfl, hA, rfl, _, rfl, ?_⟩
    have e : (V.int ((dk o).length : Int)) = V.int ((fs.map V.str).length : Int) := by rw [dk_len, List.length_map, ← pm.length_eq, List.length_map]
    refine iteNS e ?_
    refine ⟨a, rfl, seq_go hA (fun hS => ?_) (fun hS => ?_)⟩
    all_goals
      intro D hD
      first
        | refine lc_list (xs := fs.map V.str) (fun i H2 => Same H H2 ∧ H2 D = some (.lst ((List.replicate i true).map V.bl))) ?_ ?_ ?_ ?_
        | refine lc_tup (xs := fs.map V.str) (fun i H2 => Same H H2 ∧ H2 D = some (.lst ((List.replicate i true).map V.bl))) ?_ ?_ ?_ ?_
      · exact ⟨same_new hD, upd_same⟩
      · rintro i H2 hi2 ⟨s2, h2D⟩
        first
          | exact s2.seq hS
          | exact sqt_same s2 hS
      · rintro i x H2 hx ⟨s2, h2D⟩
        obtain ⟨z, hz, rfl⟩ := get_str hx
        have hm : z ∈ o.map (·.1) := pm.mem_iff.mpr (List.mem_of_getElem? hz)
        have hi : i < o.length := by
          have := (List.getElem?_eq_some_iff.mp hz).1
          have l2 := pm.length_eq
          rw [List.length_map] at l2
          omega
        obtain ⟨T, hk⟩ := kd_hv (K := K) (H := H2) (nmv o z)
        refine ⟨rfl, yes_of ⟨_, rfl, _, rfl, d, _, rfl, DGet.k (k := (Sum.inr z : Key)) (s2 _ _ hd), _, rfl, ?_⟩⟩
        rw [nmv_val hm]
        refine iteT ?_
        refine ⟨_, rfl, _, rfl, d, hv (nmv o z), rfl, dget_dk (k := (Sum.inr z : Key)) (s2 _ _ hd) (nmv_val hm), _, rfl, _, T, n, rfl, hk, _, h2D, by rw [List.length_map, List.length_replicate]; exact small1000 (by omega), ?_, ?_⟩
        · intro b o' e
          rw [upd_ne (ne_of_none e hD)]
          exact s2 _ _ e
        · rw [upd_same, held_hv (okv_look hok z), List.replicate_succ', List.map_append]
          rfl
      · rintro H2 ⟨s2, h2D⟩
        refine ⟨D, _, rfl, SqL.of h2D, ?_⟩
        have e2 : (List.replicate (fs.map V.str).length true).all id = true := by simp
        rw [e2]
        exact k H2 s2
set_option maxHeartbeats 4000000 in
theorem ok_is_path {f fB : Addr} {fd fdB : FuncData} (F : Fun K "is_path" "is_path" S_is_path f fd) (B : Bl mg) (d_is_one_of : Df K mg "is_one_of" S_is_one_of fB fdB P_is_one_of) (G_is_one_of : FnOk P w K mg base CX0 1 fB fdB P_is_one_of (spOneOf K)) : FnOk P w K mg base CX0 2 f fd P_is_path (spPath K) := by
  refine F.ok sc_is_path (fun vs H Q E h => ?_) (fun cdv A outer s H vs Q E hr h => ?_)
  · obtain ⟨x, T, b, ws, rfl, _⟩ := h
    rfl
  · obtain ⟨x, T, b, ws, rfl, hk, hB, k⟩ := h
    have hr_is_one_of : Room 1 _ := hr.mono (Nat.le_refl 1)
    refine ⟨_, (pss_cons (ps_if (pt_not (pt_val (pe_callB call_isiT (by rfl) B.m_isinstance (by decide +kernel) (pa_cons (pv 0) (pa_cons (pe_tup (pa_cons (pe_bltn (v := .ty "list") (by rfl) B.m_list (by decide +kernel) rfl) (pa_cons (pe_bltn (v := .ty "tuple") (by rfl) B.m_tuple (by decide +kernel) rfl) pa_nil))) pa_nil))))) (pss_one (ps_ret pe_bl)) pss_nil)
 (pss_one (ps_ret (pe_callB (cr_all rfl) (by rfl) B.m_all (by decide +kernel) (pa_cons (pe_lc (own := [("step", 2)]) (g := gName 2) (tt := tYes) rfl sc_is_path.nd (pi_seqv 0) (blkOk_by (own := [("step", 2)]) (N := N_is_path) (sc := defScope S_is_path) (by decide +kernel)) (fun _ _ _ _ _ => (pg_name (i := 2) sc_is_path.nd rfl (by first | exact Or.inl rfl | exact Or.inr rfl))) (fun _ _ _ _ _ => pts_nil) (fun _ _ _ _ _ => (pe_call G_is_one_of hr_is_one_of rfl d_is_one_of.g d_is_one_of.F.kp d_is_one_of.b .nil pass0 (pa_cons (pv 2) (pa_cons (pv 1) pa_nil))))) pa_nil))))), ?_⟩
    rcases k with ⟨n1, n2, k⟩ | ⟨hT, a, xs, rfl, S, k⟩
    · refine ⟨_, rfl, (by show 2 ≤ sizeLine; decide), fun t ht => ⟨_, t, _, _, [.type "list", .type "tuple"], _, rfl, upd_same, .cons (.ty "list") (.cons (.ty "tuple") .nil), (hk.same (same_new ht)).t, kit7_seq hk.m, _, rfl, ?_⟩⟩
      have e : (T == "list" || T == "tuple") = false := by simp [n1, n2]
      rw [e]
      exact k _ (same_new ht)
    · refine ⟨_, rfl, (by show 2 ≤ sizeLine; decide), fun t ht => ⟨_, t, _, _, [.type "list", .type "tuple"], _, rfl, upd_same, .cons (.ty "list") (.cons (.ty "tuple") .nil), (hk.same (same_new ht)).t, kit7_seq hk.m, _, rfl, ?_⟩⟩
      have s1 := same_new (H := H) (o := HO.tup [V.ty "list", V.ty "tuple"]) ht
      have S1 := S.same s1
      have e : (T == "list" || T == "tuple") = true := kd_list (K := K) (H := H) (a := a) hT
      rw [e]
      refine iteF ?_
      refine ⟨a, rfl, seq_go S1.at' (fun hS => ?_) (fun hS => ?_)⟩
      all_goals
        intro D hD
        first
          | refine lc_list (xs := xs) (fun i H2 => Same (upd H t (.tup [V.ty "list", V.ty "tuple"])) H2 ∧ H2 D = some (.lst (((xs.take i).map fun y => oneOf y ws).map V.bl))) ?_ ?_ ?_ ?_
          | refine lc_tup (xs := xs) (fun i H2 => Same (upd H t (.tup [V.ty "list", V.ty "tuple"])) H2 ∧ H2 D = some (.lst (((xs.take i).map fun y => oneOf y ws).map V.bl))) ?_ ?_ ?_ ?_
        · exact ⟨same_new hD, upd_same⟩
        · rintro i H2 hi2 ⟨s2, h2D⟩
          first
            | exact s2.seq hS
            | exact sqt_same s2 hS
        · rintro i x H2 hx ⟨s2, h2D⟩
          obtain ⟨T2, hk2⟩ := S.ks x (List.mem_of_getElem? hx)
          have s02 := s1.trans s2
          refine ⟨rfl, yes_of ⟨_, rfl, _, rfl, x, T2, b, ws, rfl, hk2.same s02, .inr (.inr (sqt_same s02 hB)), _, h2D, ?_, ?_, ?_⟩⟩
          · rw [List.length_map, List.length_map, List.length_take]
            exact Nat.lt_of_le_of_lt (Nat.le_trans (Nat.min_le_right _ _) S.z) (by decide)
          · intro b' o' e
            rw [upd_ne (ne_of_none e hD)]
            exact s2 _ _ e
          · rw [upd_same, take_next' hx, List.map_append, List.map_append]
            rfl
        · rintro H2 ⟨s2, h2D⟩
          rw [List.take_length] at h2D
          refine ⟨D, _, rfl, SqL.of h2D, ?_⟩
          have e2 : (xs.map fun y => oneOf y ws).all id = xs.all fun y => oneOf y ws := by rw [List.all_map]; rfl
          rw [e2]
          exact k H2 (s1.trans s2)
end
end TW
set_option Elab.async false
set_option linter.all false
set_option maxRecDepth 100000
namespace TW
open PySem PySem.Spec PyProof.Rows L2 TL
theorem for_enum {K : PySem.W.Frag} {a : Addr} {xs : List V} {g : TG} {tb : TS} {D : Ends} {σ : St'} {H : Hp} (Pv : Nat → St' → Hp → Prop) (h0 : Pv 0 σ H) (hl : ∀ i σ H, Pv i σ H → SqL K H a xs)
    (hs : ∀ (i : Nat) (x : V) (T : Addr) (σ : St') (H : Hp), xs[i]? = some x → Pv i σ H → H T = none → g (.ref T) σ (upd H T (.tup [.int (i : Nat), x])) fun σ2 H2 => tb { D with nx := Pv (i + 1), ct := Pv (i + 1), bk := D.nx } σ2 H2) (hd : ∀ σ H, Pv xs.length σ H → D.nx σ H) :
    ∃ W : Nat → Nat → St' → Hp → Prop, (∃ m, W 0 m σ H) ∧ ∀ i m σ H, W i m σ H →
      ((Ite K a).stop i H ∧ D.nx σ H) ∨ ((Ite K a).go i H ∧ ∃ N : St' → Hp → Prop, (∀ σ' H', N σ' H' → ∃ m', m' < m ∧ W (i + 1) m' σ' H') ∧ ∀ v H', (Ite K a).yld i H v H' → g v σ H' fun σ2 H2 => tb { D with nx := N, ct := N, bk := D.nx } σ2 H2) := by
  refine ⟨fun i m σ H => m = xs.length - i ∧ i ≤ xs.length ∧ Pv i σ H, ⟨_, rfl, Nat.zero_le _, h0⟩, ?_⟩
  rintro i m σ H ⟨rfl, hi, p⟩
  have q := hl i σ H p
  by_cases lt : i < xs.length
  · refine .inr ⟨⟨xs, xs[i], q, List.getElem?_eq_getElem lt⟩, Pv (i + 1), fun σ' H' p' => ⟨xs.length - (i + 1), by omega, rfl, lt, p'⟩, fun v H' hy => ?_⟩
    obtain ⟨T, x, rfl, hT, rfl, f⟩ := hy
    exact hs i x T σ H (f xs q) p hT
  · have e : i = xs.length := by omega
    subst e
    exact .inl ⟨⟨xs, q, Nat.le_refl _⟩, hd σ H p⟩
def spChkO (K : PySem.W.Frag) : Sp := fun vs H Q _ => ∃ (aF aO : Addr) (fs : List Str) (ds : List Addr) (os : List Ob), vs = [.ref aF, .ref aO] ∧ (SqL K H aF (fs.map V.str) ∨ SqT K H aF (fs.map V.str)) ∧ fs.Nodup ∧ fs.length ≤ 2 ∧ ObjsAt H aO ds fs os.length os ∧ os.length ≤ 200 ∧ ∀ H', Same H H' → Q .non H'
def spChkN (K : PySem.W.Frag) : Sp := fun vs H Q _ => ∃ (aN : Addr) (l : Ob) (n : Nat), vs = [.ref aN, .int (n : Int)] ∧ H aN = some (.dK (dk l)) ∧ l.length ≤ 6 ∧ (∀ z ∈ l.map (·.1), IsW z) ∧ okl n l ∧ ∀ H', Same H H' → Q .non H'
abbrev S_check_objects : Stmt := topS 18
abbrev N_check_objects : List Str := ["fields", "objects", "number", "one"]
abbrev P_check_objects : List Str := ["fields", "objects"]
theorem sc_check_objects : FnScope N_check_objects P_check_objects (defScope S_check_objects) := ⟨rfl, rfl, rfl, by decide +kernel, rfl, by decide +kernel, by decide +kernel⟩
abbrev S_check_names : Stmt := topS 19
abbrev N_check_names : List Str := ["names", "many", "name"]
abbrev P_check_names : List Str := ["names", "many"]
theorem sc_check_names : FnScope N_check_names P_check_names (defScope S_check_names) := ⟨rfl, rfl, rfl, by decide +kernel, rfl, by decide +kernel, by decide +kernel⟩
abbrev S_Heap___init__ : Stmt := inClass (topS 17) 0
abbrev N_Heap___init__ : List Str := ["self", "fields", "objects", "names", "one"]
abbrev P_Heap___init__ : List Str := ["self", "fields", "objects", "names"]
theorem sc_Heap___init__ : FnScope N_Heap___init__ P_Heap___init__ (defScope S_Heap___init__) := ⟨rfl, rfl, rfl, by decide +kernel, rfl, by decide +kernel, by decide +kernel⟩
theorem kd_word {K : PySem.W.Frag} {H : Hp} {z : Str} (h : IsW z) : Kd K H (.str z) "str" := ⟨by decide, .base (.str z), fun y e => by injection e with e; subst e; exact Nat.le_trans h.2.1 (by decide)⟩
section
variable {P : Program} {w : World} {K : PySem.W.Frag} {mg : Str → Option Value} {base : Heap}
set_option maxHeartbeats 4000000 in
theorem ok_check_objects {f fB : Addr} {fd fdB : FuncData} {t : Tok} (F : Fun K "check_objects" "check_objects" S_check_objects f fd) (B : Bl mg) (m_MOST_OBJECTS : mg "MOST_OBJECTS" = some (.int 200 t)) (d_is_object : Df K mg "is_object" S_is_object fB fdB P_is_object) (G_is_object : FnOk P w K mg base CX0 4 fB fdB P_is_object (spObj K)) : FnOk P w K mg base CX0 5 f fd P_check_objects (spChkO K) := by
  refine F.ok sc_check_objects (fun vs H Q E h => ?_) (fun cdv A outer s H vs Q E hr h => ?_)
  · obtain ⟨aF, aO, fs, ds, os, rfl, _⟩ := h
    rfl
  · obtain ⟨aF, aO, fs, ds, os, rfl, hF, nd, hfl, O, hos, k⟩ := h
    have hr_is_object : Room 4 _ := hr.mono (Nat.le_refl 4)
    refine ⟨_, (pss_cons (ps_if (PW.pt (pw_or (pt_not (pt_val (pe_callB call_isi (by rfl) B.m_isinstance (by decide +kernel) (pa_cons (pv 1) (pa_cons (pe_bltn (v := .ty "list") (by rfl) B.m_list (by decide +kernel) rfl) pa_nil))))) (pw_or1 (pt_cmpR op_gt (pe_callB call_len_seq (by rfl) B.m_len PySem.boot_len (pa_cons (pv 1) pa_nil)) (pe_glob (v := .int _) rfl m_MOST_OBJECTS ⟨_, rfl⟩) (nomark _))))) (pss_one ps_never) pss_nil)
 (pss_one (ps_for PassesOwn.never rfl (pi_enum (by rfl) B.m_enumerate (pa_cons (pv 1) pa_nil)) (pg_tup rfl (pgs_cons (pg_name (i := 2) sc_check_objects.nd rfl (by first | exact Or.inl rfl | exact Or.inr rfl)) (pgs_cons (pg_name (i := 3) sc_check_objects.nd rfl (by first | exact Or.inl rfl | exact Or.inr rfl)) pgs_nil))) (pss_one (ps_if (pt_not (pt_val (pe_call G_is_object hr_is_object rfl d_is_object.g d_is_object.F.kp d_is_object.b .nil pass0 (pa_cons (pv 3) (pa_cons (pv 0) (pa_cons (pe_callB call_len_seq (by rfl) B.m_len PySem.boot_len (pa_cons (pv 1) pa_nil)) pa_nil)))))) (pss_one ps_never) pss_nil))))), ?_⟩
    refine ⟨_, rfl, _, _, _, _, _, rfl, .ty "list", .base (.lst O.ls), kit7_list (by decide), _, rfl, ?_⟩
    refine iteF ?_
    refine ⟨_, rfl, aO, _, rfl, .inl (SqL.of O.ls), _, _, rfl, rfl, _, rfl, ?_⟩
    have e : decide ((200 : Int) < ((ds.map V.ref).length : Int)) = false := decide_eq_false (by rw [List.length_map, O.len]; omega)
    refine ite_dec (fun hb => ?_) (fun hb => ?_)
    · have hb' : decide ((200 : Int) < ((ds.map V.ref).length : Int)) = true := hb
      rw [e] at hb'; cases hb'
    · refine ⟨_, rfl, aO, _, rfl, SqL.of O.ls, for_enum (xs := ds.map V.ref) (fun i σ H2 => ∃ z1 z2, σ = [some (.ref aF), some (.ref aO), z1, z2] ∧ Same H H2) ⟨_, _, rfl, Same.refl H⟩ ?_ ?_ ?_⟩
      · rintro i σ H2 ⟨z1, z2, rfl, s2⟩
        exact SqL.of (s2 _ _ O.ls)
      · rintro i x T σ H2 hx ⟨z1, z2, rfl, s2⟩ hT
        rw [List.getElem?_map] at hx
        cases ed : ds[i]? with
        | none => rw [ed] at hx; cases hx
        | some d =>
          rw [ed] at hx
          obtain rfl : V.ref d = x := Option.some.inj hx
          have s3 : Same H (upd H2 T (.tup [.int (i : Nat), .ref d])) := s2.trans (same_new hT)
          have hi : i < os.length := by rw [← O.len]; exact (List.getElem?_eq_some_iff.mp ed).1
          have ho : os[i]? = some os[i] := List.getElem?_eq_getElem hi
          have hm := List.getElem_mem hi
          have hks := O.ks _ hm
          refine ⟨T, _, rfl, SqT.of upd_same, rfl, _, _, rfl, _, _, rfl, rfl, ?_⟩
          have hol : (os[i]).length ≤ 1000 := by rw [← List.length_map (f := (·.1)), hks.length_eq]; omega
          refine ⟨_, rfl, _, rfl, _, rfl, aO, _, rfl, .inl (SqL.of (s3 _ _ O.ls)), d, aF, os[i], os.length, fs, ?_, s3 _ _ (O.at' i d _ ed ho), seq_same s3 hF, hks, hol, O.ok _ hm, fun H4 s4 => ⟨_, rfl, ?_⟩⟩
          · rw [List.length_map, O.len]
            rfl
          · refine iteF ?_
            exact ⟨_, _, rfl, s3.trans s4⟩
      · rintro σ H2 ⟨z1, z2, rfl, s2⟩
        exact k H2 s2
set_option maxHeartbeats 4000000 in
theorem ok_check_names {f fB fW : Addr} {fd fdB fdW : FuncData} {t : Tok} (F : Fun K "check_names" "check_names" S_check_names f fd) (B : Bl mg) (m_MOST_NAMES : mg "MOST_NAMES" = some (.int 6 t)) (d_is_held : Df K mg "is_held" S_is_held fB fdB P_is_held) (G_is_held : FnOk P w K mg base CX0 3 fB fdB P_is_held (spHeld K))
    (d_is_word : Df K mg "is_word" S_is_word fW fdW P_is_word) (G_is_word : FnOk P w K mg base CX0 1 fW fdW P_is_word (spIsW K)) : FnOk P w K mg base CX0 4 f fd P_check_names (spChkN K) := by
  refine F.ok sc_check_names (fun vs H Q E h => ?_) (fun cdv A outer s H vs Q E hr h => ?_)
  · obtain ⟨aN, l, n, rfl, _⟩ := h
    rfl
  · obtain ⟨aN, l, n, rfl, hN, hl6, hw, hok, k⟩ := h
    have hr_is_held : Room 3 _ := hr.mono (Nat.le_refl 3)
    have hr_is_word : Room 1 _ := hr.mono (by decide)
    have hu := hu_of hr
    refine ⟨_, (pss_cons (ps_if (PW.pt (pw_or (pt_not (pt_val (pe_callB call_isi (by rfl) B.m_isinstance (by decide +kernel) (pa_cons (pv 0) (pa_cons (pe_bltn (v := .ty "dict") (by rfl) B.m_dict (by decide +kernel) rfl) pa_nil))))) (pw_or1 (pt_cmpR op_gt (pe_callB call_lenD (by rfl) B.m_len PySem.boot_len (pa_cons (pv 0) pa_nil)) (pe_glob (v := .int _) rfl m_MOST_NAMES ⟨_, rfl⟩) (nomark _))))) (pss_one ps_never) pss_nil)
 (pss_cons (ps_if (pt_not (pt_val (pe_callB (cr_all rfl) (by rfl) B.m_all (by decide +kernel) (pa_cons (pe_lock (pe_lc (own := [("name", 2)]) (g := gName 2) (tt := tYes) rfl sc_check_names.nd (pi_keys (pv 0)) (blkOk_by (own := [("name", 2)]) (N := N_check_names) (sc := defScope S_check_names) (by decide +kernel)) (fun _ _ _ _ _ => (pg_name (i := 2) sc_check_names.nd rfl (by first | exact Or.inl rfl | exact Or.inr rfl))) (fun _ _ _ _ _ => pts_nil) (fun _ _ _ _ _ => (pe_call G_is_word hr_is_word rfl d_is_word.g d_is_word.F.kp d_is_word.b .nil pass0 (pa_cons (pv 2) pa_nil))))) pa_nil)))) (pss_one ps_never) pss_nil)
 (pss_one (ps_for PassesOwn.never rfl (pi_list (pe_callB (call_sortedD rfl) (by rfl) B.m_sorted (by decide +kernel) (pa_cons (pv 0) pa_nil))) (pg_name (i := 2) sc_check_names.nd rfl (by first | exact Or.inl rfl | exact Or.inr rfl)) (pss_one (ps_if (pt_not (pt_val (pe_call G_is_held hr_is_held rfl d_is_held.g d_is_held.F.kp d_is_held.b .nil pass0 (pa_cons (pe_dget hu (pv 0) (pv 2) (fun _ _ => rfl)) (pa_cons (pv 1) pa_nil))))) (pss_one ps_never) pss_nil)))))), ?_⟩
    refine ⟨_, rfl, _, _, _, _, _, rfl, .ty "dict", .base (.dK hN), kit7_dict (by decide), _, rfl, ?_⟩
    refine iteF ?_
    refine ⟨_, rfl, aN, _, rfl, hN, _, _, rfl, rfl, _, rfl, ?_⟩
    have e : decide ((6 : Int) < ((dk l).length : Int)) = false := decide_eq_false (by rw [dk_len]; omega)
    refine ite_dec (fun hb => ?_) (fun hb => ?_)
    · have hb' : decide ((6 : Int) < ((dk l).length : Int)) = true := hb
      rw [e] at hb'; cases hb'
    · -- all words
      refine ⟨aN, .dK (dk l), hN, trivial, fun od => ⟨_, rfl, aN, od, rfl, .inl ⟨dk l, upd_same, fun D hD => lc_keys (d := aN) (o := od) (kvs := dk l) (fun i H2 => Same (upd H aN (.frz od (.dK (dk l)))) H2 ∧ H2 D = some (.lst ((List.replicate i true).map V.bl))) ⟨same_new hD, upd_same⟩ (fun i H2 h => h.1 _ _ upd_same) ?_ ?_⟩⟩⟩
      · rintro i kk vv H2 hkk ⟨s2, h2D⟩
        obtain ⟨n0, v0, hn0, rfl, rfl⟩ := dk_get hkk
        have hi : i < l.length := (List.getElem?_eq_some_iff.mp hn0).1
        have hz := hw n0 (List.mem_map.mpr ⟨_, List.mem_of_getElem? hn0, rfl⟩)
        refine ⟨rfl, yes_of ⟨_, rfl, _, _, rfl, kd_word hz, fun H3 s3 => ⟨_, s3 _ _ h2D, by rw [List.length_map, List.length_replicate]; exact small1000 (by omega), fun b o e => ?_, ?_⟩⟩⟩
        · rw [upd_ne (ne_of_none e hD)]
          exact s3 _ _ (s2 _ _ e)
        · have ew : isWb (.str n0) = true := decide_eq_true hz
          rw [upd_same]
          show some (HO.lst ((List.replicate i true).map V.bl ++ [V.bl (isWb (.str n0))])) = _
          rw [ew, List.replicate_succ', List.map_append]
          rfl
      · rintro H2 ⟨s2, h2D⟩
        refine ⟨s2 _ _ upd_same, ?_⟩
        have S2 : Same H (upd H2 aN (.dK (dk l))) := same_unlock hN s2
        have DN : D ≠ aN := fun e => by rw [e, upd_same] at hD; cases hD
        refine ⟨D, _, rfl, SqL.of ((upd_ne DN).trans h2D), _, rfl, ?_⟩
        have e2 : (List.replicate (dk l).length true).all id = true := by simp
        rw [e2]
        refine iteF ?_
        generalize upd H2 aN (.dK (dk l)) = H3 at *
        -- for name in sorted(names)
        refine ⟨_, rfl, aN, dk l, l.map (·.1), rfl, .inl (S2 _ _ hN), by unfold dk; rw [List.map_map, List.map_map]; rfl, by rw [List.length_map]; omega, fun ys p perm srt hp => ⟨p, rfl, ⟨_, SqL.of upd_same⟩, ?_⟩⟩
        have S3 : Same H (upd H3 p (.lst (ys.map V.str))) := S2.trans (same_new hp)
        refine for_list (xs := ys.map V.str) (fun i σ H4 => ∃ z2, σ = [some (.ref aN), some (.int (n : Int)), z2] ∧ Same (upd H3 p (.lst (ys.map V.str))) H4) ⟨_, rfl, Same.refl _⟩ ?_ ?_ ?_
        · rintro i σ H4 _ ⟨z2, rfl, s4⟩
          exact SqL.of (s4 _ _ upd_same)
        · rintro i x σ H4 hx ⟨z2, rfl, s4⟩
          obtain ⟨z, hz, rfl⟩ := get_str hx
          have hm : z ∈ l.map (·.1) := perm.mem_iff.mp (List.mem_of_getElem? hz)
          obtain ⟨T, hk⟩ := kd_hv (K := K) (H := H4) (nmv l z)
          refine ⟨_, rfl, _, rfl, aN, hv (nmv l z), rfl, dget_dk (k := (Sum.inr z : Key)) (s4 _ _ (S3 _ _ hN)) (nmv_val hm), _, rfl, _, T, n, rfl, hk, _, rfl, ?_⟩
          rw [held_hv (okv_look hok z)]
          refine iteF ?_
          exact ⟨_, rfl, s4⟩
        · rintro σ H4 ⟨z2, rfl, s4⟩
          exact k H4 (S3.trans s4)
end
end TW
set_option Elab.async false
set_option linter.all false
set_option maxRecDepth 100000
namespace TW
open PySem PySem.Spec PyProof.Rows L2 TL LamX NdefX LamQ
theorem n1 : ¬ (("fields" : Str) = "_objects") := by decide +kernel
theorem n2 : ¬ (("fields" : Str) = "_names") := by decide +kernel
theorem n3 : ¬ (("fields" : Str) = "_form") := by decide +kernel
theorem n4 : ¬ (("_objects" : Str) = "_names") := by decide +kernel
theorem n5 : ¬ (("_objects" : Str) = "_form") := by decide +kernel
theorem n6 : ¬ (("_names" : Str) = "_form") := by decide +kernel
/-- where the parts of a Heap stand -/
structure HP where
  dx : Addr
  tF : Addr
  qO : Addr
  qN : Addr
  t : Addr
  rD : Addr
  nD : Addr
  ds : List Addr
  ds2 : List Addr
  ord : List Nat
def hfl (p : HP) : List (Str × V) := putF "_form" (.ref p.t) (putF "_names" (.ref p.qN) (putF "_objects" (.ref p.qO) (putF "fields" (.ref p.tF) [])))
theorem hfl_fields (p : HP) : (hfl p).lookup ("fields" : Str) = some (.ref p.tF) := by
  unfold hfl
  rw [lookup_putF, if_neg n3, lookup_putF, if_neg n2, lookup_putF, if_neg n1, lookup_putF, if_pos rfl]
theorem hfl_objects (p : HP) : (hfl p).lookup ("_objects" : Str) = some (.ref p.qO) := by
  unfold hfl
  rw [lookup_putF, if_neg n5, lookup_putF, if_neg n4, lookup_putF, if_pos rfl]
theorem hfl_names (p : HP) : (hfl p).lookup ("_names" : Str) = some (.ref p.qN) := by
  unfold hfl
  rw [lookup_putF, if_neg n6, lookup_putF, if_pos rfl]
theorem hfl_form (p : HP) : (hfl p).lookup ("_form" : Str) = some (.ref p.t) := by
  unfold hfl
  rw [lookup_putF, if_pos rfl]
theorem hfl_none (p : HP) {m : Str} (h1 : ¬ m = "fields") (h2 : ¬ m = "_objects") (h3 : ¬ m = "_names") (h4 : ¬ m = "_form") : (hfl p).lookup m = none := by
  unfold hfl
  rw [lookup_putF, if_neg h4, lookup_putF, if_neg h3, lookup_putF, if_neg h2, lookup_putF, if_neg h1]
  rfl
/-- what a heap is made of -/
structure Good (fs : List Str) (os : List Ob) (l : Ob) : Prop where
  fw : ∀ z ∈ fs, IsW z
  fn : fs.Nodup
  f1 : 1 ≤ fs.length
  f2 : fs.length ≤ 2
  o2 : os.length ≤ 200
  oks : ∀ o ∈ os, (o.map (·.1)).Perm fs
  ook : ∀ o ∈ os, okl os.length o
  lw : ∀ z ∈ l.map (·.1), IsW z
  ln : (l.map (·.1)).Nodup
  l6 : l.length ≤ 6
  lk : okl os.length l
/-- a Heap at h -/
structure HeapAt (K : PySem.W.Frag) (C : Addr) (H : Hp) (h : Addr) (fs : List Str) (os : List Ob) (l : Ob) (p : HP) : Prop where
  ob : H h = some (.ins C p.dx (hfl p))
  f : H p.tF = some (.tup (fs.map V.str))
  o : ObjsAt H p.qO p.ds fs os.length os
  n : H p.qN = some (.dK (dk l))
  t : H p.t = some (.tup [.ref p.tF, .ref p.rD, .ref p.nD])
  r : ObjsAt H p.rD p.ds2 fs p.ord.length (p.ord.map (row os fs p.ord))
  m : H p.nD = some (.dK (dk (renL p.ord l)))
  lv : ∃ (ys : List Str) (j : Nat), ys.Perm (l.map (·.1)) ∧ sortedS ys = true ∧ lvs os fs (ys.map (nmv l)) j = (p.ord, [])
  nd : p.ord.Nodup
  lt : ∀ k ∈ p.ord, k < os.length
  g : Good fs os l
theorem HeapAt.same {K : PySem.W.Frag} {C h : Addr} {H H' : Hp} {fs : List Str} {os : List Ob} {l : Ob} {p : HP} (A : HeapAt K C H h fs os l p) (s : Same H H') : HeapAt K C H' h fs os l p :=
  ⟨s _ _ A.ob, s _ _ A.f, A.o.same s, s _ _ A.n, s _ _ A.t, A.r.same s, s _ _ A.m, A.lv, A.nd, A.lt, A.g⟩
/-- all of it new, but the fields' tuple, which may be aF -/
structure HNew (H : Hp) (aF : Addr) (p : HP) : Prop where
  tF : H p.tF = none ∨ p.tF = aF
  qO : H p.qO = none
  qN : H p.qN = none
  t : H p.t = none
  rD : H p.rD = none
  nD : H p.nD = none
  ds : ∀ d ∈ p.ds, H d = none
  ds2 : ∀ d ∈ p.ds2, H d = none
theorem Tabs.but {T : List (Addr × Str)} {H H' : Hp} {h : Addr} {C dx : Addr} {fl : List (Str × V)} (t : Tabs T H) (hh : H h = some (.ins C dx fl)) (k : ∀ b o, H b = some o → b ≠ h → H' b = some o) : Tabs T H' := fun p hp => by
  obtain ⟨ps, h1, h2, h3⟩ := t p hp
  refine ⟨ps, k _ _ h1 (fun z => by rw [z, hh] at h1; cases h1), h2, fun pos cv hc => ?_⟩
  obtain ⟨c, e1, e2⟩ := h3 pos cv hc
  refine ⟨c, e1, k _ _ e2 fun z => ?_⟩
  rw [z, hh] at e2
  unfold CodeO at e2
  cases e2
def spInit (K : PySem.W.Frag) (C Pt : Addr) : Sp := fun vs H Q _ => ∃ (h dx aF aO aN : Addr) (fs : List Str) (ds0 : List Addr) (os : List Ob) (l : Ob), vs = [.ref h, .ref aF, .ref aO, .ref aN] ∧ Tabs (TB1 Pt) H ∧ H h = some (.ins C dx []) ∧
  (H aF = some (.lst (fs.map V.str)) ∨ H aF = some (.tup (fs.map V.str))) ∧ ObjsAt H aO ds0 fs os.length os ∧ H aN = some (.dK (dk l)) ∧ Good fs os l ∧
  ∀ (p : HP) (H' : Hp), (∀ b o, H b = some o → (∀ ps, o ≠ .tbl ps) → b ≠ h → H' b = some o) → (∀ x, H' x = none → H x = none) → Tabs (TB1 Pt) H' → HeapAt K C H' h fs os l p → HNew H aF p → Q .non H'
/-- what the walk asks of the class -/
structure HC (K : PySem.W.Frag) (mg : Str → Option Value) (C : Addr) : Prop where
  cl : Cls K C
  nF : NoAttr K C "fields"
  nO : NoAttr K C "_objects"
  nN : NoAttr K C "_names"
  nM : NoAttr K C "_form"
  g : mg "Heap" = some (.ref C)
theorem areW_fields {fs : List Str} {os : List Ob} {l : Ob} (G : Good fs os l) : AreW (fs.map V.str) 1 2 := ⟨fs, rfl, G.fw, G.fn, by have := G.f1; omega, by have := G.f2; omega⟩
theorem lk_f (a b c : Addr) : (putF "_names" (.ref c) (putF "_objects" (.ref b) (putF "fields" (.ref a) []))).lookup ("fields" : Str) = some (V.ref a) := by
  rw [lookup_putF, if_neg n2, lookup_putF, if_neg n1, lookup_putF, if_pos rfl]
theorem lk_o (a b c : Addr) : (putF "_names" (.ref c) (putF "_objects" (.ref b) (putF "fields" (.ref a) []))).lookup ("_objects" : Str) = some (V.ref b) := by
  rw [lookup_putF, if_neg n4, lookup_putF, if_pos rfl]
theorem lk_n (a b c : Addr) : (putF "_names" (.ref c) (putF "_objects" (.ref b) (putF "fields" (.ref a) []))).lookup ("_names" : Str) = some (V.ref c) := by
  rw [lookup_putF, if_pos rfl]
section
variable {P : Program} {w : World} {K : PySem.W.Frag} {mg : Str → Option Value} {base : Heap}
set_option maxHeartbeats 8000000 in
theorem ok_init {f C Pt fA fO fN fM : Addr} {fd fdA fdO fdN fdM : FuncData} (F : Fun K "__init__" "Heap.__init__" S_Heap___init__ f fd) (B : Bl mg) (T : HC K mg C)
    (d_are_fields : Df K mg "are_fields" S_are_fields fA fdA P_are_fields) (G_are_fields : FnOk P w K mg base CX0 3 fA fdA P_are_fields (spAreF K))
    (d_check_objects : Df K mg "check_objects" S_check_objects fO fdO P_check_objects) (G_check_objects : FnOk P w K mg base CX0 5 fO fdO P_check_objects (spChkO K))
    (d_check_names : Df K mg "check_names" S_check_names fN fdN P_check_names) (G_check_names : FnOk P w K mg base CX0 4 fN fdN P_check_names (spChkN K))
    (d_normal_form : Df K mg "normal_form" S_normal_form fM fdM P_normal_form) (G_normal_form : FnOk P w K mg base CX0 3 fM fdM P_normal_form (spNF K Pt)) : FnOk P w K mg base CX0 6 f fd P_Heap___init__ (spInit K C Pt) := by
  refine F.ok sc_Heap___init__ (fun vs H Q E h => ?_) (fun cdv A outer s H vs Q E hr h => ?_)
  · obtain ⟨h, dx, aF, aO, aN, fs, ds0, os, l, rfl, _⟩ := h
    rfl
  · obtain ⟨h, dx, aF, aO, aN, fs, ds0, os, l, rfl, hTb, hh, hF, O, hN, G, k⟩ := h
    have hr_are_fields : Room 3 _ := hr.mono (by decide)
    have hr_check_objects : Room 5 _ := hr.mono (by decide)
    have hr_check_names : Room 4 _ := hr.mono (by decide)
    have hr_normal_form : Room 3 _ := hr.mono (by decide)
    refine ⟨_, (pss_cons (ps_if (pt_not (pt_val (pe_call G_are_fields hr_are_fields rfl d_are_fields.g d_are_fields.F.kp d_are_fields.b .nil pass0 (pa_cons (pv 1) pa_nil)))) (pss_one ps_never) pss_nil)
 (pss_cons (ps_expr (pe_call G_check_objects hr_check_objects rfl d_check_objects.g d_check_objects.F.kp d_check_objects.b .nil pass0 (pa_cons (pv 1) (pa_cons (pv 2) pa_nil))))
 (pss_cons (ps_expr (pe_call G_check_names hr_check_names rfl d_check_names.g d_check_names.F.kp d_check_names.b .nil pass0 (pa_cons (pv 3) (pa_cons (pe_callB call_len_seq (by rfl) B.m_len PySem.boot_len (pa_cons (pv 2) pa_nil)) pa_nil))))
 (pss_cons (ps_fld (pv 0) (pe_callTy call_tuple_of (by rfl) B.m_tuple (by decide +kernel) (pa_cons (pv 1) pa_nil)) rfl)
 (pss_cons (ps_fld (pv 0) (pe_lc (own := [("one", 4)]) (g := gName 4) (tt := tYes) rfl sc_Heap___init__.nd (pi_list (pv 2)) (blkOk_by (own := [("one", 4)]) (N := N_Heap___init__) (sc := defScope S_Heap___init__) (by decide +kernel)) (fun _ _ _ _ _ => (pg_name (i := 4) sc_Heap___init__.nd rfl (by first | exact Or.inl rfl | exact Or.inr rfl))) (fun _ _ _ _ _ => pts_nil) (fun _ _ _ _ _ => (pe_callTy call_dictD (by rfl) B.m_dict (by decide +kernel) (pa_cons (pv 4) pa_nil)))) rfl)
 (pss_cons (ps_fld (pv 0) (pe_callTy call_dictD (by rfl) B.m_dict (by decide +kernel) (pa_cons (pv 3) pa_nil)) rfl)
 (pss_one (ps_fld (pv 0) (pe_call G_normal_form hr_normal_form rfl d_normal_form.g d_normal_form.F.kp d_normal_form.b .nil pass0 (pa_cons (pe_fld (pv 0) rfl) (pa_cons (pe_fld (pv 0) rfl) (pa_cons (pe_fld (pv 0) rfl) pa_nil)))) rfl)))))))), ?_⟩
    -- are_fields
    have hsq : SqL K H aF (fs.map V.str) ∨ SqT K H aF (fs.map V.str) := hF.elim (fun h => .inl (SqL.of h)) fun h => .inr (SqT.of h)
    obtain ⟨TF, hTF, hkF⟩ : ∃ T, (T = "list" ∨ T = "tuple") ∧ Kd K H (.ref aF) T := hF.elim (fun h => ⟨"list", .inl rfl, by decide, .base (.lst h), fun z e => nomatch e⟩) fun h => ⟨"tuple", .inr rfl, by decide, .base (.tup h), fun z e => nomatch e⟩
    have hsk : SeqK K H aF (fs.map V.str) := ⟨hsq, by rw [List.length_map]; have := G.f2; omega, fun y hy => by
      obtain ⟨z, hz, rfl⟩ := List.mem_map.mp hy
      exact ⟨_, kd_word (G.fw z hz)⟩⟩
    refine ⟨_, rfl, _, TF, rfl, hkF, .inr ⟨hTF, aF, _, rfl, hsk, fun b H1 s1 hb => ⟨_, rfl, ?_⟩⟩⟩
    have hbt : b = true := hb.mpr (areW_fields G)
    subst hbt
    refine iteF ?_
    -- check_objects, check_names
    refine ⟨_, rfl, _, rfl, aF, aO, fs, ds0, os, rfl, seq_same s1 hsq, G.fn, G.f2, O.same s1, G.o2, fun H2 s2 => ?_⟩
    have s12 := s1.trans s2
    refine ⟨_, rfl, _, rfl, aO, _, rfl, .inl (SqL.of (s12 _ _ O.ls)), aN, l, os.length, by rw [List.length_map, O.len]; rfl, s12 _ _ hN, G.l6, G.lw, G.lk, fun H3 s3 => ?_⟩
    have s13 := s12.trans s3
    have hh3 := s13 _ _ hh
    -- self.fields = tuple(fields)
    rcases hF with hF | hF
    case' inl =>
      refine ⟨_, rfl, aF, _, rfl, .inl ⟨SqL.of (s13 _ _ hF), fun tF htF => ?_⟩⟩
      have htH : H tF = none := s13.free htF
      have hne : tF ≠ h := (ne_of_none hh htH).symm
      have hnew : H tF = none ∨ tF = aF := .inl htH
      refine ⟨_, rfl, h, C, dx, _, rfl, (upd_ne hne.symm).trans hh3, T.cl, T.nF, by decide, ?_⟩
      let H4 : Hp := upd (upd H3 tF (.tup (fs.map V.str))) h (.ins C dx (putF "fields" (.ref tF) []))
      have h4h : H4 h = some (.ins C dx (putF "fields" (.ref tF) [])) := upd_same
      have h4F : H4 tF = some (.tup (fs.map V.str)) := (upd_ne hne).trans upd_same
      have s4 : ∀ b o, H b = some o → b ≠ h → H4 b = some o := fun b o e n => (upd_ne n).trans ((upd_ne (ne_of_none e htH)).trans (s13 _ _ e))
    case' inr =>
      refine ⟨_, rfl, aF, _, rfl, .inr ⟨SqT.of (s13 _ _ hF), ?_⟩⟩
      let tF : Addr := aF
      have hne : tF ≠ h := ne_of hF hh (by intro z; cases z)
      have hnew : H tF = none ∨ tF = aF := .inr rfl
      refine ⟨_, rfl, h, C, dx, _, rfl, hh3, T.cl, T.nF, by decide, ?_⟩
      let H4 : Hp := upd H3 h (.ins C dx (putF "fields" (.ref tF) []))
      have h4h : H4 h = some (.ins C dx (putF "fields" (.ref tF) [])) := upd_same
      have h4F : H4 tF = some (.tup (fs.map V.str)) := (upd_ne hne).trans (s13 _ _ hF)
      have s4 : ∀ b o, H b = some o → b ≠ h → H4 b = some o := fun b o e n => (upd_ne n).trans (s13 _ _ e)
    all_goals
      have Oh : aO ≠ h := ne_of O.ls hh (by intro z; cases z)
      have Nh : aN ≠ h := ne_of hN hh (by intro z; cases z)
      have nH : ∀ {x : Addr}, H4 x = none → H x = none := fun {x} n => by
        cases e : H x with
        | none => rfl
        | some o =>
          by_cases hx : x = h
          · rw [hx, h4h] at n; cases n
          · rw [s4 x o e hx] at n; cases n
      have d0h : ∀ i d o, ds0[i]? = some d → os[i]? = some o → H4 d = some (.dK (dk o)) := fun i d o g1 g2 => s4 _ _ (O.at' i d o g1 g2) (ne_of (O.at' i d o g1 g2) hh (by intro z; cases z))
      have hO4 : H4 aO = some (.lst (ds0.map V.ref)) := s4 _ _ O.ls Oh
      -- self._objects = [dict(one) for one in objects]
      refine ⟨_, rfl, aO, rfl, ⟨_, SqL.of hO4⟩, fun D hD => lc_list (xs := ds0.map V.ref) (fun i H5 => ∃ ds' : List Addr, Same H4 H5 ∧ H5 D = some (.lst (ds'.map V.ref)) ∧ ds'.length = i ∧ ds'.Nodup ∧ (∀ x ∈ ds', H4 x = none ∧ x ≠ D) ∧ (∀ (i' : Nat) (d' : Addr) (o : Ob), ds'[i']? = some d' → os[i']? = some o → H5 d' = some (.dK (dk o)))) ?_ ?_ ?_ ?_⟩
      · exact ⟨[], same_new hD, upd_same, rfl, List.nodup_nil, fun x hx => (nomatch hx), fun i' d' k h => by simp at h⟩
      · rintro i H5 _ ⟨ds', s5, _⟩
        exact SqL.of (s5 _ _ hO4)
      · rintro i x H5 hx ⟨ds', s5, hD5, hlen, dnd, dfr, dat⟩
        rw [List.getElem?_map] at hx
        cases ed : ds0[i]? with
        | none => rw [ed] at hx; cases hx
        | some d =>
          rw [ed] at hx
          obtain rfl : V.ref d = x := Option.some.inj hx
          have hi0 := (List.getElem?_eq_some_iff.mp ed).1
          have hi : i < os.length := by rw [← O.len]; exact hi0
          have ho : os[i]? = some os[i] := List.getElem?_eq_getElem hi
          refine ⟨rfl, yes_of ⟨_, rfl, d, _, rfl, .inl (s5 _ _ (d0h i d _ ed ho)), fun E hE => ?_⟩⟩
          have hE4 := s5.free hE
          have DE : D ≠ E := ne_of_none hD5 hE
          refine ⟨_, (upd_ne DE).trans hD5, by rw [List.length_map, hlen]; have := G.o2; exact small1000 (by omega), ds' ++ [E], ?_, ?_, ?_, ?_, ?_, ?_⟩
          · intro b o e
            rw [upd_ne (ne_of_none e hD), upd_ne (ne_of_none e hE4)]
            exact s5 _ _ e
          · rw [upd_same, List.map_append]; rfl
          · rw [List.length_append, hlen]; rfl
          · refine List.nodup_append.mpr ⟨dnd, by simp, fun x hx y hy => ?_⟩
            rw [List.mem_singleton.mp hy]
            intro e
            obtain ⟨i', hi', e'⟩ := List.getElem_of_mem hx
            have hi2 : i' < os.length := by omega
            have := dat i' x os[i'] (by rw [List.getElem?_eq_getElem hi', e']) (List.getElem?_eq_getElem hi2)
            rw [e, hE] at this
            cases this
          · intro x hx
            rcases List.mem_append.mp hx with hx | hx
            · exact dfr x hx
            · rw [List.mem_singleton.mp hx]; exact ⟨hE4, DE.symm⟩
          · intro i' d' k g1 g2
            rcases Nat.lt_or_ge i' ds'.length with hj | hj
            · rw [List.getElem?_append_left hj] at g1
              have q := dat i' d' k g1 g2
              rw [upd_ne (dfr d' (List.mem_of_getElem? g1)).2, upd_ne (ne_of_none q hE)]
              exact q
            · rw [List.getElem?_append_right hj] at g1
              have hz : i' = ds'.length := by
                have := (List.getElem?_eq_some_iff.mp g1).1
                simp only [List.length_singleton] at this
                omega
              subst hz
              rw [Nat.sub_self] at g1
              have e1 : E = d' := Option.some.inj g1
              subst e1
              rw [hlen, ho] at g2
              have e2 : os[i] = k := Option.some.inj g2
              subst e2
              rw [upd_ne DE.symm, upd_same]
      · rintro H5 ⟨ds', s5, hD5, hlen, dnd, dfr, dat⟩
        rw [List.length_map, O.len] at hlen
        have Dh : D ≠ h := (ne_of_none h4h hD).symm
        refine ⟨_, rfl, h, C, dx, _, rfl, s5 _ _ h4h, T.cl, T.nO, by show 1 < 1000; decide, ?_⟩
        let H6 : Hp := upd H5 h (.ins C dx (putF "_objects" (.ref D) (putF "fields" (.ref tF) [])))
        have h6h : H6 h = some (.ins C dx (putF "_objects" (.ref D) (putF "fields" (.ref tF) []))) := upd_same
        have s6 : ∀ b o, H5 b = some o → b ≠ h → H6 b = some o := fun b o e n => (upd_ne n).trans e
        have hN6 : H6 aN = some (.dK (dk l)) := s6 _ _ (s5 _ _ (s4 _ _ hN Nh)) Nh
        -- self._names = dict(names)
        refine ⟨_, rfl, aN, _, rfl, .inl hN6, fun qN hqN => ?_⟩
        have qNh : qN ≠ h := (ne_of_none h6h hqN).symm
        have hq5 : H5 qN = none := by rw [← hqN]; exact (upd_ne qNh).symm
        refine ⟨_, rfl, h, C, dx, _, rfl, (upd_ne qNh.symm).trans h6h, T.cl, T.nN, by show 2 < 1000; decide, ?_⟩
        let H7 : Hp := upd (upd H6 qN (.dK (dk l))) h (.ins C dx (putF "_names" (.ref qN) (putF "_objects" (.ref D) (putF "fields" (.ref tF) []))))
        have h7h : H7 h = some (.ins C dx (putF "_names" (.ref qN) (putF "_objects" (.ref D) (putF "fields" (.ref tF) [])))) := upd_same
        have h7N : H7 qN = some (.dK (dk l)) := (upd_ne qNh).trans upd_same
        have s7 : ∀ b o, H5 b = some o → b ≠ h → H7 b = some o := fun b o e n => (upd_ne n).trans ((upd_ne (ne_of_none e hq5)).trans (s6 b o e n))
        have h7F : H7 tF = some (.tup (fs.map V.str)) := s7 _ _ (s5 _ _ h4F) (ne_of h4F h4h (by intro z; cases z))
        have O7 : ObjsAt H7 D ds' fs os.length os := ⟨s7 _ _ hD5 Dh, hlen, dnd, fun i d o g1 g2 => s7 _ _ (dat i d o g1 g2) (ne_of (dat i d o g1 g2) (s5 _ _ h4h) (by intro z; cases z)), G.oks, G.ook⟩
        have nH7 : ∀ {x : Addr}, H7 x = none → H x = none := fun {x} n => by
          have hx : x ≠ h := fun e => by rw [e, h7h] at n; cases n
          cases e : H x with
          | none => rfl
          | some o => rw [s7 _ _ (s5 _ _ (s4 _ _ e hx)) hx] at n; cases n
        -- self._form = normal_form(..)
        refine ⟨_, rfl, h, C, dx, _, _, rfl, h7h, T.cl, T.nF, lk_f tF D qN, _, rfl, h, C, dx, _, _, rfl, h7h, T.cl, T.nO, lk_o tF D qN, _, rfl, h, C, dx, _, _, rfl, h7h, T.cl, T.nN, lk_n tF D qN,
          tF, D, qN, fs, ds', os, l, rfl, Tabs.but hTb hh (fun b o e n => s7 _ _ (s5 _ _ (s4 _ _ e n)) n), SqT.of h7F, by have := G.f2; omega, G.fn, O7, by have := G.o2; omega, h7N, G.ln, by have := G.l6; omega, G.lk, fun t rD nD ds2 ys j ord H8 s8 ht hrD hnD hds2 h8t perm srt hlv hnd hlt O8 h8m => ?_⟩
        have s8' : ∀ {b : Addr} {o : HO}, H7 b = some o → (nt : ∀ ps, o ≠ .tbl ps := by intro ps z; cases z) → H8 b = some o := fun {b o} e nt => s8.k b o e nt
        refine ⟨_, rfl, h, C, dx, _, rfl, s8' h7h, T.cl, T.nM, by show 3 < 1000; decide, ?_⟩
        let p : HP := ⟨dx, tF, D, qN, t, rD, nD, ds', ds2, ord⟩
        have s9 : ∀ {b : Addr} {o : HO}, H8 b = some o → b ≠ h → (upd H8 h (.ins C dx (hfl p))) b = some o := fun {b o} e n => (upd_ne n).trans e
        have q8 : ∀ {b : Addr} {o : HO}, H8 b = some o → (∀ fl, o ≠ .ins C dx fl) → b ≠ h := fun {b o} e n => ne_of e (s8' h7h) (n _)
        refine k p _ (fun b o e nt n => s9 (s8.k _ _ (s7 _ _ (s5 _ _ (s4 _ _ e n)) n) nt) n) (fun x hx => nH7 (s8.f x (by
            by_cases e : x = h
            · rw [e, upd_same] at hx; cases hx
            · rw [upd_ne e] at hx; exact hx))) (Tabs.but s8.t (s8' h7h) fun b o e n => s9 e n) ⟨upd_same, s9 (s8' h7F) (q8 (s8' h7F) (fun _ z => nomatch z)), ?_, s9 (s8' h7N) (q8 (s8' h7N) (fun _ z => nomatch z)), s9 h8t (q8 h8t (fun _ z => nomatch z)), ?_, s9 h8m (q8 h8m (fun _ z => nomatch z)), ⟨ys, j, perm, srt, hlv⟩, hnd, hlt, G⟩
          ⟨hnew, nH hD, ?_, nH7 ht, nH7 hrD, nH7 hnD, fun d hd => nH (dfr d hd).1, fun d hd => nH7 (hds2 d hd)⟩
        · have O9 := objs_ext s8.k O7
          exact ⟨s9 O9.ls (q8 O9.ls (fun _ z => nomatch z)), O9.len, O9.nd, fun i d o g1 g2 => s9 (O9.at' i d o g1 g2) (q8 (O9.at' i d o g1 g2) (fun _ z => nomatch z)), O9.ks, O9.ok⟩
        · exact ⟨s9 O8.ls (q8 O8.ls (fun _ z => nomatch z)), O8.len, O8.nd, fun i d o g1 g2 => s9 (O8.at' i d o g1 g2) (q8 (O8.at' i d o g1 g2) (fun _ z => nomatch z)), O8.ks, O8.ok⟩
        · cases e : H qN with
          | none => rfl
          | some o => rw [s5 _ _ (s4 _ _ e qNh)] at hq5; cases hq5
end
end TW
set_option Elab.async false
set_option linter.all false
set_option maxRecDepth 100000
set_option maxHeartbeats 2000000
namespace PySem
namespace ErrX
open PySem.W PySem.Calls PyProof.Rows PySem.HandSPX
/-- (self, part) -/
def eArgs (p1 p2 : Pos) : Arguments := { posonlyargs := [], args := [{ arg := "self", annotation := none, pos := p1 }, { arg := "part", annotation := none, pos := p2 }], vararg := none, kwonlyargs := [], kw_defaults := [], kwarg := none, defaults := [] }
/-- the two rows of the body -/
def eBody (ms : Str) (a1 a2 a3 a4 a5 a6 a7 a8 a9 : Pos) (q1 q2 q3 q4 : Pos) : List Stmt :=
  [.Expr (.Call (.Attribute (.Call (.Name "super" a1) [] [] a2) "__init__" a3) [.JoinedStr [.Constant (.str ms) 0 a4, .FormattedValue (.Name "part" a5) (-1) none a6] a7] [] a8) a9,
   .Assign [.Attribute (.Name "self" q1) "part" q2] (.Name "part" q3) q4]
def eScope : Scope := { kind := .function, names := [(PySem.Str.ofString "self", .local), (PySem.Str.ofString "part", .local), (PySem.Str.ofString "__class__", .free), (PySem.Str.ofString "super", .globalImplicit)], isGenerator := false, isCoroutine := false, more := [] }
/-- what the written part says of the class x (at C) and of its own maker (at fI) -/
structure ErrTxt (prog : Program) (K : Frag) (mg : Str → Option Value) (x ms : Str) (C fI : Addr) : Prop where
  gC : mg x = some (.ref C)
  cls : ∃ nm q N bs bm sn sub ab col dd k0 k1 k2 k3 k5, K.lookup C = some (excClassObj nm q C N bs bm true sn sub ab col dd k0 k1 k2 k3 k5 "ValueError.__new__") ∧ refsVE bm = true
  sa : findIn K (.ref C) "__setattr__" = some (some (.builtin "object.__setattr__"))
  ga : findIn K (.ref C) "__getattribute__" = some (some (.builtin "BaseException.__getattribute__"))
  gg : findIn K (.ref C) "__getattr__" = some none
  noN : findIn K (.ref C) "part" = some none
  iC : findIn K (.ref C) "__init__" = some (some (.ref fI))
  tC : typeIn K (.ref fI) = some (.type "function")
  kC : keepIn K (.ref C) = true
  exC : subIn K (.ref C) (.type "BaseException") = some true
  veC : subIn K (.ref C) (.type "ValueError") = some true
  tyC : typeIn K (.ref C) = some (.type "type")
  hdC : hasDictIn K C = true
  te : exmOne K (.ref C) (.ref C) = some true
  opq : nsIn K cStatics "thirdparty.any" = some none
  sup : ks_superIn K C C "__init__" = some (some (.builtin "ValueError.__init__"))
  sub : mroIn K C (.ref C) = some true
  htop : (prog.main.scope.names.lookup ("super" : Str)).isSome = false
  hms : ms.length ≤ 1000
  fn : ∃ (oc : Value) (od : Option Addr) (doc pm : Value) (an : Option Addr) (cda cc : Addr) (ct : Value) (osl : Array (Option Value)) (qual : Str) (p1 p2 a1 a2 a3 a4 a5 a6 a7 a8 a9 q1 q2 q3 q4 : Pos)
      (ccl cl : Value) (cdd cld : Option Addr) (vs : Array Value) (ccs csl : Array (Option Value)) (file : Str) (tf : Tok),
    K.lookup fI = some ⟨oc, od, .func (ksFn "__init__" qual (eArgs p1 p2) (eBody ms a1 a2 a3 a4 a5 a6 a7 a8 a9 q1 q2 q3 q4) eScope .none .none doc pm an (.ref cda) ct cc), osl⟩ ∧ codeIn K (.ref cda) qual = true ∧
    K.lookup cda = some ⟨ccl, cdd, .fields vs, ccs⟩ ∧ vs[2]? = some (.str file tf) ∧ ((prog.main.file : Str) == file) = true ∧ K.lookup cc = some ⟨cl, cld, .cell (some (.ref C)), csl⟩ ∧
    (a3.endLine == a8.line) = true
/-- o.m(e), as a tree -/
theorem call_tree {o e : Expr} {m : Str} {apos pos : Pos} {env : Env} (hl : (apos.endLine == pos.line) = true) (he : starEach [e] env = [(false, eval e env)] := by rfl) :
    eval (.Call (.Attribute o m apos) [e] [] pos) env = (do
      let ov ← attributeBase o m env (eval o env)
      standAt apos.atName
      let (f, first) ← holding [ov] (getMethod ov m (do return (← importBound o env).getD true))
      callWith pos f first (backTo pos (starEach [e] env)) []) := by
  rw [arm_eval_Call]
  have hf : methodCallForm ([e].length + ([] : List Keyword).length) (backTo pos (starEach [e] env)) (backToKw pos (keywordEach [] env)) = true := by
    rw [he]
    rfl
  have hp : methodCallPos true o env apos pos = pure pos := by unfold methodCallPos; simp [hl]
  have hc : ∀ ov, calleeOf true o env ov m = getMethod ov m (do return (← importBound o env).getD true) := fun _ => rfl
  have key : ∀ ov, methodCall o m apos pos env ov ([e].length + ([] : List Keyword).length) (backTo pos (starEach [e] env)) (backToKw pos (keywordEach [] env)) = (do
      let (f, first) ← holding [ov] (getMethod ov m (do return (← importBound o env).getD true))
      callWith pos f first (backTo pos (starEach [e] env)) []) := fun ov => by
    unfold methodCall
    rw [hf, hp, hc]
    simp only [pure_bind]
    rfl
  simp only [key]
theorem one_size (v : Value) : [v].length ≤ sizeLine := by
  rw [sizeLine_eq]
  exact (by decide : 1 ≤ 16777216)
theorem ldN {M : Model} {s : Shared} {name : Str} {scope : Scope} {L a : Addr} {cd : Value} {cl : List (Str × Addr)} {m : Str → Option Value} {x : Str} {pos : Pos} {v : Value} {Q : Value → Shared → Prop} {A : Around} {E : Value → Shared → Prop} (hn : s.heap.Ns L m) (hv : m x = some v) (h : Q v s)
    (hk : scope.kind = .function := by rfl) (hl : (envX name scope L a cd cl).kindOf x = some .local := by rfl) (hd : (x == ("__debug__" : Str)) = false := by decide) :
    wpAny M A (eval (.Name x pos) (envX name scope L a cd cl)) Q E s := wpAny_Name (wpAny_loadName_local hk hl hn hv h) hd
section
variable {prog : Program} {w : World} {A : Around} {E : Value → Shared → Prop} {h : Heap} {g : Array GenState} {d : Drawn} {t : Nat} {os : OsState}
variable {nm q : Str} {C N : Addr} {bs bm : List Value} {hdct : Bool} {sn : List Str} {sub : List Value} {ab : Bool} {col : Option Bool} {dd : Option Addr} {k0 k1 k2 k3 k5 : Option Value}
/-- the bound maker of the base is called: the args are laid anew -/
theorem call_mw {u e t0 : Addr} {rest : List Value} {Q : Value → Shared → Prop}
    (hC : h.get? C = some (excClassObj nm q C N bs bm hdct sn sub ab col dd k0 k1 k2 k3 k5 "ValueError.__new__")) (he : h.get? e = some (excO C t0)) (hu : h.get? u = some (kxs_mw "ValueError.__init__" e)) (hrest : rest.length ≤ sizeLine)
    (hq : ∀ h' t1, (∀ b o, b ≠ e → h.get? b = some o → h'.get? b = some o) → h'.get? e = some (excO C t1) → Q .none ⟨h', g, d, t, os⟩) :
    wpAny (model prog w) A (call (.ref u) rest) Q E ⟨h, g, d, t, os⟩ := by
  refine wpAny_call (codeAny_of_tree ?_)
  show wpAny _ A.in1 (callAny (.ref u) ⟨rest, []⟩) _ _ _
  simp only [callAny]
  refine wpAny_bind (wpAny_load hu ?_)
  simp only [kxs_mw, show (Value.type "method-wrapper" == Value.type "method" || Value.type "method-wrapper" == Value.type "builtin_function_or_method" || Value.type "method-wrapper" == Value.type "method-wrapper") = true by decide, if_true]
  refine KFB.if_so (by decide) ?_
  refine wpAny_bind (check_bound_init F.excBase_ValueError.toExcCallFacts hC he rfl ?_)
  refine wpAny_bind (wpAny_pure (wpAny_pure ?_))
  refine ⟨plainId_quiet F.excBase_ValueError.init.plain _, codeAny_builtin F.excBase_ValueError.initEntry ?_⟩
  exact exc_init_tree (cls := .ref C) (t0 := t0) (dv := none) (c2 := .none) (c3 := .none) (b4 := .bool false) he hrest fun h' k e1 e2 => hq h' _ k e1
end
/-- what the maker leaves of a fresh error at x -/
structure InitEnd (h h' : Heap) (x C dx t1 : Addr) (v : Value) : Prop where
  keep : ∀ b o, b ≠ x → h.get? b = some o → h'.get? b = some o
  obj : h'.get? x = some { cls := .ref C, dict := some dx, data := .fields #[.ref t1, .none, .none, .none, .bool false, .none] }
  dbig : h.objs.size ≤ dx
  dne : dx ≠ x
  ns : h'.Ns1 dx (fun y => if y = "part" then some v else none)
section
variable {prog : Program} {w : World} {A : Around} {E : Value → Shared → Prop} {R : Result → Shared → Prop} {s : Shared} {K : Frag} {mg mb : Str → Option Value} {nmx ms : Str} {C fI : Addr}
theorem err_init (T : ErrTxt prog K mg nmx ms C fI) {x t0 : Addr} {y : Str} {ty : Tok} (X : K.In s.heap) (hG : s.heap.Ns mainGlobals mg) (hB : s.heap.Ns builtinsNs mb) (mS : mg "super" = none) (bS : mb "super" = some (.type "super"))
    (hlim : s.heap.NoLimit) (hx : s.heap.get? x = some (excO C t0)) (hnx : K.lookup x = none) (hroom : A.depth < recursionLimit) (hy : y.length ≤ 1000)
    (hq : ∀ h' tk dx t1, InitEnd s.heap h' x C dx t1 (.str y ty) → R (.ok (.ret .none)) { s with heap := h', toks := tk }) :
    codeAny (model prog w) A (.call (.ref fI) ⟨[.ref x, .str y ty], []⟩) R s := by
  obtain ⟨oc, od, doc, pm, an, cda, cc, ct, osl, qual, p1, p2, a1, a2, a3, a4, a5, a6, a7, a8, a9, q1, q2, q3, q4, ccl, cl, cdd, cld, vs, ccs, csl, file, tf, ho, hcd, hcda, hvs, hfile, hcell, hline⟩ := T.fn
  obtain ⟨nm, q, N, bs, bm, sn, sub, ab, col, dd, k0, k1, k2, k3, k5, hC, hbm⟩ := T.cls
  have hcl : clsIn K C = some { name := nm, bases := bs, mro := .ref C :: bm, ns := N, qualname := q, hasDict := true, slotNames := sn, subclasses := sub, abstract := ab, collection := col, hasDel := false } := by unfold clsIn; rw [hC] <;> rfl
  have hsup : alongIn K "__init__" ((((Value.ref C :: bm)).dropWhile (· != .ref C)).drop 1) = some (some (.builtin "ValueError.__init__")) := by
    have z := T.sup
    unfold ks_superIn at z
    rw [hcl] at z
    exact z
  refine ks_codeAny_call_defAt (fd := ksFn "__init__" qual (eArgs p1 p2) (eBody ms a1 a2 a3 a4 a5 a6 a7 a8 a9 q1 q2 q3 q4) eScope .none .none doc pm an (.ref cda) ct cc) (body := eBody ms a1 a2 a3 a4 a5 a6 a7 a8 a9 q1 q2 q3 q4)
    (binds := [("self", .ref x), ("part", .str y ty)]) hroom (X _ _ ho) rfl hlim (codeRec_of X hcd) rfl (BindsTo.of_eq (by first | rfl | with_unfolding_all rfl)) (show ∀ x ∈ eScope.names, x.2 ≠ .cell by decide) (fun z hz => by
      rcases List.mem_cons.mp hz with rfl | hz
      · rfl
      rcases List.mem_cons.mp hz with rfl | hz
      · rfl
      cases hz) (fun h₁ hn k => ?_) rfl rfl rfl
  obtain ⟨hp, g, d, t, os⟩ := s
  have X₁ : K.In h₁ := X.keeps k
  have hx₁ := k _ _ hx
  have hC₁ := X₁ _ _ hC
  show _root_.PySem.wpAt _ _ (.func _ (ksEnv qual eScope hp.objs.size fI (.ref cda) cc)) (execs _ (ksEnv qual eScope hp.objs.size fI (.ref cda) cc)) _ _ _
  have nxC : x ≠ C := fun z => by
    rw [z, hC] at hnx
    cases hnx
  have hxL : hp.objs.size ≠ x := Nat.ne_of_gt (Heap.lt_size hx)
  -- the first row
  refine ks_wpAt_execs_cons (ks_wpAt_Expr_any (ks_wpAt_MethodCall (pl := do return (← importBound (.Call (.Name "super" a1) [] [] a2) (ksEnv qual eScope hp.objs.size fI (.ref cda) cc)).getD true) ?_ (call_tree hline)))
  refine ks_wpAt_super_base (env := ksEnv qual eScope hp.objs.size fI (.ref cda) cc) (file := file) (tf := tf) (vs := vs) rfl rfl (by decide) rfl (X₁ _ _ ho) rfl rfl rfl (X₁ _ _ hcda) rfl hvs hfile T.htop ?_
  refine ks_loadName_global rfl rfl (loadGlobal_builtin (env := ksEnv qual eScope hp.objs.size fI (.ref cda) cc) (mg := mg) (mb := mb) (hG.keeps k) mS (hB.keeps k) bS ⟨rfl, ?_⟩)
  refine wpAny_loadName_free rfl rfl rfl ⟨_, X₁ _ _ hcell, rfl⟩ ?_
  refine wpAny_loadName_local rfl rfl hn rfl ?_
  refine ks_wpAny_isType_cls hC₁ rfl ⟨rfl, ?_⟩
  refine ks_wpAny_call_super hC₁ rfl hx₁ rfl (fun c e => by cases e) (looks_mroIn X₁ T.sub) (fun h₂ hso k₂ => ?_)
  have X₂ : K.In h₂ := X₁.keeps k₂
  have hx₂ := k₂ _ _ hx₁
  have I₂ : InstAt h₂ x (excO C t0) C none := ⟨hx₂, rfl, rfl, trivial⟩
  refine kxs_getMethod kxs_ValueError hso (looks_opaque X₂ T.opq) (l₀ := .ref C :: bm) (fun A Q E s k q => wpAny_bind ((looks_clsIn X₂ hcl) A _ E s k (wpAny_pure q))) rfl X₂ hsup (I₂.type.andThen (looks_subIn X₂ T.veC)) nxC (by decide) ?_
  have k₃ : ∀ b o, h₂.get? b = some o → (h₂.push (kxs_mw "ValueError.__init__" x)).get? b = some o := fun b o e => Heap.get?_push_of_some _ e
  have hmw : (h₂.push (kxs_mw "ValueError.__init__" x)).get? h₂.objs.size = some (kxs_mw "ValueError.__init__" x) := Heap.get?_push_at rfl rfl
  refine kxs_callWith (i := "ValueError.__init__") (x := x) (by rfl) ?_
  refine evalArgs_plain (spliced_cons ?_)
  have hn₃ : (h₂.push (kxs_mw "ValueError.__init__" x)).Ns hp.objs.size (fun z => List.lookup z [(("part" : Str), Value.str y ty), ("self", .ref x)]) := (hn.keeps k₂).keeps k₃
  have hsz : sizeLine = 16777216 := sizeLine_eq
  refine wpAny_JoinedStr (pos := a7) ?_
  have sz : ∀ z : Str, z.length ≤ 2000 → z.length ≤ sizeLine := fun z hz => by
    rw [sizeLine_eq]
    omega
  have hms := T.hms
  refine Calls.Constant_str ⟨ms, _, rfl, sz _ (by rw [Str.length_append]; show 0 + ms.length ≤ 2000; omega), ?_⟩
  have fin : ∀ tt : Nat, ((Str.empty ++ ms) ++ y).length ≤ sizeLine ∧ wpAny (model prog w) (A.deeper (ksEnv qual eScope hp.objs.size fI (.ref cda) cc)) (call (.ref h₂.objs.size) [.str ((Str.empty ++ ms) ++ y) tt]) (fun _ s' => wpAt (model prog w) (A.deeper (ksEnv qual eScope hp.objs.size fI (.ref cda) cc)) (.func (eBody ms a1 a2 a3 a4 a5 a6 a7 a8 a9 q1 q2 q3 q4) (ksEnv qual eScope hp.objs.size fI (.ref cda) cc))
      (execs [.Assign [.Attribute (.Name "self" q1) "part" q2] (.Name "part" q3) q4] (ksEnv qual eScope hp.objs.size fI (.ref cda) cc)) (fun f s' => R (.ok (.ret (match f with | .ret v => v | _ => .none))) s')
        (fun e s' => wpAny (model prog w) (A.deeper (ksEnv qual eScope hp.objs.size fI (.ref cda) cc)) (leaving (ksEnv qual eScope hp.objs.size fI (.ref cda) cc) e) (fun _ s'' => R (.error e) s'') (fun e' s'' => R (.error e') s'') s') s')
      (fun e s' => wpAny (model prog w) (A.deeper (ksEnv qual eScope hp.objs.size fI (.ref cda) cc)) (leaving (ksEnv qual eScope hp.objs.size fI (.ref cda) cc) e) (fun _ s'' => R (.error e) s'') (fun e' s'' => R (.error e') s'') s')
      ⟨h₂.push (kxs_mw "ValueError.__init__" x), g, d, tt + 1, os⟩ := fun tt => by
    refine ⟨sz _ ?_, ?_⟩
    · rw [Str.length_append, Str.length_append]
      show 0 + ms.length + y.length ≤ 2000
      omega
    refine call_mw (h := h₂.push (kxs_mw "ValueError.__init__" x)) (X₂.keeps k₃ _ _ hC) (k₃ _ _ hx₂) hmw (one_size _) (fun h₄ t1 k₄ hx₄ => ?_)
    have keep4 : ∀ b o, b ≠ x → hp.get? b = some o → h₄.get? b = some o := fun b o hb e => k₄ b o hb (k₃ _ _ (k₂ _ _ (k b o e)))
    have X₄ : K.In h₄ := fun b o e => k₄ b o (fun z => by rw [z, hnx] at e; cases e) (k₃ _ _ (X₂ _ _ e))
    have hn₄ : h₄.Ns hp.objs.size (fun z => List.lookup z [(("part" : Str), Value.str y ty), ("self", .ref x)]) := by
      obtain ⟨oL, es, ep, e1, r⟩ := hn₃
      exact ⟨oL, es, ep, k₄ _ _ hxL e1, r⟩
    refine wpAt_of_wpAny ?_
    refine wpAny_execs_cons (plainObj_wpAny_Assign_Attribute ?_)
    refine ldN (v := .str y ty) hn₄ rfl (ldN (v := .ref x) hn₄ rfl ?_)
    refine set_plain X₄ (ox := excO C t1) (od := none) ⟨hx₄, rfl, rfl, trivial⟩ T.sa ?_
    refine exc_osa X₄ hx₄ hcl (show refsVE (.ref C :: bm) = true from hbm) rfl T.noN (fun h₅ tk₅ dx k₅ dn dne hx₅ hn₅ => ?_)
    have big : hp.objs.size ≤ h₄.objs.size := by
      obtain ⟨oL, es, ep, e1, r⟩ := hn₄
      exact Nat.le_of_lt (Heap.lt_size e1)
    exact wpAny_execs_nil (hq h₅ tk₅ dx t1 ⟨fun b o hb e => k₅ b o hb (keep4 b o hb e), hx₅, Nat.le_trans big dn, dne, hn₅⟩)
  refine wpAny_FormattedValue_plain (ldN (v := .str y ty) hn₃ rfl ?_)
  have fin2 := fun tt => (fin tt).2
  refine wpAny_formatField_str ⟨y, _, rfl, (fin 0).1, (fin 0).1, ?_⟩ ⟨y, _, rfl, (fin 0).1, (fin 0).1, ?_⟩ (sz _ (by omega))
  · exact spliced_nil ⟨hmw, fin2 _⟩
  · exact spliced_nil ⟨hmw, fin2 _⟩
/-- a made error -/
structure OwnMade (h h' : Heap) (e C d : Addr) (v : Value) : Prop where
  keep : ∀ b o, h.get? b = some o → h'.get? b = some o
  new : h.objs.size ≤ e
  obj : ∃ oe vs, h'.get? e = some oe ∧ oe.cls = .ref C ∧ oe.dict = some d ∧ oe.data = .fields vs ∧ vs[1]? = some .none
  dbig : h.objs.size ≤ d
  dne : d ≠ e
  ns : h'.Ns1 d (fun y => if y = "part" then some v else none)
theorem err_made (T : ErrTxt prog K mg nmx ms C fI) {y : Str} {ty : Tok} (X : K.In s.heap) (hG : s.heap.Ns mainGlobals mg) (hB : s.heap.Ns builtinsNs mb) (mS : mg "super" = none) (bS : mb "super" = some (.type "super"))
    (hlim : s.heap.NoLimit) (hroom : A.depth + 1 < recursionLimit) (hy : y.length ≤ 1000)
    (hq : ∀ h' tk e d, OwnMade s.heap h' e C d (.str y ty) → R (.ok (.ret (.ref e))) { s with heap := h', toks := tk }) :
    codeAny (model prog w) A (.call (.ref C) ⟨[.str y ty], []⟩) R s := by
  obtain ⟨nm, q, N, bs, bm, sn, sub, ab, col, dd, k0, k1, k2, k3, k5, hC, hbm⟩ := T.cls
  obtain ⟨hp, g, dr, tk, os⟩ := s
  have k : ∀ b o, hp.get? b = some o → ((hp.push (kdv_tup [.str y ty])).push (excO C hp.objs.size)).get? b = some o := fun b o e => Heap.get?_push_of_some _ (Heap.get?_push_of_some _ e)
  have hget : ((hp.push (kdv_tup [.str y ty])).push (excO C hp.objs.size)).get? (hp.objs.size + 1) = some (excO C hp.objs.size) := by heap_get
  have hnx : K.lookup (hp.objs.size + 1) = none := by
    cases e : K.lookup (hp.objs.size + 1) with
    | none => rfl
    | some o =>
      have z : hp.get? (hp.objs.size + 1) = some o := X _ _ e
      exact absurd (Nat.lt_of_succ_lt (Heap.lt_size z)) (Nat.lt_irrefl _)
  refine call_own F.excBase_ValueError (fun X => refsVE_contains X bm hbm) (X _ _ hC) (looks_findIn X T.iC) (fun self => bind_fn X self T.tC) (one_size _) ?_
  refine err_init (s := ⟨(hp.push (kdv_tup [.str y ty])).push (excO C hp.objs.size), g, dr, tk, os⟩) T (X.keeps k) (hG.keeps k) (hB.keeps k) mS bS (hlim.keeps k) hget hnx ?_ hy fun h' tk' dx t1 ⟨k', hx, dn, dne, hns⟩ => ?_
  · show A.depth + 1 < recursionLimit
    exact hroom
  · have old : ∀ b o, hp.get? b = some o → h'.get? b = some o := fun b o e => k' b o (Nat.ne_of_lt (Nat.lt_succ_of_lt (Heap.lt_size e))) (k b o e)
    have z : hp.objs.size + 1 + 1 ≤ dx := by
      first
        | (simpa only [Heap.size_push] using dn)
        | exact dn
        | (have q := dn; rw [Heap.size_push, Heap.size_push] at q; exact q)
    exact ⟨rfl, hq h' tk' (hp.objs.size + 1) dx ⟨old, Nat.le_succ _, ⟨_, _, hx, rfl, rfl, rfl, rfl⟩, Nat.le_trans (Nat.le_trans (Nat.le_succ _) (Nat.le_succ _)) z, dne, hns⟩⟩
end
end ErrX
end PySem
namespace L2
open PySem PySem.Spec PyProof.Rows
theorem relO_part {v : V} {v' : Value} (r : RelV v v') (f : Str) : RelO (List.lookup f [(("part" : Str), v)]) (if f = "part" then some v' else none) := by
  by_cases hw : f = "part"
  · subst hw
    rw [if_pos rfl]
    have q : List.lookup ("part" : Str) [(("part" : Str), v)] = some v := by simp [List.lookup]
    rw [q]
    exact r
  · rw [if_neg hw]
    have qw : (f == ("part" : Str)) = false := by simpa using hw
    have q2 : List.lookup f [(("part" : Str), v)] = none := by simp [List.lookup, qw]
    rw [q2]
    trivial
section
variable {X : Cx} {nm ms : Str} {C fI : Addr}
/-- C(e), e a text -/
def tMkE (C : Addr) (ta : TA) : St → Hp → XK → Prop := fun σ H Q => ta σ H fun vs H1 => ∃ y : Str, vs = [.str y] ∧ y.length ≤ 1000 ∧ ∀ d, H1 d = none → Q (.ref C) (some d) (upd H1 d (.xd [(("part" : Str), .str y)]))
theorem pmk_err {a : Expr} {ta : TA} {p pos : Pos} {k : Nat} (T : PySem.ErrX.ErrTxt X.prog X.K X.mg nm ms C fI) (hr : Room k X.A) (mS : X.mg "super" = none) (ha : PA X [a] ta) (hg : Gl X nm) (hd : (nm == ("__debug__" : Str)) = false)
    (he : starEach (a :: []) X.env = (false, eval a X.env) :: starEach [] X.env := by rfl) (hpl : (backTo pos (starEach [] X.env)).any (·.1) = false := by rfl) :
    PMk X (.Call (.Name nm p) [a] [] pos) (tMkE C ta) := by
  intro pins s σ H Q I h
  refine wpAny_Call_Name_kw (ld_glob I hg T.gC ?_ hd)
  refine PySem.W.callWith_K (h₀ := X.base) I.ok.mod.kin T.kC (thn (ha.run pos pins s σ H _ I h) fun us s1 hh => ?_) he hpl
  obtain ⟨vs, H1, I1, r1, y, ev, hy, q1⟩ := hh
  subst ev
  refine ⟨I1.kIn, ?_⟩
  cases r1 with
  | cons rv rn =>
    rename_i v' us'
    cases rn
    obtain ⟨ty, rfl⟩ := (show ∃ t, v' = Value.str y t from rv)
    show wpAny _ _ (call (.ref C) [.str y ty]) _ _ _
    have hlim := I1.nolimit
    have hG := I1.mod.glob.keeps I1.bk
    obtain ⟨mb, hB0, hB1⟩ := I1.mod.blt
    have hB := hB0.keeps I1.bk
    have bS : mb "super" = some (.type "super") := (hB1 "super" (by decide)).trans rfl
    obtain ⟨hp, g, dr, tk, os⟩ := s1
    refine wpAny_call (PySem.ErrX.err_made T I1.kIn hG hB mS bS hlim (by have := hr.dp; omega) hy fun h' tk' e d M => ?_)
    show MkP X pins σ Q (.ref e) ⟨h', g, dr, tk', os⟩
    obtain ⟨oe, fv, hoe, hc, hd, hdat, h1⟩ := M.obj
    have hns := M.ns
    obtain ⟨G', g1, g2⟩ := restrict h' fun b => decide (b ≠ e)
    have gk : ∀ b, b ≠ e → G'.get? b = h'.get? b := fun b hb => g1 b (decide_eq_true hb)
    have ge : G'.get? e = none := g2 e (by simp)
    have old : ∀ b o, hp.get? b = some o → G'.get? b = some o := fun b o q => (gk b (Nat.ne_of_lt (Nat.lt_of_lt_of_le (Heap.lt_size q) M.new))).trans (M.keep b o q)
    have ob : ObjOk X.prog X.w (upd H1 d (.xd [(("part" : Str), .str y)])) G' d (.xd [(("part" : Str), .str y)]) :=
      ⟨_, hns.at (fun o q => (gk d M.dne).trans q), fun f => relO_part rv f⟩
    have J : Inv X pins σ (upd H1 d (.xd [(("part" : Str), .str y)])) ⟨G', g, dr, tk', os⟩ := I1.laid (t' := tk') old M.dbig ob
    refine ⟨e, oe, fv, ⟨G', g, dr, tk', os⟩, _, .ref C, some d, rfl, J, fun b o q => ?_, ge, hoe, ⟨hc, hd⟩, hdat, h1, ?_, rfl, I1.bare, raises_own T.exC T.tyC, q1 d (I1.hok.fresh M.dbig)⟩
    · by_cases hb : b = e
      · have q' : G'.get? b = some o := q
        rw [hb, ge] at q'; cases q'
      · exact (gk b hb).symm.trans q
    · rw [upd_ne (Ne.symm M.dne)]
      exact I1.hok.fresh M.new
/-- raise C(e) -/
def tRaiseE (C : Addr) (W : WX) (ta : TA) : TS := fun _ σ H => tMkE C ta σ H fun cls d H' => W cls d σ H'
theorem ps_raiseE {a : Expr} {ta : TA} {W : WX} {p pos pos2 : Pos} {k : Nat} (hc : X.calm = true) (T : PySem.ErrX.ErrTxt X.prog X.K X.mg nm ms C fI) (hr : Room k X.A) (tk : Takes X W) (mS : X.mg "super" = none) (ha : PA X [a] ta) (hg : Gl X nm) (hd : (nm == ("__debug__" : Str)) = false)
    (he : starEach (a :: []) X.env = (false, eval a X.env) :: starEach [] X.env := by rfl) (hpl : (backTo pos (starEach [] X.env)).any (·.1) = false := by rfl) :
    PS X (.Raise (some (.Call (.Name nm p) [a] [] pos)) none pos2) (tRaiseE C W ta) := ps_raise hc tk (pmk_err T hr mS ha hg hd he hpl)
/-- x.part, x the error that the suite holds (at a; its class cls, its dict d) -/
def tPartE (C : Addr) (a : Addr) (cls : Value) (d : Option Addr) (te : TE) : TE := fun σ H Q => te σ H fun x H1 => x = .ref a ∧ cls = .ref C ∧ ∃ (dd : Addr) (v : V), d = some dd ∧ H1 dd = some (.xd [(("part" : Str), v)]) ∧ Q v H1
theorem pe_partE {a : Addr} {oe : Obj} {cls : Value} {d : Option Addr} {pn : List (Addr × Obj)} {e : Expr} {te : TE} {pos : Pos} (T : PySem.ErrX.ErrTxt X.prog X.K X.mg nm ms C fI) (hz : Zc cls d oe) (hf : ∃ vs, oe.data = .fields vs) (he : PE (X.suite a ((a, oe) :: pn)) e te)
    (hb : attributeBase e "part" X.env (eval e X.env) = eval e X.env := by rfl) :
    PE (X.suite a ((a, oe) :: pn)) (.Attribute e "part" pos) (tPartE C a cls d te) := by
  refine ⟨fun pins s σ H Q I h => ?_⟩
  refine attr_of hb (thn (he.run pins s σ H _ I h) fun u s1 hh => ?_)
  obtain ⟨x, H1, I1, rx, ex, ec, dd, v, ed, ea, q⟩ := hh
  subst ex
  obtain rfl : u = Value.ref a := rx
  subst ec
  subst ed
  obtain ⟨ha, _⟩ := I1.pin (a, oe) (List.mem_append_left _ List.mem_cons_self)
  obtain ⟨vs, hd⟩ := hf
  have hx : ObjOk X.prog X.w H1 s1.heap dd (.xd [(("part" : Str), v)]) := I1.hok dd _ ea
  obtain ⟨mA, hns, hr⟩ := hx
  obtain ⟨od, ho, hl⟩ := lookIn_ns hns
  have l : List.lookup ("part" : Str) [(("part" : Str), v)] = some v := by simp [List.lookup]
  obtain ⟨u, hu, ru⟩ := RelO.some_of (v := v) (o := mA "part") (by rw [← l]; exact hr "part")
  have J : PySem.W.InstAt s1.heap a oe C (some od) := ⟨ha, hz.1, by unfold PySem.W.notCls; rw [hd] <;> rfl, by rw [hz.2]; exact ho⟩
  exact HandSPX.exc_get I1.kIn J T.ga T.gg T.exC (PySem.W.findObj_own T.hdC T.noN rfl (by rw [hl, hu])) (handed_of ru) ⟨v, H1, I1.tok _, ru, q⟩
end
end L2
set_option Elab.async false
set_option linter.all false
set_option maxRecDepth 100000
namespace L2
open PySem PySem.Spec PyProof.Rows
/-- x not in o, the class of o with an own rule for it -/
def rNotInO (C : Addr) (sp : Sp) (E : XK) : R2 := fun x y H Q => ∃ a dx fs, y = .ref a ∧ H a = some (.ins C dx fs) ∧ sp [.ref a, x] H (fun v H' => ∃ b : Bool, v = .bl b ∧ Q (.bl (!b)) H') E
theorem op_notInO {X : Cx} {CX : CXT} {k : Nat} {C f : Addr} {fd : FuncData} {ps : List Str} {sp : Sp} {E : XK} (F : FnOk X.prog X.w X.K X.mg X.base CX k f fd ps sp) (hr : Room k X.A) (hs : PySem.W.findIn X.K (.ref C) "__contains__" = some (some (.ref f))) (hf : PySem.W.isFn X.K (.ref f) = true)
    (hb : Binds X.K fd ps []) (hx : Passes CX X E) : OpR X (compareOp .NotIn) (rNotInO C sp E) := by
  intro pins s σ H x y v u Q I rx ry h
  obtain ⟨a, dx, fs, rfl, ea, h⟩ := h
  cases ry
  obtain ⟨mA, J, _⟩ := ins_get I.hok ea
  obtain ⟨od, J, _⟩ := J.look
  obtain ⟨m, hF⟩ := I.fr
  refine PySem.W.notIn_K hF I.ok.mod.kin J hs hf ?_
  refine wpAny_mono (run_fn (us := [.ref a, v]) (vs := [.ref a, x]) (dvs := []) F hr hb .nil hx I (.cons rfl (.cons rx .nil)) h) (fun r s' z => ?_) fun _ _ e => e
  obtain ⟨z, H', I', rz, b, ez, q⟩ := z
  subst ez
  cases rz
  exact wpAny_truthy_bool ⟨.bl (!b), H', I', rfl, q⟩
end L2
namespace TW
open PySem PySem.Spec PyProof.Rows L2 TL
/-- along the fields -/
def stp (os : List Ob) (v : Option Nat) (f : Str) : Option Nat := v.bind fun k => fld os k f
def fol (os : List Ob) (v : Option Nat) (ws : List Str) : Option Nat := ws.foldl (stp os) v
theorem fol_none (os : List Ob) : ∀ ws : List Str, fol os none ws = none
  | [] => rfl
  | _ :: r => fol_none os r
theorem fol_next {os : List Ob} {v : Option Nat} {ws : List Str} {i : Nat} {f : Str} (h : ws[i]? = some f) : fol os v (ws.take (i + 1)) = stp os (fol os v (ws.take i)) f := by
  unfold fol
  rw [take_next' h, List.foldl_append]
  rfl
theorem fol_split {os : List Ob} {v : Option Nat} {ws : List Str} {i : Nat} (h : fol os v (ws.take i) = none) : fol os v ws = none := by
  have e : fol os v ws = fol os (fol os v (ws.take i)) (ws.drop i) := by
    unfold fol
    rw [← List.foldl_append, List.take_append_drop]
  rw [e, h]
  exact fol_none os _
theorem stp_ok {os : List Ob} {n : Nat} (ho : ∀ o ∈ os, okl n o) {v : Option Nat} {f : Str} : okv n (stp os v f) := by
  cases v with
  | none => trivial
  | some k => exact okv_fld ho k f
theorem fol_ok {os : List Ob} {n : Nat} (ho : ∀ o ∈ os, okl n o) : ∀ (ws : List Str) {v : Option Nat}, okv n v → okv n (fol os v ws)
  | [], _, h => h
  | _ :: r, _, _ => fol_ok ho r (stp_ok ho)
def spHas (K : PySem.W.Frag) (C : Addr) : Sp := fun vs H Q _ => ∃ (h : Addr) (x : V) (T : String) (p : HP) (l : Ob), vs = [.ref h, x] ∧ H h = some (.ins C p.dx (hfl p)) ∧ H p.qN = some (.dK (dk l)) ∧ Kd K H x T ∧ Q (.bl (oneOf x (l.map (·.1)))) H
/-- the errors that at may raise -/
def eNm (nm : Str) (CE : Addr) (H : Hp) (E : XK) : Prop := ∀ H1 d, Same H H1 → H1 d = none → E (.ref CE) (some d) (upd H1 d (.xd [(("part" : Str), .str nm)]))
def spAt (K : PySem.W.Frag) (C CE : Addr) : Sp := fun vs H Q E => ∃ (h : Addr) (x pth : V) (Tx Tp : String) (fs : List Str) (os : List Ob) (l : Ob) (p : HP), vs = [.ref h, x, pth] ∧ HeapAt K C H h fs os l p ∧ Kd K H x Tx ∧ Kd K H pth Tp ∧
  ((oneOf x (l.map (·.1)) = false ∧ eNm "name" CE H E) ∨
   (oneOf x (l.map (·.1)) = true ∧ Tp ≠ "list" ∧ Tp ≠ "tuple" ∧ eNm "path" CE H E) ∨
   (oneOf x (l.map (·.1)) = true ∧ (Tp = "list" ∨ Tp = "tuple") ∧ ∃ a xs, pth = .ref a ∧ SeqK K H a xs ∧ (xs.all fun y => oneOf y fs) = false ∧ eNm "path" CE H E) ∨
   (∃ (n : Str) (a : Addr) (ws : List Str), x = .str n ∧ n ∈ l.map (·.1) ∧ (Tp = "list" ∨ Tp = "tuple") ∧ pth = .ref a ∧ SeqK K H a (ws.map V.str) ∧ (∀ z ∈ ws, z ∈ fs) ∧ ∀ H1, Same H H1 → Q (hv (fol os (nmv l n) ws)) H1))
/-- what more the walk asks of the class -/
structure HC2 (K : PySem.W.Frag) (C fH : Addr) : Prop where
  cs : PySem.W.findIn K (.ref C) "__contains__" = some (some (.ref fH))
  cf : PySem.W.isFn K (.ref fH) = true
abbrev S_Heap___contains__ : Stmt := inClass (topS 17) 2
abbrev N_Heap___contains__ : List Str := ["self", "name"]
abbrev P_Heap___contains__ : List Str := ["self", "name"]
theorem sc_Heap___contains__ : FnScope N_Heap___contains__ P_Heap___contains__ (defScope S_Heap___contains__) := ⟨rfl, rfl, rfl, by decide +kernel, rfl, by decide +kernel, by decide +kernel⟩
abbrev S_Heap_at : Stmt := inClass (topS 17) 8
abbrev N_Heap_at : List Str := ["self", "name", "path", "number", "field"]
abbrev P_Heap_at : List Str := ["self", "name", "path"]
theorem sc_Heap_at : FnScope N_Heap_at P_Heap_at (defScope S_Heap_at) := ⟨rfl, rfl, rfl, by decide +kernel, rfl, by decide +kernel, by decide +kernel⟩
section
variable {P : Program} {w : World} {K : PySem.W.Frag} {mg : Str → Option Value} {base : Heap}
set_option maxHeartbeats 4000000 in
theorem ok_has {f C fB : Addr} {fd fdB : FuncData} (F : Fun K "__contains__" "Heap.__contains__" S_Heap___contains__ f fd) (T : HC K mg C) (d_is_one_of : Df K mg "is_one_of" S_is_one_of fB fdB P_is_one_of) (G_is_one_of : FnOk P w K mg base CX0 1 fB fdB P_is_one_of (spOneOf K)) :
    FnOk P w K mg base CX0 2 f fd P_Heap___contains__ (spHas K C) := by
  refine F.ok sc_Heap___contains__ (fun vs H Q E h => ?_) (fun cdv A outer s H vs Q E hr h => ?_)
  · obtain ⟨h, x, T, p, l, rfl, _⟩ := h
    rfl
  · obtain ⟨h, x, Tx, p, l, rfl, hh, hn, hk, k⟩ := h
    have hr_is_one_of : Room 1 _ := hr.mono (Nat.le_refl 1)
    refine ⟨_, (pss_one (ps_ret (pe_call G_is_one_of hr_is_one_of rfl d_is_one_of.g d_is_one_of.F.kp d_is_one_of.b .nil pass0 (pa_cons (pv 1) (pa_cons (pe_fld (pv 0) rfl) pa_nil))))), ?_⟩
    exact ⟨_, rfl, _, rfl, h, C, _, _, _, rfl, hh, T.cl, T.nN, hfl_names p, x, Tx, p.qN, _, rfl, hk, .inl ⟨l, hn, rfl⟩, k⟩
set_option maxHeartbeats 8000000 in
theorem ok_at {f C CE fI fB fH : Addr} {fd fdB fdH : FuncData} (F : Fun K "at" "Heap.at" S_Heap_at f fd) (B : Bl mg) (T0 : HC K mg C) (T : HC2 K C fH) (TE : PySem.ErrX.ErrTxt P K mg "InvalidArgument" "wrong argument: " CE fI)
    (G_has : FnOk P w K mg base CX0 2 fH fdH P_Heap___contains__ (spHas K C)) (b_has : Binds K fdH P_Heap___contains__ [])
    (d_is_path : Df K mg "is_path" S_is_path fB fdB P_is_path) (G_is_path : FnOk P w K mg base CX0 2 fB fdB P_is_path (spPath K)) :
    FnOk P w K mg base (L2.CX P w) 3 f fd P_Heap_at (spAt K C CE) := by
  refine F.okX sc_Heap_at (fun vs H Q E h => ?_) (fun cdv A outer s H vs Q E hr h => ?_)
  · obtain ⟨h, x, pth, Tx, Tp, fs, os, l, p, rfl, _⟩ := h
    rfl
  · obtain ⟨h, x, pth, Tx, Tp, fs, os, l, p, rfl, A0, hkx, hkp, k⟩ := h
    have hr_has : Room 2 _ := hr.mono (Nat.le_refl 2)
    have hr_is_path : Room 2 _ := hr.mono (Nat.le_refl 2)
    have hr0 : Room 1 _ := hr.mono (by decide)
    have hu := hu_of hr
    refine ⟨_, (pss_cons (ps_if (pt_cmpR (op_notInO G_has hr_has T.cs T.cf b_has pass0) (pv 1) (pv 0) (by rfl)) (pss_one (ps_raiseE rfl TE hr0 (takes_of rfl rfl rfl rfl) B.m_super (pa_cons pe_str pa_nil) rfl rfl)) pss_nil)
 (pss_cons (ps_if (pt_not (pt_val (pe_call G_is_path hr_is_path rfl d_is_path.g d_is_path.F.kp d_is_path.b .nil pass0 (pa_cons (pv 2) (pa_cons (pe_fld (pv 0) rfl) pa_nil))))) (pss_one (ps_raiseE rfl TE hr0 (takes_of rfl rfl rfl rfl) B.m_super (pa_cons pe_str pa_nil) rfl rfl)) pss_nil)
 (pss_cons (ps_set (i := 3) sc_Heap_at.nd rfl (by first | exact Or.inl rfl | exact Or.inr rfl) (pe_dget hu (pe_fld (pv 0) rfl) (pv 1) (fun _ _ => rfl)))
 (pss_cons (ps_for (passes_of rfl) rfl (pi_seqv 2) (pg_name (i := 4) sc_Heap_at.nd rfl (by first | exact Or.inl rfl | exact Or.inr rfl)) (pss_cons (ps_if (pt_cmpR op_isN (pv 3) pe_non (nomark _)) (pss_one (ps_ret pe_non)) pss_nil)
 (pss_one (ps_set (i := 3) sc_Heap_at.nd rfl (by first | exact Or.inl rfl | exact Or.inr rfl) (pe_dget hu (pe_ix ix_list (pe_fld (pv 0) rfl) (pv 3) (fun _ _ => rfl)) (pv 4) (fun _ _ => rfl))))))
 (pss_one (ps_ret (pv 3))))))), ?_⟩
    refine ⟨_, rfl, _, rfl, h, _, _, rfl, A0.ob, h, x, Tx, p, l, rfl, A0.ob, A0.n, hkx, _, rfl, ?_⟩
    have raised : ∀ {nm : Str} {H1 : Hp}, Same H H1 → nm.length ≤ 1000 → eNm nm CE H E → ∀ (W : WX), (∀ cls d σ H', E cls d H' → W cls d σ H') → ∀ D σ, tRaiseE CE W (tCons (tC (.str nm)) tNil) D σ H1 := fun s1 hz he W hW D σ =>
      ⟨_, rfl, hz, fun d hd => hW _ _ _ _ (he _ d s1 hd)⟩
    rcases k with ⟨h1, k⟩ | k
    · rw [h1]
      exact ⟨true, rfl, iteT (raised (fun _ _ e => e) (by decide) k _ (fun _ _ _ _ z => z) _ _)⟩
    have h1 : oneOf x (l.map (·.1)) = true := by
      rcases k with ⟨h, _⟩ | ⟨h, _⟩ | ⟨n, a, ws, rfl, h, _⟩
      · exact h
      · exact h
      · exact decide_eq_true h
    rw [h1]
    refine ⟨false, rfl, iteF ?_⟩
    have hF : SqT K H p.tF (fs.map V.str) := SqT.of A0.f
    rcases k with ⟨_, n1, n2, k⟩ | ⟨_, hT, a, xs, rfl, S, hb, k⟩ | ⟨n, a, ws, rfl, hn, hT, rfl, S, hw, k⟩
    · refine ⟨_, rfl, _, rfl, h, C, _, _, _, rfl, A0.ob, T0.cl, T0.nF, hfl_fields p, pth, Tp, p.tF, fs, rfl, hkp, hF, .inl ⟨n1, n2, fun H1 s1 => ⟨_, rfl, ?_⟩⟩⟩
      exact iteT (raised s1 (by decide) k _ (fun _ _ _ _ z => z) _ _)
    · refine ⟨_, rfl, _, rfl, h, C, _, _, _, rfl, A0.ob, T0.cl, T0.nF, hfl_fields p, .ref a, Tp, p.tF, fs, rfl, hkp, hF, .inr ⟨hT, a, xs, rfl, S, fun H1 s1 => ⟨_, rfl, ?_⟩⟩⟩
      rw [hb]
      exact iteT (raised s1 (by decide) k _ (fun _ _ _ _ z => z) _ _)
    · refine ⟨_, rfl, _, rfl, h, C, _, _, _, rfl, A0.ob, T0.cl, T0.nF, hfl_fields p, .ref a, Tp, p.tF, fs, rfl, hkp, hF, .inr ⟨hT, a, _, rfl, S, fun H1 s1 => ⟨_, rfl, ?_⟩⟩⟩
      have hall : ((ws.map V.str).all fun y => oneOf y fs) = true := by
        rw [List.all_eq_true]
        intro y hy
        obtain ⟨z, hz, rfl⟩ := List.mem_map.mp hy
        exact decide_eq_true (hw z hz)
      rw [hall]
      refine iteF ?_
      have A1 := A0.same s1
      have S1 := S.same s1
      have G := A0.g
      refine ⟨_, rfl, h, C, _, _, _, rfl, A1.ob, T0.cl, T0.nN, hfl_names p, _, rfl, p.qN, _, rfl, dget_dk (k := (Sum.inr n : Key)) A1.n (nmv_val hn), _, rfl, ?_⟩
      refine seq_go S1.at' (fun hS => ?_) (fun hS => ?_)
      all_goals
        first
          | refine for_list (xs := ws.map V.str) (fun i σ H2 => ∃ (v : Option Nat) (z : Option V), σ = [some (.ref h), some (.str n), some (.ref a), some (hv v), z] ∧ v = fol os (nmv l n) (ws.take i) ∧ Same H1 H2) ⟨_, _, rfl, rfl, Same.refl _⟩ ?_ ?_ ?_
          | refine for_tup (xs := ws.map V.str) (fun i σ H2 => ∃ (v : Option Nat) (z : Option V), σ = [some (.ref h), some (.str n), some (.ref a), some (hv v), z] ∧ v = fol os (nmv l n) (ws.take i) ∧ Same H1 H2) ⟨_, _, rfl, rfl, Same.refl _⟩ ?_ ?_ ?_
        · rintro i σ H2 hi ⟨v, z, _, _, s2⟩
          first
            | exact s2.seq hS
            | exact sqt_same s2 hS
        · rintro i y σ H2 hy ⟨v, z, rfl, ev, s2⟩
          obtain ⟨f0, hf0, rfl⟩ := get_str hy
          have hf1 : f0 ∈ fs := hw f0 (List.mem_of_getElem? hf0)
          have A2 := A1.same s2
          have okv2 : okv os.length v := by
            rw [ev]
            exact fol_ok G.ook _ (okv_look G.lk n)
          refine ⟨_, rfl, rfl, _, rfl, ?_⟩
          refine ite_dec (fun hb => ?_) (fun hb => ?_)
          · have e0 : v = none := by
              cases v with
              | none => rfl
              | some k0 => exact absurd (of_decide_eq_true hb) (fun z => nomatch z)
            have e1 : hv (fol os (nmv l n) ws) = .non := by
              rw [fol_split (os := os) (i := i) (by rw [← ev, e0])]
              rfl
            have q := k H2 (s1.trans s2)
            rw [e1] at q
            exact q
          · cases v with
            | none => exact absurd rfl (of_decide_eq_false hb)
            | some k0 =>
              have hk0 : k0 < os.length := okv2
              have ho : os[k0]? = some os[k0] := List.getElem?_eq_getElem hk0
              have hd0 : k0 < p.ds.length := by rw [A2.o.len]; exact hk0
              have hdk : p.ds[k0]? = some p.ds[k0] := List.getElem?_eq_getElem hd0
              have hf2 : f0 ∈ os[k0].map (·.1) := by
                exact (G.oks _ (List.getElem_mem hk0)).mem_iff.mpr hf1
              refine ⟨_, rfl, h, C, _, _, _, rfl, A2.ob, T0.cl, T0.nO, hfl_objects p, _, rfl, p.qO, _, _, _, rfl, rfl, SqL.of A2.o.ls, atI_nat (j := k0) (by rw [List.getElem?_map, hdk]; rfl), _, rfl, p.ds[k0], hv (fld os k0 f0), rfl, dget_dk (k := (Sum.inr f0 : Key)) (A2.o.at' k0 _ _ hdk ho) (fld_val ho hf2), ?_⟩
              refine ⟨fld os k0 f0, _, rfl, ?_, s2⟩
              rw [fol_next hf0, ← ev]
              rfl
        · rintro σ H2 ⟨v, z, rfl, ev, s2⟩
          rw [List.length_map, List.take_length] at ev
          refine ⟨_, rfl, ?_⟩
          rw [ev]
          exact k _ (s1.trans s2)
end
end TW
set_option Elab.async false
set_option linter.all false
set_option maxRecDepth 100000
namespace TW
open PySem PySem.Spec PyProof.Rows L2 TL LamX NdefX LamQ
theorem Tabs.fr {T : List (Addr × Str)} {p c : Addr} {H H' : Hp} (t : Tabs T H) (P : Pool p c H) (f : Fr p c H H') : Tabs T H' := by
  obtain ⟨ys, i, j, h1, h2, _⟩ := P.ex
  have off : ∀ {b : Addr} {o : HO}, H b = some o → (∀ xs, o ≠ .lst xs) → H' b = some o := fun {b o} e n => f _ _ (fun z => by
    rw [z, h1] at e
    exact n _ (Option.some.inj e).symm) (fun z => by
    rw [z, h2] at e
    exact n _ (Option.some.inj e).symm) e
  intro q hq
  obtain ⟨ps, g1, g2, g3⟩ := t q hq
  refine ⟨ps, off g1 (fun xs z => nomatch z), g2, fun pos cv hc => ?_⟩
  obtain ⟨c', e1, e2⟩ := g3 pos cv hc
  exact ⟨c', e1, off e2 (fun xs z => by unfold CodeO at z; cases z)⟩
theorem seq_ext {K : PySem.W.Frag} {H H1 : Hp} {a : Addr} {xs : List V} (e : ExtN H H1) (h : SqL K H a xs) : SqL K H1 a xs := by
  rcases h with (h | ⟨o, h⟩) | h
  · exact .inl (.inl (e _ _ h fun ps z => nomatch z))
  · exact .inl (.inr ⟨o, e _ _ h fun ps z => nomatch z⟩)
  · exact .inr h
theorem Pool.extN {p c : Addr} {H H' : Hp} (P : Pool p c H) (e : ExtN H H') : Pool p c H' := by
  obtain ⟨xs, a2, m2, g1, g2, g3⟩ := P.ex
  exact ⟨P.ne, xs, a2, m2, e _ _ g1 (fun ps z => nomatch z), e _ _ g2 (fun ps z => nomatch z), g3⟩
/-- all but tables stays -/
structure SamE (H H' : Hp) : Prop where
  x : ExtN H H'
theorem SamE.g {H H' : Hp} (s : SamE H H') {b : Addr} {o : HO} (e : H b = some o) (nt : ∀ ps, o ≠ .tbl ps := by intro ps z; cases z) : H' b = some o := s.x b o e nt
theorem toE {H H' : Hp} (s : Same H H') : SamE H H' := ⟨fun b o e _ => s b o e⟩
theorem SamE.trans {H H1 H2 : Hp} (a : SamE H H1) (b : SamE H1 H2) : SamE H H2 := ⟨fun c o e nt => b.x c o (a.x c o e nt) nt⟩
theorem HeapAt.sameE {K : PySem.W.Frag} {C h : Addr} {H H' : Hp} {fs : List Str} {os : List Ob} {l : Ob} {p : HP} (A : HeapAt K C H h fs os l p) (s : SamE H H') : HeapAt K C H' h fs os l p :=
  ⟨s.g A.ob, s.g A.f, objs_ext s.x A.o, s.g A.n, s.g A.t, objs_ext s.x A.r, s.g A.m, A.lv, A.nd, A.lt, A.g⟩
end TW
set_option Elab.async false
set_option linter.all false
set_option maxRecDepth 100000
namespace L2
open PySem PySem.Spec PyProof.Rows
section
variable {X : Cx} {CX : CXT} {k : Nat} {C f : Addr} {fd : FuncData} {ps : List Str} {sp : Sp}
/-- x in o, as a value -/
def rInO (C : Addr) (sp : Sp) (E : XK) : R2 := fun x y H Q => ∃ a dx fs, y = .ref a ∧ H a = some (.ins C dx fs) ∧ sp [.ref a, x] H (fun v H' => ∃ b : Bool, v = .bl b ∧ Q (.bl b) H') E
theorem op_inO {E : XK} (F : FnOk X.prog X.w X.K X.mg X.base CX k f fd ps sp) (hr : Room k X.A) (hs : PySem.W.findIn X.K (.ref C) "__contains__" = some (some (.ref f))) (hf : PySem.W.isFn X.K (.ref f) = true)
    (hb : Binds X.K fd ps []) (hx : Passes CX X E) : OpR X (compareOp .In) (rInO C sp E) := by
  intro pins s σ H x y v u Q I rx ry h
  obtain ⟨a, dx, fs, rfl, ea, h⟩ := h
  cases ry
  obtain ⟨mA, J, _⟩ := ins_get I.hok ea
  obtain ⟨od, J, _⟩ := J.look
  obtain ⟨m, hF⟩ := I.fr
  refine PySem.W.in_K hF I.ok.mod.kin J hs hf ?_
  refine wpAny_mono (run_fn (us := [.ref a, v]) (vs := [.ref a, x]) (dvs := []) F hr hb .nil hx I (.cons rfl (.cons rx .nil)) h) (fun r s' z => ?_) fun _ _ e => e
  obtain ⟨z, H', I', rz, b, ez, q⟩ := z
  subst ez
  cases rz
  exact wpAny_truthy_bool ⟨.bl b, H', I', rfl, q⟩
/-- the callee runs one deeper -/
theorem run_fnI {pins : List (Addr × Obj)} {σ : St} {H : Hp} {s : Shared} {Q : VK} {us : List Value} {vs : List V} {E : St → XK} (F : FnOk X.prog X.w X.K X.mg X.base CX k f fd ps sp) (hr : Room (k + 1) X.A) (hb : Binds X.K fd ps []) (hx : PassesAt CX X σ (E σ))
    (I : Inv X pins σ H s) (r : Vals vs us) (h : sp vs H Q (E σ)) : wpAny (model X.prog X.w) X.A.in1 (call (.ref f) us) (EP X pins σ Q) X.xe s := by
  have hl : us.length = ps.length := by rw [← r.length]; exact F.len _ _ _ _ h
  have b := hb s us I.kIn (by rw [List.append_nil]; exact hl)
  rw [List.append_nil] at b
  refine wpAny_call (codeAny_mono (F.run X.A.in1 X.stack s H ⟨us, []⟩ us vs Q (E σ) hr.in1 I.env0.in1 b r h) fun r s' hq => ?_)
  cases r with
  | error e => exact hx pins H s e s' I hq
  | ok fl =>
    cases fl with
    | ret u => exact I.after hq
    | next => exact False.elim hq
    | brk => exact False.elim hq
    | cont => exact False.elim hq
/-- o[e], the class of o with an own rule for it -/
def tIxO (C : Addr) (sp : Sp) (E : St → XK) (ta tb : TE) : TE := fun σ H Q => ta σ H fun x H1 => tb σ H1 fun y H2 => ∃ a dx fs, x = .ref a ∧ H2 a = some (.ins C dx fs) ∧ sp [.ref a, y] H2 Q (E σ)
theorem pe_ixO {E : St → XK} {a b : Expr} {ta tb : TE} {pos : Pos} (F : FnOk X.prog X.w X.K X.mg X.base CX k f fd ps sp) (hr : Room (k + 1) X.A) (hs : PySem.W.findIn X.K (.ref C) "__getitem__" = some (some (.ref f))) (hf : PySem.W.isFn X.K (.ref f) = true) (hi : PySem.W.fnIn X.K f = true)
    (hb : Binds X.K fd ps []) (hx : ∀ σ, PassesAt CX X σ (E σ)) (ha : PE X a ta) (hbb : PE X b tb) (hsl : ∀ o i, subscripted b true o i = runValue (.builtin "lifetime.subscript" ⟨[o, i], []⟩)) : PE X (.Subscript a b pos) (tIxO C sp E ta tb) := by
  refine ⟨fun pins s σ H Q I h => ?_⟩
  refine Subscript_ (binT ha hbb I (R := fun x y H2 => ∃ p dx fs, x = .ref p ∧ H2 p = some (.ins C dx fs) ∧ sp [.ref p, y] H2 Q (E σ)) h fun v u s2 x y H2 I2 rx ry q => ?_)
  obtain ⟨p, dx, fs, rfl, ea, q⟩ := q
  cases rx
  obtain ⟨mA, J, _⟩ := ins_get I2.hok ea
  obtain ⟨od, J, _⟩ := J.look
  obtain ⟨m, hF⟩ := I2.fr
  exact PySem.W.sub_K hF I2.ok.mod.kin J hs hi hf (run_fnI (us := [.ref p, u]) (vs := [.ref p, y]) F hr hb (hx σ) I2 (.cons rfl (.cons ry .nil)) q) (hsl _ _)
/-- len(o), the class of o with an own rule for it -/
theorem call_lenO {E : XK} (F : FnOk X.prog X.w X.K X.mg X.base CX k f fd ps sp) (hr : Room (k + 1) X.A) (hs : PySem.W.findIn X.K (.ref C) "__len__" = some (some (.ref f))) (hf : PySem.W.isFn X.K (.ref f) = true)
    (hb : Binds X.K fd ps []) (hx : Passes CX X E) : CallR X (.builtin "len") (fun xs H Q => ∃ a dx fs, xs = [.ref a] ∧ H a = some (.ins C dx fs) ∧ sp [.ref a] H (fun v H' => ∃ n : Int, v = .int n ∧ 0 ≤ n ∧ n < 2 ^ 63 ∧ Q (.int n) H') E) := by
  intro pins s σ H us vs Q I r h
  obtain ⟨a, dx, fs, rfl, ea, h⟩ := h
  cases r with
  | cons ra rn =>
    cases rn
    cases ra
    obtain ⟨mA, J, _⟩ := ins_get I.hok ea
    obtain ⟨od, J, _⟩ := J.look
    obtain ⟨m, hF⟩ := I.fr
    refine PySem.W.len_K hF I.ok.mod.kin J hs hf ?_
    refine wpAny_mono (run_fnI (E := fun _ => E) (us := [.ref a]) (vs := [.ref a]) F hr hb (fun pins H s e s' => hx pins σ H s e s') I (.cons rfl .nil) h) (fun r s' z => ?_) fun _ _ e => e
    obtain ⟨z, H', I', rz, n, ez, n0, n1, q⟩ := z
    subst ez
    obtain ⟨t, rfl⟩ := (show ∃ t, r = Value.int n t from rz)
    exact ⟨⟨n0, n1⟩, .int n, H', I'.tok _, ⟨_, rfl⟩, q⟩
end
end L2
namespace TW
open PySem PySem.Spec PyProof.Rows L2 TL
def spGet (K : PySem.W.Frag) (C CE : Addr) : Sp := fun vs H Q E => ∃ (h : Addr) (x : V) (T : String) (p : HP) (l : Ob), vs = [.ref h, x] ∧ H h = some (.ins C p.dx (hfl p)) ∧ H p.qN = some (.dK (dk l)) ∧ Kd K H x T ∧
  ((oneOf x (l.map (·.1)) = false ∧ eNm "name" CE H E) ∨ ∃ n, x = .str n ∧ n ∈ l.map (·.1) ∧ Q (hv (nmv l n)) H)
def spLenH (K : PySem.W.Frag) (C : Addr) : Sp := fun vs H Q _ => ∃ (h : Addr) (fs : List Str) (os : List Ob) (l : Ob) (p : HP), vs = [.ref h] ∧ HeapAt K C H h fs os l p ∧ Q (.int (os.length : Int)) H
def spNms (K : PySem.W.Frag) (C : Addr) : Sp := fun vs H Q _ => ∃ (h : Addr) (p : HP) (l : Ob), vs = [.ref h] ∧ H h = some (.ins C p.dx (hfl p)) ∧ H p.qN = some (.dK (dk l)) ∧ ∀ q, H q = none → Q (.ref q) (upd H q (.dK (dk l)))
def spObs (K : PySem.W.Frag) (C : Addr) : Sp := fun vs H Q _ => ∃ (h : Addr) (fs : List Str) (os : List Ob) (l : Ob) (p : HP), vs = [.ref h] ∧ HeapAt K C H h fs os l p ∧
  ∀ (D : Addr) (ds : List Addr) (H' : Hp), Same H H' → H D = none → (∀ d ∈ ds, H d = none ∧ d ≠ D) → ObjsAt H' D ds fs os.length os → Q (.ref D) H'
abbrev S_Heap___getitem__ : Stmt := inClass (topS 17) 1
abbrev N_Heap___getitem__ : List Str := ["self", "name"]
abbrev P_Heap___getitem__ : List Str := ["self", "name"]
theorem sc_Heap___getitem__ : FnScope N_Heap___getitem__ P_Heap___getitem__ (defScope S_Heap___getitem__) := ⟨rfl, rfl, rfl, by decide +kernel, rfl, by decide +kernel, by decide +kernel⟩
abbrev S_Heap___len__ : Stmt := inClass (topS 17) 4
abbrev N_Heap___len__ : List Str := ["self"]
abbrev P_Heap___len__ : List Str := ["self"]
theorem sc_Heap___len__ : FnScope N_Heap___len__ P_Heap___len__ (defScope S_Heap___len__) := ⟨rfl, rfl, rfl, by decide +kernel, rfl, by decide +kernel, by decide +kernel⟩
abbrev S_Heap_names : Stmt := inClass (topS 17) 7
abbrev N_Heap_names : List Str := ["self"]
abbrev P_Heap_names : List Str := ["self"]
theorem sc_Heap_names : FnScope N_Heap_names P_Heap_names (defScope S_Heap_names) := ⟨rfl, rfl, rfl, by decide +kernel, rfl, by decide +kernel, by decide +kernel⟩
abbrev S_Heap_objects : Stmt := inClass (topS 17) 6
abbrev N_Heap_objects : List Str := ["self", "one"]
abbrev P_Heap_objects : List Str := ["self"]
theorem sc_Heap_objects : FnScope N_Heap_objects P_Heap_objects (defScope S_Heap_objects) := ⟨rfl, rfl, rfl, by decide +kernel, rfl, by decide +kernel, by decide +kernel⟩
section
variable {P : Program} {w : World} {K : PySem.W.Frag} {mg : Str → Option Value} {base : Heap}
set_option maxHeartbeats 8000000 in
theorem ok_get {f C CE fI fH : Addr} {fd fdH : FuncData} (F : Fun K "__getitem__" "Heap.__getitem__" S_Heap___getitem__ f fd) (B : Bl mg) (T0 : HC K mg C) (T : HC2 K C fH) (TE : PySem.ErrX.ErrTxt P K mg "InvalidArgument" "wrong argument: " CE fI)
    (G_has : FnOk P w K mg base CX0 2 fH fdH P_Heap___contains__ (spHas K C)) (b_has : Binds K fdH P_Heap___contains__ []) : FnOk P w K mg base (L2.CX P w) 3 f fd P_Heap___getitem__ (spGet K C CE) := by
  refine F.okX sc_Heap___getitem__ (fun vs H Q E h => ?_) (fun cdv A outer s H vs Q E hr h => ?_)
  · obtain ⟨h, x, T, p, l, rfl, _⟩ := h
    rfl
  · obtain ⟨h, x, Tx, p, l, rfl, hh, hn, hk, k⟩ := h
    have hr_has : Room 2 _ := hr.mono (Nat.le_refl 2)
    have hr0 : Room 1 _ := hr.mono (by decide)
    have hu := hu_of hr
    refine ⟨_, (pss_cons (ps_if (pt_cmpR (op_notInO G_has hr_has T.cs T.cf b_has pass0) (pv 1) (pv 0) (by rfl)) (pss_one (ps_raiseE rfl TE hr0 (takes_of rfl rfl rfl rfl) B.m_super (pa_cons pe_str pa_nil) rfl rfl)) pss_nil)
 (pss_one (ps_ret (pe_dget hu (pe_fld (pv 0) rfl) (pv 1) (fun _ _ => rfl))))), ?_⟩
    refine ⟨_, rfl, _, rfl, h, _, _, rfl, hh, h, x, Tx, p, l, rfl, hh, hn, hk, _, rfl, ?_⟩
    rcases k with ⟨h1, k⟩ | ⟨n, rfl, hm, k⟩
    · rw [h1]
      exact ⟨true, rfl, iteT ⟨_, rfl, by decide, fun d hd => k H d (fun _ _ e => e) hd⟩⟩
    · have h1 : oneOf (.str n) (l.map (·.1)) = true := decide_eq_true hm
      rw [h1]
      refine ⟨false, rfl, iteF ?_⟩
      exact ⟨_, rfl, h, C, _, _, _, rfl, hh, T0.cl, T0.nN, hfl_names p, _, rfl, p.qN, _, rfl, dget_dk (k := (Sum.inr n : Key)) hn (nmv_val hm), k⟩
set_option maxHeartbeats 4000000 in
theorem ok_lenH {f C : Addr} {fd : FuncData} (F : Fun K "__len__" "Heap.__len__" S_Heap___len__ f fd) (B : Bl mg) (T0 : HC K mg C) : FnOk P w K mg base CX0 1 f fd P_Heap___len__ (spLenH K C) := by
  refine F.ok sc_Heap___len__ (fun vs H Q E h => ?_) (fun cdv A outer s H vs Q E hr h => ?_)
  · obtain ⟨h, fs, os, l, p, rfl, _⟩ := h
    rfl
  · obtain ⟨h, fs, os, l, p, rfl, A0, k⟩ := h
    refine ⟨_, (pss_one (ps_ret (pe_callB call_len_seq (by rfl) B.m_len PySem.boot_len (pa_cons (pe_fld (pv 0) rfl) pa_nil)))), ?_⟩
    refine ⟨_, rfl, h, C, _, _, _, rfl, A0.ob, T0.cl, T0.nO, hfl_objects p, p.qO, _, rfl, .inl (SqL.of A0.o.ls), ?_⟩
    rw [List.length_map, A0.o.len]
    exact k
set_option maxHeartbeats 4000000 in
theorem ok_nms {f C : Addr} {fd : FuncData} (F : Fun K "names" "Heap.names" S_Heap_names f fd) (B : Bl mg) (T0 : HC K mg C) : FnOk P w K mg base CX0 1 f fd P_Heap_names (spNms K C) := by
  refine F.ok sc_Heap_names (fun vs H Q E h => ?_) (fun cdv A outer s H vs Q E hr h => ?_)
  · obtain ⟨h, p, l, rfl, _⟩ := h
    rfl
  · obtain ⟨h, p, l, rfl, hh, hn, k⟩ := h
    refine ⟨_, (pss_one (ps_ret (pe_callTy call_dictD (by rfl) B.m_dict (by decide +kernel) (pa_cons (pe_fld (pv 0) rfl) pa_nil)))), ?_⟩
    exact ⟨_, rfl, h, C, _, _, _, rfl, hh, T0.cl, T0.nN, hfl_names p, p.qN, _, rfl, .inl hn, fun q hq => k q hq⟩
set_option maxHeartbeats 4000000 in
theorem ok_obs {f C : Addr} {fd : FuncData} (F : Fun K "objects" "Heap.objects" S_Heap_objects f fd) (B : Bl mg) (T0 : HC K mg C) : FnOk P w K mg base CX0 1 f fd P_Heap_objects (spObs K C) := by
  refine F.ok sc_Heap_objects (fun vs H Q E h => ?_) (fun cdv A outer s H vs Q E hr h => ?_)
  · obtain ⟨h, fs, os, l, p, rfl, _⟩ := h
    rfl
  · obtain ⟨h, fs, os, l, p, rfl, A0, k⟩ := h
    refine ⟨_, (pss_one (ps_ret (pe_lc (own := [("one", 1)]) (g := gName 1) (tt := tYes) rfl sc_Heap_objects.nd (pi_list (pe_fld (pv 0) rfl)) (blkOk_by (own := [("one", 1)]) (N := N_Heap_objects) (sc := defScope S_Heap_objects) (by decide +kernel)) (fun _ _ _ _ _ => (pg_name (i := 1) sc_Heap_objects.nd rfl (by first | exact Or.inl rfl | exact Or.inr rfl))) (fun _ _ _ _ _ => pts_nil) (fun _ _ _ _ _ => (pe_callTy call_dictD (by rfl) B.m_dict (by decide +kernel) (pa_cons (pv 1) pa_nil)))))), ?_⟩
    have O6 := A0.o
    have hn := A0.g.o2
    refine ⟨_, rfl, h, C, _, _, _, rfl, A0.ob, T0.cl, T0.nO, hfl_objects p, p.qO, rfl, ⟨_, SqL.of O6.ls⟩, fun D hD => lc_list (xs := p.ds.map V.ref) (fun i H7 => ∃ ds' : List Addr, Same H H7 ∧ H7 D = some (.lst (ds'.map V.ref)) ∧ ds'.length = i ∧ ds'.Nodup ∧ (∀ x ∈ ds', H x = none ∧ x ≠ D) ∧ (∀ (i' : Nat) (d' : Addr) (o : Ob), ds'[i']? = some d' → os[i']? = some o → H7 d' = some (.dK (dk o)))) ?_ ?_ ?_ ?_⟩
    · exact ⟨[], same_new hD, upd_same, rfl, List.nodup_nil, fun x hx => (nomatch hx), fun i' d' k h => by simp at h⟩
    · rintro i H7 _ ⟨ds', s7, _⟩
      exact SqL.of (s7 _ _ O6.ls)
    · rintro i x H7 hx ⟨ds', s7, hD7, hlen, dnd, dfr, dat⟩
      rw [List.getElem?_map] at hx
      cases ed : p.ds[i]? with
      | none => rw [ed] at hx; cases hx
      | some d =>
        rw [ed] at hx
        obtain rfl : V.ref d = x := Option.some.inj hx
        have hi0 := (List.getElem?_eq_some_iff.mp ed).1
        have hi : i < os.length := by rw [← O6.len]; exact hi0
        have ho : os[i]? = some os[i] := List.getElem?_eq_getElem hi
        refine ⟨rfl, yes_of ⟨_, rfl, d, _, rfl, .inl (s7 _ _ (O6.at' i d _ ed ho)), fun E hE => ?_⟩⟩
        have hE6 := s7.free hE
        have DE : D ≠ E := ne_of_none hD7 hE
        refine ⟨_, (upd_ne DE).trans hD7, by rw [List.length_map, hlen]; exact small1000 (by omega), ds' ++ [E], ?_, ?_, ?_, ?_, ?_, ?_⟩
        · intro b o e
          rw [upd_ne (ne_of_none e hD), upd_ne (ne_of_none e hE6)]
          exact s7 _ _ e
        · rw [upd_same, List.map_append]; rfl
        · rw [List.length_append, hlen]; rfl
        · refine List.nodup_append.mpr ⟨dnd, by simp, fun x hx y hy => ?_⟩
          rw [List.mem_singleton.mp hy]
          intro e
          obtain ⟨i', hi', e'⟩ := List.getElem_of_mem hx
          have hi2 : i' < os.length := by omega
          have := dat i' x os[i'] (by rw [List.getElem?_eq_getElem hi', e']) (List.getElem?_eq_getElem hi2)
          rw [e, hE] at this
          cases this
        · intro x hx
          rcases List.mem_append.mp hx with hx | hx
          · exact dfr x hx
          · rw [List.mem_singleton.mp hx]; exact ⟨hE6, DE.symm⟩
        · intro i' d' k g1 g2
          rcases Nat.lt_or_ge i' ds'.length with hj | hj
          · rw [List.getElem?_append_left hj] at g1
            have q := dat i' d' k g1 g2
            rw [upd_ne (dfr d' (List.mem_of_getElem? g1)).2, upd_ne (ne_of_none q hE)]
            exact q
          · rw [List.getElem?_append_right hj] at g1
            have hz : i' = ds'.length := by
              have := (List.getElem?_eq_some_iff.mp g1).1
              simp only [List.length_singleton] at this
              omega
            subst hz
            rw [Nat.sub_self] at g1
            have e1 : E = d' := Option.some.inj g1
            subst e1
            rw [hlen, ho] at g2
            have e2 : os[i] = k := Option.some.inj g2
            subst e2
            rw [upd_ne DE.symm, upd_same]
    · rintro H7 ⟨ds', s7, hD7, hlen, dnd, dfr, dat⟩
      rw [List.length_map, O6.len] at hlen
      exact k D ds' H7 s7 hD dfr ⟨hD7, hlen, dnd, dat, O6.ks, O6.ok⟩
end
end TW
set_option Elab.async false
set_option linter.all false
set_option maxRecDepth 100000
namespace TW
open PySem PySem.Spec PyProof.Rows L2 TL LamX NdefX LamQ
def spSame : Sp := fun vs H Q _ => ∃ o : Option Nat, vs = [hv o, hv o] ∧ Q (.bl true) H
def spLaw (K : PySem.W.Frag) (Pt : Addr) : Sp := fun vs H Q _ => ∃ (a : Addr) (ns : List Int), vs = [.ref a] ∧ Tabs (TB1 Pt) H ∧ SqL K H a (ns.map V.int) ∧ ns.length ≤ 63 ∧ ∀ H', Q (.bl true) H'
theorem cut_ints (ns : List Int) (lo hi : Option Int) : ∃ ms : List Int, cutV (ns.map V.int) lo hi = ms.map V.int ∧ ms.length ≤ ns.length := by
  refine ⟨(ns.drop (HT.sIx (ns.map V.int).length 0 lo)).take (HT.sIx (ns.map V.int).length (ns.map V.int).length hi - HT.sIx (ns.map V.int).length 0 lo), ?_, ?_⟩
  · unfold cutV
    rw [List.map_take, List.map_drop]
  · rw [List.length_take, List.length_drop]
    omega
theorem kd_non {K : PySem.W.Frag} {H : Hp} : Kd K H .non "NoneType" := ⟨by decide, .base .non, fun z e => nomatch e⟩
theorem kd_bl {K : PySem.W.Frag} {H : Hp} (b : Bool) : Kd K H (.bl b) "bool" := ⟨by decide, .base (.bl b), fun z e => nomatch e⟩
theorem kd_dk {K : PySem.W.Frag} {H : Hp} {a : Addr} {kvs : List (Key × V)} (h : H a = some (.dK kvs)) : Kd K H (.ref a) "dict" := ⟨by decide, .base (.dK h), fun z e => nomatch e⟩
theorem kd_lst {K : PySem.W.Frag} {H : Hp} {a : Addr} {xs : List V} (h : H a = some (.lst xs)) : Kd K H (.ref a) "list" := ⟨by decide, .base (.lst h), fun z e => nomatch e⟩
theorem kd_tup {K : PySem.W.Frag} {H : Hp} {a : Addr} {xs : List V} (h : H a = some (.tup xs)) : Kd K H (.ref a) "tuple" := ⟨by decide, .base (.tup h), fun z e => nomatch e⟩
theorem kd_str {K : PySem.W.Frag} {H : Hp} {z : Str} (h : z.length ≤ 1000000) : Kd K H (.str z) "str" := ⟨by decide, .base (.str z), fun y e => by injection e with e; subst e; exact h⟩
/-- what stands outside of S -/
def res (S : List Addr) (H : Hp) : Hp := fun b => if b ∈ S then none else H b
theorem res_some {S : List Addr} {H : Hp} {b : Addr} {o : HO} (h : H b = some o) (n : b ∉ S) : res S H b = some o := by unfold res; rw [if_neg n]; exact h
theorem res_none {S : List Addr} {H : Hp} {b : Addr} (h : b ∈ S) : res S H b = none := if_pos h
theorem same_res {S : List Addr} {H0 H : Hp} (s : Same H0 H) (n : ∀ b ∈ S, H0 b = none) : Same H0 (res S H) := fun b o e => res_some (s b o e) fun m => by rw [n b m] at e; cases e
theorem res_same {S : List Addr} {H : Hp} : Same (res S H) H := fun b o e => by
  unfold res at e
  split at e
  · cases e
  · exact e
theorem same_wr {H0 H : Hp} {b : Addr} {o : HO} (s : Same H0 H) (h : H0 b = none) : Same H0 (upd H b o) := fun c u e => by rw [upd_ne (ne_of_none e h)]; exact s c u e
theorem HeapAt.res {K : PySem.W.Frag} {C h : Addr} {H : Hp} {fs : List Str} {os : List Ob} {l : Ob} {p : HP} {S : List Addr} (A : HeapAt K C H h fs os l p) (nh : h ∉ S) (nF : p.tF ∉ S) (nO : p.qO ∉ S) (nN : p.qN ∉ S) (nt : p.t ∉ S) (nr : p.rD ∉ S) (nm : p.nD ∉ S) (nd : ∀ d ∈ p.ds, d ∉ S) (nd2 : ∀ d ∈ p.ds2, d ∉ S) : HeapAt K C (res S H) h fs os l p :=
  ⟨res_some A.ob nh, res_some A.f nF, ⟨res_some A.o.ls nO, A.o.len, A.o.nd, fun i d o g1 g2 => res_some (A.o.at' i d o g1 g2) (nd d (List.mem_of_getElem? g1)), A.o.ks, A.o.ok⟩, res_some A.n nN, res_some A.t nt,
    ⟨res_some A.r.ls nr, A.r.len, A.r.nd, fun i d o g1 g2 => res_some (A.r.at' i d o g1 g2) (nd2 d (List.mem_of_getElem? g1)), A.r.ks, A.r.ok⟩, res_some A.m nm, A.lv, A.nd, A.lt, A.g⟩
theorem kd_int {K : PySem.W.Frag} {H : Hp} (i : Int) : Kd K H (.int i) "int" := ⟨by decide, .base (.int i), fun z e => nomatch e⟩
end TW
set_option Elab.async false
set_option linter.all false
set_option maxRecDepth 100000
namespace L2
open PySem PySem.Spec PyProof.Rows
/-- a statement behind which a mark of one's own choice holds -/
def tCut (t : TS) : TS := fun D σ H => ∃ J : St → Hp → Prop, t { D with nx := J } σ H ∧ ∀ σ' H', J σ' H' → D.nx σ' H'
theorem ps_cut {X : Cx} {st : Stmt} {t : TS} (h : PS X st t) : PS X st (tCut t) := by
  refine ⟨fun pins s σ H D I q => ?_⟩
  obtain ⟨J, q1, q2⟩ := q
  refine thn (h.run pins s σ H { D with nx := J } I q1) fun f s1 z => ?_
  cases f with
  | next =>
    obtain ⟨σ', H', I', q⟩ := z
    exact ⟨σ', H', I', q2 _ _ q⟩
  | ret v => exact z
  | brk => exact z
  | cont => exact z
/-- o.m(e, ..), what it lets out told at the slots -/
def tMethX (C : Addr) (m : Str) (sp : Sp) (E : St → XK) (ta : TE) (t : TA) : TE := fun σ H Q => ta σ H fun x H1 => ∃ a dx fs, x = .ref a ∧ H1 a = some (.ins C dx fs) ∧ fs.lookup m = none ∧
  t σ H1 fun vs H2 => sp (x :: vs) H2 Q (E σ)
theorem pe_methX {X : Cx} {CX : CXT} {k : Nat} {f C : Addr} {fd : FuncData} {ps : List Str} {sp : Sp} {E : St → XK} {m : Str} {pos apos : Pos} {e o : Expr} {es : List Expr} {ta : TE} {t : TA} {pl : Sem Bool} (he : PE X o ta) (c : Cls X.K C) (hm : Meth X.K C m f)
    (F : FnOk X.prog X.w X.K X.mg X.base CX k f fd ps sp) (hr : Room k X.A) (hb : Binds X.K fd ps []) (hx : ∀ σ, PassesAt CX X σ (E σ)) (ha : PA X (e :: es) t)
    (hst : starEach (e :: es) X.env = (false, eval e X.env) :: starEach es X.env := by rfl) (hpl : (backTo pos (starEach es X.env)).any (·.1) = false := by rfl)
    (ht : eval (.Call (.Attribute o m apos) (e :: es) [] pos) X.env = (do
      let ov ← eval o X.env
      standAt apos.atName
      let (f, first) ← holding [ov] (getMethod ov m pl)
      callWith pos f first (backTo pos (starEach (e :: es) X.env)) (backToKw pos (keywordEach [] X.env))) := by rfl) :
    PE X (.Call (.Attribute o m apos) (e :: es) [] pos) (tMethX C m sp E ta t) := by
  refine ⟨fun pins s σ H Q I h => ?_⟩
  refine PySem.W.methodCall_KW (pl := pl) (thn (he.run pins s σ H _ I h) fun u s1 ⟨x, H1, I1, rx, a, dx, fs, ex, ea, l, q⟩ => ?_) ht
  subst ex
  obtain rfl : u = Value.ref a := rx
  refine getmeth_ok I1 ea c hm l ?_
  refine PySem.W.callWith_K (first := [.ref a]) (h₀ := X.base) I.ok.mod.kin hm.kp (thn (ha.run pos pins s1 σ H1 _ I1 q) fun us s2 ⟨vs, H2, I2, r, q2⟩ => ⟨I2.kIn, ?_⟩) hst hpl
  exact run_fnS (us := .ref a :: us) (vs := .ref a :: vs) F hr hb (hx σ) I2 (.cons rfl r) q2
end L2
set_option Elab.async false
set_option linter.all false
set_option maxRecDepth 100000
namespace GQ
open PySem PySem.SeqAt
open AutoSeq1 (wpAny_loadPart')
open MeetsSeq MeetsSeq2 MeetsSeq3 SeqRoads2
section
variable {prog : Program} {w : World} {A : Around} {R : Result → Shared → Prop}
/-- the walk of != over two lists that are equal item by item -/
theorem ne_loopG (l b : Addr) (N : Nat) (I : Nat → Shared → Prop) (hl : ListI prog w A (fun e s' => R (.error e) s') l b N I)
    (fin : ∀ s, I N s → R (.ok (.ret (.bool false))) s) (k : Nat) :
    ∀ i : Nat, N - i = k → i ≤ N → ∀ s, I i s →
      wpAny (model prog w) A.in1 (Builtin.«list.__eq__.loop» ⟨[.ref l, .ref b, rawInt i, rawInt 3], []⟩) (FinOf prog w A R) (fun e s' => R (.error e) s') s := by
  induction k with
  | zero =>
    intro i hk hi s h
    obtain ⟨items, items2, n, n2, hl1, hb1, hs1, hs2, _⟩ := hl _ _ h
    have hi' : i = N := by omega
    have hR : R (.ok (.ret (.bool false))) s := fin s (hi' ▸ h)
    obtain ⟨hp, g, d, tk, os⟩ := s
    wp_walk using wpAny_loadPart' hl1, wpAny_loadPart' hb1
    have hi1 : items[((i : Nat) : Int).toNat]? = none := by simp; omega
    have hi2 : items2[((i : Nat) : Int).toNat]? = none := by simp; omega
    rw [hi1, hi2]
    wp_walk using wpAny_loadPart' hl1, wpAny_loadPart' hb1
    show R (.ok (.ret (.bool (items.size != items2.size)))) _
    rw [hs1, hs2]
    simpa using hR
  | succ k ih =>
    intro i hk hi s h
    obtain ⟨items, items2, n, n2, hl1, hb1, hs1, hs2, turn⟩ := hl _ _ h
    have hlt : i < items.size := by omega
    have hlt2 : i < items2.size := by omega
    have ht := turn hlt hlt2
    obtain ⟨hp, g, d, tk, os⟩ := s
    wp_walk using wpAny_loadPart' hl1, wpAny_loadPart' hb1
    have hi1 : items[((i : Nat) : Int).toNat]? = some items[i] := by simp [hlt]
    have hi2 : items2[((i : Nat) : Int).toNat]? = some items2[i] := by simp [hlt2]
    have hc : ((i : Int) + 1) = ((i + 1 : Nat) : Int) := by omega
    rw [hi1, hi2]
    refine wpAny_bind (wpAny_mono ht (fun r s2 h2 => ?_) fun _ _ x => x)
    obtain ⟨hr, h2⟩ := h2
    subst hr
    have hrec := ih (i + 1) (by omega) (by omega) s2 h2
    obtain ⟨hp2, g2, d2, tk2, os2⟩ := s2
    wp_walk
    rw [hc]
    exact ⟨plainId_quiet plain_eq_loop _, codeAny_builtin entry_eq_loop (by
      rw [Around.under_plainId plain_eq_loop _]
      exact hrec)⟩
theorem list_neG (l b : Addr) (N : Nat) (I : Nat → Shared → Prop) (hl : ListI prog w A (fun e s' => R (.error e) s') l b N I)
    (fin : ∀ s, I N s → R (.ok (.ret (.bool false))) s) {s : Shared} (h : I 0 s) :
    wpAny (model prog w) A.in1 (Builtin.«list.__ne__» ⟨[.ref l, .ref b], []⟩) (FinOf prog w A R) (fun e s' => R (.error e) s') s := by
  obtain ⟨items, items2, n, n2, hl1, hb1, hs1, hs2, _⟩ := hl _ _ h
  have hrec := ne_loopG (A := A) (R := R) l b N I hl fin _ 0 rfl (Nat.zero_le _) s h
  obtain ⟨hp, g, d, tk, os⟩ := s
  have f3 := AutoSeq1.sub_list_list
  have hne : ¬ (items.size != items2.size) = true := by simp [hs1, hs2]
  wp_walk using wpAny_loadPart' hl1, wpAny_loadPart' hb1
  exact ⟨plainId_quiet plain_eq_loop _, codeAny_builtin entry_eq_loop (by
    rw [Around.under_plainId plain_eq_loop _]
    exact hrec)⟩
end
section
variable {prog : Program} {w : World} {A : Around} {E : Value → Shared → Prop} {s : Shared}
theorem rc_ne_listG {l b : Addr} {N : Nat} {Q : Value → Shared → Prop} (hu : A.units < cLine) (I : Nat → Shared → Prop) (hl : ListI prog w A E l b N I)
    (fin : ∀ s, I N s → Q (.bool false) s) (h : I 0 s) : wpAny (model prog w) A (richCompare .NotEq (.ref l) (.ref b)) Q E s := by
  obtain ⟨items, items2, n, n2, hl1, hb1, _, _, _⟩ := hl _ _ h
  refine wpAny_richCompare_same_room (op := .NotEq) ⟨_, hl1, rfl⟩ ⟨_, hb1, rfl⟩ F.slot_list_ne (call_here F.slot_list_ne ⟨_, hl1, rfl⟩ F.entry_list_ne (F.args_list_ne_2 _ _) ?_) hu
  exact list_neG (R := wants (fun v s' => v ≠ .notImplemented ∧ Q v s') E) l b N I hl (fun s' q => ⟨(fun x => nomatch x), fin s' q⟩) h
end
end GQ
namespace L2
open PySem PySem.Spec PyProof.Rows
/-- two dicts with the same keys and flat values alike -/
def DDict : Eqv := fun x y H => ∃ (a b : Addr) (ks ls : List (Key × V)), x = .ref a ∧ y = .ref b ∧ H a = some (.dK ks) ∧ H b = some (.dK ls) ∧ ks.length = ls.length ∧ ∀ p ∈ ks, valV ls p.1 = some p.2 ∧ flatB p.2 = true
theorem mon_dict : Mon DDict := fun x y H H' e ⟨a, b, ks, ls, ex, ey, ha, hb, hl, hp⟩ => ⟨a, b, ks, ls, ex, ey, e _ _ ha, e _ _ hb, hl, hp⟩
theorem rcG_dict {X : Cx} : RcG X 0 DDict := by
  intro A pins s σ H x y u v sb I rx ry d
  obtain ⟨a, b, ks, ls, rfl, rfl, ea, eb, hlen, hp⟩ := d
  obtain rfl : u = Value.ref a := rx
  obtain rfl : v = Value.ref b := ry
  obtain ⟨_, ya, va, ra, da⟩ := (show ObjOk X.prog X.w H s.heap a (.dK ks) from I.hok a _ ea)
  obtain ⟨_, yb, vb, rb, db⟩ := (show ObjOk X.prog X.w H s.heap b (.dK ls) from I.hok b _ eb)
  have hl : va.length = vb.length := by rw [← ra.length, ← rb.length]; exact hlen
  have hu : A.units < cLine := by have := sb.room.un; omega
  exact PySem.W.keq_eq (knd := mixKind X.prog X.w) (r := true) ya yb da db hu (fun _ => hits_all rb ra hp) ⟨by simp [hl], H, I, Ext.rfl'⟩
/-- two lists of such dicts -/
theorem rcG_dicts {X : Cx} : RcG X 1 (DList DDict) := rcG_list mon_dict (rcG_dict.eqG fun _ _ _ d => let ⟨a, b, _, _, hx, hy, _⟩ := d; ⟨a, b, hx, hy⟩)
/-- x != y of two lists that are equal item by item -/
def rNeG (D : Eqv) : R2 := fun x y H Q => D x y H ∧ ∀ H', Ext H H' → Q (.bl false) H'
theorem op_neLG {X : Cx} {n : Nat} {D : Eqv} (hD : Mon D) (h : EqG X n D) (hr : Room (n + 1) X.A) : OpR X (compareOp .NotEq) (rNeG (DList D)) := by
  intro pins s σ H x y v u Q I rx ry hq
  obtain ⟨⟨a, b, xs, ys, rfl, rfl, ha, hb, p⟩, q⟩ := hq
  cases rx
  cases ry
  show wpAny (model X.prog X.w) X.A (richCompare .NotEq (.ref a) (.ref b)) (EP X pins σ Q) X.xe s
  refine GQ.rc_ne_listG (N := xs.length) hr.units0 (fun _ s' => LoopI X pins σ H s') (fun i s' q => ?_) (fun s' l => ?_) ⟨H, I, Ext.rfl'⟩
  · obtain ⟨H1, I1, e1⟩ := id q
    obtain ⟨z, its, k, r, e⟩ := I1.hok a _ (e1 _ _ ha)
    obtain ⟨z2, its2, k2, r2, e2⟩ := I1.hok b _ (e1 _ _ hb)
    refine ⟨its.toArray, its2.toArray, k, k2, e, e2, by rw [List.size_toArray, ← r.length], by rw [List.size_toArray, ← r2.length, ← p.1], fun h1 h2 => ?_⟩
    exact turnG hD h (⟨hr, rfl⟩ : Sub X (n + 1) X.A) p r r2 i h1 h2 s' q
  · obtain ⟨H1, I1, e1⟩ := l
    exact ⟨.bl false, H1, I1, rfl, q H1 e1⟩
theorem eqG_dict {X : Cx} : EqG X 0 DDict := rcG_dict.eqG fun _ _ _ d => let ⟨a, b, _, _, hx, hy, _⟩ := d; ⟨a, b, hx, hy⟩
end L2
set_option Elab.async false
set_option linter.all false
set_option maxRecDepth 100000
namespace TW
open PySem PySem.Spec PyProof.Rows L2 TL
theorem mem_meet {ord : List Nat} {v : Option Nat} {k : Nat} : k ∈ meet ord v ↔ k ∈ ord ∨ v = some k := by
  cases v with
  | none => exact ⟨.inl, fun h => h.elim id fun e => nomatch e⟩
  | some i =>
    unfold meet
    by_cases hi : i ∈ ord
    · simp only [hi, if_true]
      exact ⟨.inl, fun h => h.elim id fun e => by injection e with e; exact e ▸ hi⟩
    · simp only [hi, if_false, List.mem_append, List.mem_singleton]
      exact ⟨fun h => h.elim .inl fun e => .inr (by rw [e]), fun h => h.elim .inl fun e => .inr (by injection e with e; exact e.symm)⟩
theorem mem_meets {k : Nat} : ∀ (vs : List (Option Nat)) (ord : List Nat), k ∈ vs.foldl meet ord ↔ k ∈ ord ∨ some k ∈ vs
  | [], ord => by simp
  | v :: vs, ord => by
    rw [List.foldl_cons, mem_meets vs, mem_meet]
    simp only [List.mem_cons]
    exact ⟨fun h => h.elim (fun h => h.elim .inl fun e => .inr (.inl e.symm)) fun h => .inr (.inr h), fun h => h.elim (fun h => .inl (.inl h)) fun h => h.elim (fun e => .inl (.inr e.symm)) .inr⟩
/-- the order of a queue, behind i of its members -/
def qst (os : List Ob) (fs : List Str) (e : List (Option Nat)) : Nat → List Nat
  | 0 => e.foldl meet []
  | i + 1 => match (qst os fs e i)[i]? with
    | some k => (kids os fs k).foldl meet (qst os fs e i)
    | none => qst os fs e i
section
variable {os : List Ob} {fs : List Str} {e : List (Option Nat)}
theorem qst_some {i k : Nat} (h : (qst os fs e i)[i]? = some k) : qst os fs e (i + 1) = (kids os fs k).foldl meet (qst os fs e i) := by
  show (match (qst os fs e i)[i]? with | some k => (kids os fs k).foldl meet (qst os fs e i) | none => qst os fs e i) = _
  rw [h]
theorem qst_none {i : Nat} (h : (qst os fs e i)[i]? = none) : qst os fs e (i + 1) = qst os fs e i := by
  show (match (qst os fs e i)[i]? with | some k => (kids os fs k).foldl meet (qst os fs e i) | none => qst os fs e i) = _
  rw [h]
theorem qst_step (i : Nat) : ∃ t, qst os fs e (i + 1) = qst os fs e i ++ t := by
  cases h : (qst os fs e i)[i]? with
  | none => exact ⟨[], by rw [qst_none h, List.append_nil]⟩
  | some k => rw [qst_some h]; exact meets_pre _ _
theorem qst_pre {i m : Nat} (h : i ≤ m) : ∃ t, qst os fs e m = qst os fs e i ++ t := by
  induction h with
  | refl => exact ⟨[], (List.append_nil _).symm⟩
  | step _ ih =>
    obtain ⟨t, ht⟩ := ih
    obtain ⟨u, hu⟩ := qst_step (os := os) (fs := fs) (e := e) (by assumption)
    exact ⟨t ++ u, by rw [hu, ht, List.append_assoc]⟩
theorem qst_fix {i m : Nat} (h : (qst os fs e i).length ≤ i) (hm : i ≤ m) : qst os fs e m = qst os fs e i := by
  induction hm with
  | refl => rfl
  | step q ih =>
    rw [qst_none, ih]
    rw [ih]
    exact List.getElem?_eq_none (Nat.le_trans h q)
/-- the order of the objects -/
def IsOrd (os : List Ob) (fs : List Str) (e : List (Option Nat)) (ord : List Nat) : Prop := ∃ a, ord = qst os fs e a ∧ ord.length ≤ a
theorem IsOrd.uniq {o1 o2 : List Nat} (h1 : IsOrd os fs e o1) (h2 : IsOrd os fs e o2) : o1 = o2 := by
  obtain ⟨a, rfl, ha⟩ := h1
  obtain ⟨b, rfl, hb⟩ := h2
  rw [← qst_fix ha (Nat.le_max_left a b), qst_fix hb (Nat.le_max_right a b)]
theorem IsOrd.pre {ord : List Nat} (h : IsOrd os fs e ord) (i : Nat) : ∀ k ∈ qst os fs e i, k ∈ ord := fun k hk => by
  obtain ⟨a, rfl, ha⟩ := h
  rcases Nat.le_total i a with h | h
  · obtain ⟨t, ht⟩ := qst_pre (os := os) (fs := fs) (e := e) h
    rw [ht]
    exact List.mem_append_left _ hk
  · rw [qst_fix ha h] at hk
    exact hk
theorem qst_round {a : Nat} (i : Nat) (h1 : a ≤ i) (h2 : i ≤ (qst os fs e a).length) : qst os fs e i = ((((qst os fs e a).take i).drop a).flatMap (kids os fs)).foldl meet (qst os fs e a) := by
  induction h1 with
  | refl => rw [List.drop_eq_nil_of_le (by rw [List.length_take]; omega)]; rfl
  | step q ih =>
    rename_i m
    have hm : m < (qst os fs e a).length := h2
    have ih := ih (Nat.le_of_lt hm)
    obtain ⟨t, ht⟩ := qst_pre (os := os) (fs := fs) (e := e) q
    have hk : (qst os fs e m)[m]? = some (qst os fs e a)[m] := by rw [ht, List.getElem?_append_left hm, List.getElem?_eq_getElem hm]
    rw [qst_some hk]
    have e2 : (qst os fs e a).take (m + 1) = (qst os fs e a).take m ++ [(qst os fs e a)[m]] := take_next' (List.getElem?_eq_getElem hm)
    have ma : a ≤ m := q
    rw [e2, List.drop_append_of_le_length (by rw [List.length_take]; omega), List.flatMap_append, List.foldl_append, ← ih]
    rw [List.flatMap_cons, List.flatMap_nil, List.append_nil]
theorem lvs_qst (j : Nat) : ∃ a, a ≤ (qst os fs e a).length ∧ lvs os fs e (j + 1) = (qst os fs e a, ((qst os fs e a).drop a).flatMap (kids os fs)) := by
  induction j with
  | zero => exact ⟨0, Nat.zero_le _, rfl⟩
  | succ j ih =>
    obtain ⟨a, ha, h⟩ := ih
    have r := qst_round (os := os) (fs := fs) (e := e) (a := a) (qst os fs e a).length ha (Nat.le_refl _)
    rw [List.take_length] at r
    refine ⟨(qst os fs e a).length, ?_, ?_⟩
    · obtain ⟨t, ht⟩ := qst_pre (os := os) (fs := fs) (e := e) ha
      rw [ht, List.length_append]
      omega
    · show lvl os fs (lvs os fs e (j + 1)) = _
      rw [h, r]
      rfl
theorem kids_ne {k : Nat} (h : 1 ≤ fs.length) : kids os fs k ≠ [] := fun z => by
  have := congrArg List.length z
  unfold kids at this
  rw [List.length_map] at this
  simp at this
  rw [this] at h
  simp at h
theorem isOrd_lvs {ord : List Nat} {j : Nat} (hf : 1 ≤ fs.length) (h : lvs os fs e j = (ord, [])) : IsOrd os fs e ord := by
  cases j with
  | zero =>
    have h1 : ([], e) = (ord, ([] : List (Option Nat))) := h
    injection h1 with h1 h2
    subst h1
    subst h2
    exact ⟨0, rfl, Nat.le_refl _⟩
  | succ j =>
    obtain ⟨a, ha, h'⟩ := lvs_qst (os := os) (fs := fs) (e := e) j
    rw [h'] at h
    injection h with h1 h2
    subst h1
    refine ⟨a, rfl, ?_⟩
    cases hd : (qst os fs e a).drop a with
    | nil =>
      have := congrArg List.length hd
      rw [List.length_drop] at this
      simp at this
      omega
    | cons k r =>
      rw [hd, List.flatMap_cons] at h2
      exact absurd (List.append_eq_nil_iff.mp h2).1 (kids_ne hf)
end
/-! ### sorted words -/
theorem srt_le : ∀ (p : Str) (l : List Str), risingS p l = true → (p :: l).Pairwise (fun a b => a.cps.toList ≤ b.cps.toList)
  | p, [], _ => List.pairwise_singleton _ _
  | p, x :: r, h => by
    have h' : (!ltCps x.cps.toList p.cps.toList && risingS x r) = true := h
    obtain ⟨h1, h2⟩ := Bool.and_eq_true_iff.mp h'
    have ih := srt_le x r h2
    have px : p.cps.toList ≤ x.cps.toList := by
      rw [ltCps_eq] at h1
      exact List.not_lt.mp (by simpa using h1)
    refine List.pairwise_cons.mpr ⟨fun y hy => ?_, ih⟩
    rcases List.mem_cons.mp hy with rfl | hy
    · exact px
    · exact List.le_trans px (List.rel_of_pairwise_cons ih hy)
theorem srt_uniq {a b : List Str} (ha : sortedS a = true) (hb : sortedS b = true) (p : a.Perm b) : a = b := by
  have pw : ∀ {l : List Str}, sortedS l = true → l.Pairwise (fun a b => a.cps.toList ≤ b.cps.toList) := fun {l} h => by
    cases l with
    | nil => exact .nil
    | cons x r => exact srt_le x r h
  refine List.Perm.eq_of_pairwise (le := fun a b : Str => a.cps.toList ≤ b.cps.toList) (fun x y _ _ h1 h2 => ?_) (pw ha) (pw hb) p
  have e := List.le_antisymm h1 h2
  cases x
  cases y
  exact congrArg Str.mk (Array.toList_inj.mp e)
end TW
set_option Elab.async false
set_option linter.all false
set_option maxRecDepth 100000
namespace TW
open PySem PySem.Spec PyProof.Rows L2 TL
/-! ### the normal form of the normal form -/
theorem idx_inj {ord : List Nat} {k m : Nat} (hk : k ∈ ord) (hm : m ∈ ord) (e : ord.idxOf k = ord.idxOf m) : k = m := by
  have h1 := List.idxOf_lt_length_of_mem hk
  have h2 := List.idxOf_lt_length_of_mem hm
  have e1 : ord[ord.idxOf k] = k := List.getElem_idxOf h1
  have e2 : ord[ord.idxOf m] = m := List.getElem_idxOf h2
  rw [← e1, ← e2]
  simp only [e]
theorem ren_in {ord : List Nat} {k : Nat} (h : k ∈ ord) : ren ord (some k) = some (ord.idxOf k) := if_pos h
theorem meet_map {ord m : List Nat} {v : Option Nat} (hm : ∀ k ∈ m, k ∈ ord) (hv : ∀ k, v = some k → k ∈ ord) : meet (m.map ord.idxOf) (ren ord v) = (meet m v).map ord.idxOf := by
  cases v with
  | none => rfl
  | some k =>
    have hk := hv k rfl
    rw [ren_in hk]
    unfold meet
    by_cases h : k ∈ m
    · have h' : ord.idxOf k ∈ m.map ord.idxOf := List.mem_map_of_mem h
      simp only [h, h', if_true]
    · have h' : ord.idxOf k ∉ m.map ord.idxOf := fun z => by
        obtain ⟨k2, h2, e⟩ := List.mem_map.mp z
        exact h ((idx_inj (hm _ h2) hk e) ▸ h2)
      simp only [h, h', if_false, List.map_append, List.map_cons, List.map_nil]
theorem meets_map {ord : List Nat} : ∀ (vs : List (Option Nat)) (m : List Nat), (∀ k ∈ m, k ∈ ord) → (∀ k, some k ∈ vs → k ∈ ord) → (vs.map (ren ord)).foldl meet (m.map ord.idxOf) = (vs.foldl meet m).map ord.idxOf
  | [], _, _, _ => rfl
  | v :: vs, m, hm, hv => by
    rw [List.map_cons, List.foldl_cons, List.foldl_cons, meet_map hm fun k e => hv k (by rw [← e]; exact List.mem_cons_self ..)]
    refine meets_map vs _ (fun k hk => ?_) fun k hk => hv k (List.mem_cons_of_mem _ hk)
    rcases mem_meet.mp hk with h | h
    · exact hm k h
    · exact hv k (by rw [← h]; exact List.mem_cons_self ..)
section
variable {os : List Ob} {fs : List Str} {e : List (Option Nat)} {ord : List Nat}
theorem row_lookup (k : Nat) : ∀ {fs : List Str} {f : Str}, f ∈ fs → (row os fs ord k).lookup f = some (ren ord (fld os k f))
  | g :: fs, f, h => by
    show List.lookup f ((g, ren ord (fld os k g)) :: row os fs ord k) = _
    rw [List.lookup_cons]
    cases e : f == g with
    | true =>
      have : f = g := eq_of_beq e
      rw [this]
    | false =>
      rcases List.mem_cons.mp h with h | h
      · subst h; simp at e
      · exact row_lookup k h
theorem fld_row {k : Nat} {f : Str} (hk : k ∈ ord) (hf : f ∈ fs) : fld (ord.map (row os fs ord)) (ord.idxOf k) f = ren ord (fld os k f) := by
  have h1 := List.idxOf_lt_length_of_mem hk
  unfold fld
  rw [List.getElem?_map, List.getElem?_eq_getElem h1]
  have e1 : ord[ord.idxOf k] = k := List.getElem_idxOf h1
  rw [e1]
  show ((row os fs ord k).lookup f).join = _
  rw [row_lookup k hf]
  rfl
theorem kids_row {k : Nat} (hk : k ∈ ord) : kids (ord.map (row os fs ord)) fs (ord.idxOf k) = (kids os fs k).map (ren ord) := by
  unfold kids
  rw [List.map_map]
  exact List.map_congr_left fun f hf => fld_row hk hf
theorem qst_map (h : IsOrd os fs e ord) : ∀ i, qst (ord.map (row os fs ord)) fs (e.map (ren ord)) i = (qst os fs e i).map ord.idxOf
  | 0 => meets_map e [] (fun k hk => nomatch hk) fun k hk => h.pre 0 k ((mem_meets e []).mpr (.inr hk))
  | i + 1 => by
    have ih := qst_map h i
    cases hi : (qst os fs e i)[i]? with
    | none =>
      rw [qst_none hi, qst_none, ih]
      rw [ih, List.getElem?_map, hi]
      rfl
    | some k =>
      have hk : k ∈ ord := h.pre i k (List.mem_of_getElem? hi)
      have hi' : (qst (ord.map (row os fs ord)) fs (e.map (ren ord)) i)[i]? = some (ord.idxOf k) := by
        rw [ih, List.getElem?_map, hi]
        rfl
      rw [qst_some hi, qst_some hi', kids_row hk, ih]
      exact meets_map _ _ (h.pre i) fun w hw => h.pre (i + 1) w (by rw [qst_some hi]; exact (mem_meets _ _).mpr (.inr hw))
theorem map_idx (nd : ord.Nodup) : ord.map ord.idxOf = List.range ord.length := by
  refine List.ext_getElem (by rw [List.length_map, List.length_range]) fun i h1 h2 => ?_
  rw [List.getElem_map, List.getElem_range]
  exact nd.idxOf_getElem i (by simpa using h1)
theorem isOrd_norm (h : IsOrd os fs e ord) (nd : ord.Nodup) : IsOrd (ord.map (row os fs ord)) fs (e.map (ren ord)) (List.range ord.length) := by
  have q := qst_map h
  obtain ⟨a, e1, h2⟩ := h
  refine ⟨a, ?_, by rw [List.length_range]; exact h2⟩
  rw [q, ← e1, map_idx nd]
theorem ren_range {n : Nat} {v : Option Nat} (h : okv n v) : ren (List.range n) v = v := by
  cases v with
  | none => rfl
  | some k =>
    have hk : k < n := h
    rw [ren_in (List.mem_range.mpr hk)]
    have h1 : k < (List.range n).length := by rw [List.length_range]; exact hk
    have e1 : (List.range n)[k] = k := List.getElem_range h1
    have := List.nodup_range (n := n) |>.idxOf_getElem k h1
    rw [e1] at this
    rw [this]
theorem row_range {n k : Nat} (hk : k ∈ ord) (fnd : True) : row (ord.map (row os fs ord)) fs (List.range ord.length) (ord.idxOf k) = row os fs ord k := by
  unfold row
  refine List.map_congr_left fun f hf => ?_
  have e1 : fld (ord.map (fun k => fs.map fun f => (f, ren ord (fld os k f)))) (ord.idxOf k) f = ren ord (fld os k f) := fld_row (os := os) (fs := fs) hk hf
  rw [e1, ren_range (ren_ok ord _)]
theorem rows_range (nd : ord.Nodup) : (List.range ord.length).map (row (ord.map (row os fs ord)) fs (List.range ord.length)) = ord.map (row os fs ord) := by
  refine List.ext_getElem (by rw [List.length_map, List.length_map, List.length_range]) fun i h1 h2 => ?_
  rw [List.getElem_map, List.getElem_map, List.getElem_range]
  have hi : i < ord.length := by simpa using h2
  have e1 := nd.idxOf_getElem i hi
  have := row_range (os := os) (fs := fs) (n := 0) (k := ord[i]) (List.getElem_mem hi) trivial
  rwa [e1] at this
theorem renL_range (l : Ob) : renL (List.range ord.length) (renL ord l) = renL ord l := by
  unfold renL
  rw [List.map_map]
  refine List.map_congr_left fun p _ => ?_
  show (p.1, ren (List.range ord.length) (ren ord p.2)) = _
  rw [ren_range (ren_ok ord _)]
theorem nmv_renL {z : Str} : ∀ {l : Ob}, nmv (renL ord l) z = ren ord (nmv l z)
  | [] => rfl
  | (f, v) :: l => by
    have ih := nmv_renL (z := z) (l := l)
    unfold nmv at ih ⊢
    show (List.lookup z ((f, ren ord v) :: renL ord l)).join = ren ord (List.lookup z ((f, v) :: l)).join
    rw [List.lookup_cons, List.lookup_cons]
    cases z == f with
    | true => rfl
    | false => exact ih
end
end TW
set_option Elab.async false
set_option linter.all false
set_option maxRecDepth 100000
namespace L2
open PySem PySem.Spec PyProof.Rows
/-- x == y answers b, at most n deep; no heap is changed -/
inductive QT (K : PySem.W.Frag) (H : Hp) : Nat → V → V → Bool → Prop
  | flat {n : Nat} {x y : V} : flatV x = true → flatV y = true → QT K H n x y (eqV x y)
  | same {n : Nat} {a : Addr} : QT K H n (.ref a) (.ref a) true
  | lists {n : Nat} {a b : Addr} {xs ys : List V} {e : Nat → Bool} : a ≠ b → H a = some (.lst xs) → H b = some (.lst ys) → xs.length = ys.length → (∀ j x y, xs[j]? = some x → ys[j]? = some y → QT K H n x y (e j)) → QT K H (n + 1) (.ref a) (.ref b) ((List.range xs.length).all e)
  | listsLen {n : Nat} {a b : Addr} {xs ys : List V} : a ≠ b → H a = some (.lst xs) → H b = some (.lst ys) → xs.length ≠ ys.length → QT K H (n + 1) (.ref a) (.ref b) false
  | tuples {n : Nat} {a b : Addr} {xs ys : List V} {e : Nat → Bool} : a ≠ b → H a = some (.tup xs) → H b = some (.tup ys) → (∀ j x y, xs[j]? = some x → ys[j]? = some y → QT K H n x y (e j)) → QT K H (n + 1) (.ref a) (.ref b) ((List.range (min xs.length ys.length)).all e && xs.length == ys.length)
  | dicts {n : Nat} {a b : Addr} {ks ls : List (Key × V)} : a ≠ b → H a = some (.dK ks) → H b = some (.dK ls) → (ks.map (·.1)).Nodup → (∀ p ∈ ks, flatV p.2 = true) → (∀ p ∈ ls, flatV p.2 = true) →
      QT K H (n + 1) (.ref a) (.ref b) (ks.length == ls.length && ks.all fun p => (valV ls p.1).any fun y => eqV p.2 y)
theorem valV_mem_nodup : ∀ {ks : List (Key × V)} {k : Key} {x : V}, (ks.map (·.1)).Nodup → (k, x) ∈ ks → valV ks k = some x
  | (k', x') :: r, k, x, nd, h => by
    obtain ⟨n1, n2⟩ := List.nodup_cons.mp nd
    rcases List.mem_cons.mp h with e | h
    · cases e
      exact valV_pos rfl
    · rw [valV_neg fun e => n1 (by rw [show k' = k from e]; exact List.mem_map_of_mem (f := (·.1)) h)]
      exact valV_mem_nodup n2 h
theorem valV_mem {ks : List (Key × V)} {k : Key} {x : V} (h : valV ks k = some x) : (k, x) ∈ ks := by
  unfold valV at h
  cases e : ks.find? (fun kv => decide (kv.1 = k)) with
  | none => rw [e] at h; cases h
  | some p =>
    rw [e] at h
    have h1 := List.mem_of_find?_eq_some e
    have h2 := List.find?_some e
    have h3 : p.2 = x := Option.some.inj h
    have h4 : p.1 = k := of_decide_eq_true h2
    rw [← h3, ← h4]
    exact h1
theorem kv_mem {ks : List (Key × V)} {va : List (Key × Value)} (ra : KV ks va) {k : Key} {v : Value} (h : (k, v) ∈ va) : ∃ x, (k, x) ∈ ks ∧ RelV x v := by
  unfold KV at ra
  induction ra with
  | nil => cases h
  | @cons p q ps qs h1 t ih =>
    rcases List.mem_cons.mp h with e | h
    · subst e
      obtain ⟨e1, e2⟩ := h1
      have e1' : p.1 = k := e1
      exact ⟨p.2, by rw [← e1']; exact List.mem_cons_self .., e2⟩
    · obtain ⟨x, hx, r⟩ := ih h
      exact ⟨x, List.mem_cons_of_mem _ hx, r⟩
section
variable {X : Cx} {pins : List (Addr × Obj)} {σ : St} {H : Hp} {s : Shared}
theorem QT.tree (I : Inv X pins σ H s) {n : Nat} {x y : V} {b : Bool} (t : QT X.K H n x y b) : ∀ {u v : Value}, RelV x u → RelV y v → PySem.W.EqTree X.prog X.w s n u v b := by
  induction t with
  | flat fx fy => exact fun rx ry => .leaf fun A _ => eqAt_V rx ry fx fy
  | same => exact fun rx ry => by cases rx; cases ry; exact .same
  | @lists n a b xs ys e hne ha hb hl _ ih =>
    intro u v rx ry
    cases rx
    cases ry
    obtain ⟨z, its, k, r, e1⟩ := I.hok a _ ha
    obtain ⟨z2, its2, k2, r2, e2⟩ := I.hok b _ hb
    have hs1 : its.toArray.size = xs.length := by rw [List.size_toArray, r.length]
    have q := PySem.W.EqTree.lists (prog := X.prog) (w := X.w) (s := s) (n := n) (e := e) hne (⟨_, e1, rfl, _, rfl⟩ : s.heap.IsList a its.toArray) (⟨_, e2, rfl, _, rfl⟩ : s.heap.IsList b its2.toArray) (by rw [hs1, List.size_toArray, ← r2.length, hl]) (fun j h1 h2 => ?_)
    · rw [hs1] at q
      exact q
    · have g1 : its[j]? = some its.toArray[j] := by
        have h1' : j < its.length := by simpa using h1
        rw [List.getElem?_eq_getElem h1'] <;> simp
      have g2 : its2[j]? = some its2.toArray[j] := by
        have h2' : j < its2.length := by simpa using h2
        rw [List.getElem?_eq_getElem h2'] <;> simp
      have k1 : j < xs.length := by rw [r.length]; simpa using h1
      have k2 : j < ys.length := by rw [r2.length]; simpa using h2
      obtain ⟨u, hu, ru⟩ := r.get (List.getElem?_eq_getElem k1)
      obtain ⟨v, hv, rv⟩ := r2.get (List.getElem?_eq_getElem k2)
      rw [g1] at hu
      rw [g2] at hv
      rw [Option.some.inj hu, Option.some.inj hv]
      exact ih j _ _ (List.getElem?_eq_getElem k1) (List.getElem?_eq_getElem k2) ru rv
  | @listsLen n a b xs ys hne ha hb hl =>
    intro u v rx ry
    cases rx
    cases ry
    obtain ⟨z, its, k, r, e1⟩ := I.hok a _ ha
    obtain ⟨z2, its2, k2, r2, e2⟩ := I.hok b _ hb
    exact .listsLen hne (⟨_, e1, rfl, _, rfl⟩ : s.heap.IsList a its.toArray) (⟨_, e2, rfl, _, rfl⟩ : s.heap.IsList b its2.toArray) (by rw [List.size_toArray, List.size_toArray, ← r.length, ← r2.length]; simpa using hl)
  | @tuples n a b xs ys e hne ha hb _ ih =>
    intro u v rx ry
    cases rx
    cases ry
    obtain ⟨its, r, e1, z1⟩ := I.tuple (SqT.of (K := X.K) ha)
    obtain ⟨its2, r2, e2, z2⟩ := I.tuple (SqT.of (K := X.K) hb)
    have hs1 : its.toArray.size = xs.length := by rw [List.size_toArray, r.length]
    have hs2 : its2.toArray.size = ys.length := by rw [List.size_toArray, r2.length]
    have q := PySem.W.EqTree.tuples (prog := X.prog) (w := X.w) (s := s) (n := n) (e := e) hne e1 e2 (fun j h1 h2 => ?_)
    · rw [hs1, hs2] at q
      exact q
    · have g1 : its[j]? = some its.toArray[j] := by
        have h1' : j < its.length := by simpa using h1
        rw [List.getElem?_eq_getElem h1'] <;> simp
      have g2 : its2[j]? = some its2.toArray[j] := by
        have h2' : j < its2.length := by simpa using h2
        rw [List.getElem?_eq_getElem h2'] <;> simp
      have k1 : j < xs.length := by rw [r.length]; simpa using h1
      have k2 : j < ys.length := by rw [r2.length]; simpa using h2
      obtain ⟨u, hu, ru⟩ := r.get (List.getElem?_eq_getElem k1)
      obtain ⟨v, hv, rv⟩ := r2.get (List.getElem?_eq_getElem k2)
      rw [g1] at hu
      rw [g2] at hv
      rw [Option.some.inj hu, Option.some.inj hv]
      exact ih j _ _ (List.getElem?_eq_getElem k1) (List.getElem?_eq_getElem k2) ru rv
  | @dicts n a b ks ls hne ha hb nd fk fl =>
    intro u v rx ry
    cases rx
    cases ry
    obtain ⟨_, ya, va, ra, da⟩ := (show ObjOk X.prog X.w H s.heap a (.dK ks) from I.hok a _ ha)
    obtain ⟨_, yb, vb, rb, db⟩ := (show ObjOk X.prog X.w H s.heap b (.dK ls) from I.hok b _ hb)
    have q := PySem.W.EqTree.dicts (prog := X.prog) (w := X.w) (s := s) (knd := mixKind X.prog X.w) (n := n) (e := fun k => match valV ks k, valV ls k with | some x, some y => eqV x y | _, _ => false) hne ya yb da db (fun k v y hm hv => ?_)
    · have e1 : (va.length == vb.length && va.all fun p => (valueAt vb p.1).isSome && (match valV ks p.1, valV ls p.1 with | some x, some y => eqV x y | _, _ => false)) = (ks.length == ls.length && ks.all fun p => (valV ls p.1).any fun y => eqV p.2 y) := by
        rw [ra.length, rb.length]
        congr 1
        have hk : va.map (·.1) = ks.map (·.1) := ra.keys.symm
        have s1 : (va.all fun p => (valueAt vb p.1).isSome && (match valV ks p.1, valV ls p.1 with | some x, some y => eqV x y | _, _ => false)) = ((va.map (·.1)).all fun k => (valueAt vb k).isSome && (match valV ks k, valV ls k with | some x, some y => eqV x y | _, _ => false)) := by rw [List.all_map]; rfl
        rw [s1, hk, List.all_map]
        rw [Bool.eq_iff_iff, List.all_eq_true, List.all_eq_true]
        refine forall_congr' fun p => forall_congr' fun hp => ?_
        have hx : valV ks p.1 = some p.2 := valV_mem_nodup nd hp
        have ro := rb.val p.1
        show ((valueAt vb p.1).isSome && (match valV ks p.1, valV ls p.1 with | some x, some y => eqV x y | _, _ => false)) = true ↔ _
        rw [hx]
        cases hy : valV ls p.1 with
        | none => simp
        | some y =>
          rw [hy] at ro
          obtain ⟨y', hy', _⟩ := ro.some_of
          rw [hy']
          simp
      rw [e1] at q
      exact q
    · obtain ⟨x, hx, rx⟩ := kv_mem ra hm
      have e1 : valV ks k = some x := valV_mem_nodup nd hx
      have ro := rb.val k
      rw [hv] at ro
      cases hz : valV ls k with
      | none => rw [hz] at ro; cases ro
      | some z =>
        rw [hz] at ro
        have rz : RelV z y := ro
        rw [e1]
        exact .leaf fun A _ => eqAt_V rx rz (fk _ hx) (fl _ (valV_mem hz))
end
section
variable {X : Cx}
/-- two tuples, item by item -/
def rEqQT (n : Nat) (K : PySem.W.Frag) : R2 := fun x y H Q => ∃ a b xs ys e, x = .ref a ∧ y = .ref b ∧ H a = some (.tup xs) ∧ H b = some (.tup ys) ∧ (∀ j x y, xs[j]? = some x → ys[j]? = some y → QT K H n x y (e j)) ∧
  Q (.bl ((List.range (min xs.length ys.length)).all e && xs.length == ys.length)) H
theorem op_eqQT {n : Nat} (hu : X.A.units + (n + 1) < cLine) : OpR X (compareOp .Eq) (rEqQT n X.K) := by
  intro pins s σ H x y v u Q I rx ry h
  obtain ⟨a, b, xs, ys, e, rfl, rfl, ha, hb, ht, q⟩ := h
  cases rx
  cases ry
  obtain ⟨its, r, e1, z1⟩ := I.tuple (SqT.of (K := X.K) ha)
  obtain ⟨its2, r2, e2, z2⟩ := I.tuple (SqT.of (K := X.K) hb)
  have hs1 : its.toArray.size = xs.length := by rw [List.size_toArray, r.length]
  have hs2 : its2.toArray.size = ys.length := by rw [List.size_toArray, r2.length]
  refine PySem.W.eq_tuplesT (n := n) (e := e) e1 e2 (fun j h1 h2 => ?_) hu ?_
  · have g1 : its[j]? = some its.toArray[j] := by
      have h1' : j < its.length := by simpa using h1
      rw [List.getElem?_eq_getElem h1'] <;> simp
    have g2 : its2[j]? = some its2.toArray[j] := by
      have h2' : j < its2.length := by simpa using h2
      rw [List.getElem?_eq_getElem h2'] <;> simp
    have k1 : j < xs.length := by rw [r.length]; simpa using h1
    have k2 : j < ys.length := by rw [r2.length]; simpa using h2
    obtain ⟨u, hu, ru⟩ := r.get (List.getElem?_eq_getElem k1)
    obtain ⟨v, hv, rv⟩ := r2.get (List.getElem?_eq_getElem k2)
    rw [g1] at hu
    rw [g2] at hv
    rw [Option.some.inj hu, Option.some.inj hv]
    exact (ht j _ _ (List.getElem?_eq_getElem k1) (List.getElem?_eq_getElem k2)).tree I ru rv
  · rw [hs1, hs2]
    exact ⟨.bl _, H, I, rfl, q⟩
/-- o == y by the own rule of o's class, with either answer -/
def rEqO (K : PySem.W.Frag) (C : Addr) (sp : Sp) (E : XK) : R2 := fun x y H Q => ∃ a dx fs t, x = .ref a ∧ H a = some (.ins C dx fs) ∧ TyX K H y t ∧ PySem.W.notFirst K C t = true ∧ sp [.ref a, y] H (fun v H' => ∃ b : Bool, v = .bl b ∧ Q (.bl b) H') E
theorem op_eqO {CX : CXT} {k : Nat} {C f : Addr} {fd : FuncData} {ps : List Str} {sp : Sp} {E : XK} (F : FnOk X.prog X.w X.K X.mg X.base CX k f fd ps sp) (hr : Room k X.A) (hu : X.A.units < cLine) (hs : PySem.W.findIn X.K (.ref C) "__eq__" = some (some (.ref f))) (hf : PySem.W.isFn X.K (.ref f) = true)
    (hb : Binds X.K fd ps []) (hx : Passes CX X E) : OpR X (compareOp .Eq) (rEqO X.K C sp E) := by
  intro pins s σ H x y v u Q I rx ry h
  obtain ⟨a, dx, fs, t, rfl, ea, ty, nf, h⟩ := h
  cases rx
  obtain ⟨mA, J, _⟩ := ins_get I.hok ea
  obtain ⟨od, J, _⟩ := J.look
  obtain ⟨m, hF⟩ := I.fr
  obtain ⟨P, Z, p, _⟩ := kit_of I ry ty
  show wpAny (model X.prog X.w) X.A (richCompare .Eq (.ref a) u) (EP X pins σ Q) X.xe s
  refine PySem.W.cmp_K (op := .Eq) (tb := t) hu hF I.ok.mod.kin J (Z.ty _ _ I.kIn p) nf hs hf ?_
  refine wpAny_mono (run_fn (us := [.ref a, u]) (vs := [.ref a, y]) (dvs := []) F hr hb .nil hx I (.cons rfl (.cons ry .nil)) h) (fun r s' z => ?_) fun _ _ e => e
  obtain ⟨z, H', I', rz, b, ez, q⟩ := z
  subst ez
  cases rz
  exact ⟨.bl b, H', I', rfl, q⟩
end
end L2
namespace TW
open PySem PySem.Spec PyProof.Rows L2 TL
theorem eqV_hv (a b : Option Nat) : eqV (hv a) (hv b) = decide (a = b) := by
  cases a with
  | none => cases b <;> rfl
  | some i => cases b with
    | none => rfl
    | some j =>
      show ((i : Int) == (j : Int)) = _
      by_cases h : i = j
      · subst h; simp
      · rw [decide_eq_false (fun e => h (Option.some.inj e))]
        exact beq_eq_false_iff_ne.mpr (by omega)
/-- the answer of == on two dicts of mine -/
def dkEq (o1 o2 : Ob) : Bool := (dk o1).length == (dk o2).length && (dk o1).all fun p => (valV (dk o2) p.1).any fun y => eqV p.2 y
def NamesEq (o1 o2 : Ob) : Prop := o1.length = o2.length ∧ ∀ p ∈ o1, o2.lookup p.1 = some p.2
theorem dkEq_iff (o1 o2 : Ob) : dkEq o1 o2 = true ↔ NamesEq o1 o2 := by
  unfold dkEq NamesEq
  rw [Bool.and_eq_true, beq_iff_eq, dk_len, dk_len, List.all_eq_true]
  refine and_congr_right fun _ => ⟨fun h p hp => ?_, fun h q hq => ?_⟩
  · have := h ((Sum.inr p.1 : Key), hv p.2) (List.mem_map.mpr ⟨p, hp, rfl⟩)
    dsimp only at this
    rw [dk_valV] at this
    cases e : o2.lookup p.1 with
    | none => rw [e] at this; simp at this
    | some v =>
      rw [e] at this
      have h2 : eqV (hv p.2) (hv v) = true := by simpa using this
      rw [eqV_hv] at h2
      rw [of_decide_eq_true h2]
  · obtain ⟨p, hp, rfl⟩ := List.mem_map.mp hq
    dsimp only
    rw [dk_valV, h p hp]
    show eqV (hv p.2) (hv p.2) = true
    rw [eqV_hv]
    exact decide_eq_true rfl
theorem namesEq_same : ∀ {o1 o2 : Ob}, o1.map (·.1) = o2.map (·.1) → (o1.map (·.1)).Nodup → (NamesEq o1 o2 ↔ o1 = o2)
  | o1, o2, hk, nd => by
    constructor
    · rintro ⟨hl, h⟩
      refine List.ext_getElem hl fun i h1 h2 => ?_
      have e1 : (o1[i]).1 = (o2[i]).1 := by
        have a1 : (o1.map (·.1))[i]? = some (o1[i]).1 := by rw [List.getElem?_map, List.getElem?_eq_getElem h1]; rfl
        have a2 : (o2.map (·.1))[i]? = some (o2[i]).1 := by rw [List.getElem?_map, List.getElem?_eq_getElem h2]; rfl
        rw [hk, a2] at a1
        exact (Option.some.inj a1).symm
      have e2 := h _ (List.getElem_mem h1)
      have nd2 : (o2.map (·.1)).Nodup := by rw [← hk]; exact nd
      have e3 : nmv o2 (o2[i]).1 = (o2[i]).2 := nmv_at nd2 (by rw [List.getElem?_eq_getElem h2])
      unfold nmv at e3
      rw [e1] at e2
      rw [e2] at e3
      exact Prod.ext e1 e3
    · rintro rfl
      refine ⟨rfl, fun p hp => ?_⟩
      obtain ⟨i, hi, rfl⟩ := List.getElem_of_mem hp
      have e3 : nmv o1 (o1[i]).1 = (o1[i]).2 := nmv_at nd (by rw [List.getElem?_eq_getElem hi])
      obtain ⟨v, hv'⟩ := lookup_some (List.mem_map_of_mem (f := (·.1)) hp)
      unfold nmv at e3
      rw [hv'] at e3 ⊢
      exact congrArg some e3
end TW
set_option Elab.async false
set_option linter.all false
set_option maxRecDepth 100000
namespace TW
open PySem PySem.Spec PyProof.Rows L2 TL
/-- one pairing of the walk through both heaps -/
def pr (q : List (Nat × Nat)) (a b : Option Nat) : Option (List (Nat × Nat)) := match a, b with
  | none, none => some q
  | some a, some b => if a ∈ q.map (·.1) then (if (a, b) ∈ q then some q else none) else if b ∈ q.map (·.2) then none else some (q ++ [(a, b)])
  | _, _ => none
/-- no number twice on either side -/
def Bij (q : List (Nat × Nat)) : Prop := (q.map (·.1)).Nodup ∧ (q.map (·.2)).Nodup
theorem pr_bij {q q' : List (Nat × Nat)} {a b : Option Nat} (h : pr q a b = some q') (hb : Bij q) : Bij q' := by
  unfold pr at h
  split at h
  · cases h; exact hb
  · rename_i a b
    split at h
    · split at h
      · cases h; exact hb
      · cases h
    · rename_i n1
      split at h
      · cases h
      · rename_i n2
        cases h
        refine ⟨?_, ?_⟩
        · rw [List.map_append]
          exact List.nodup_append.mpr ⟨hb.1, by simp, fun x hx y hy e => n1 ((show y = a by simpa using hy) ▸ e ▸ hx)⟩
        · rw [List.map_append]
          exact List.nodup_append.mpr ⟨hb.2, by simp, fun x hx y hy e => n2 ((show y = b by simpa using hy) ▸ e ▸ hx)⟩
  · cases h
theorem pr_pre {q q' : List (Nat × Nat)} {a b : Option Nat} (h : pr q a b = some q') : ∃ t, q' = q ++ t := by
  unfold pr at h
  split at h
  · cases h; exact ⟨[], (List.append_nil _).symm⟩
  · split at h
    · split at h
      · cases h; exact ⟨[], (List.append_nil _).symm⟩
      · cases h
    · split at h
      · cases h
      · cases h; exact ⟨_, rfl⟩
  · cases h
/-- what a pairing makes sure of -/
def Rel (q : List (Nat × Nat)) (a b : Option Nat) : Prop := match a, b with
  | none, none => True
  | some a, some b => (a, b) ∈ q
  | _, _ => False
theorem Rel.mono {q t : List (Nat × Nat)} {a b : Option Nat} (h : Rel q a b) : Rel (q ++ t) a b := by
  unfold Rel at h ⊢
  split at h
  · trivial
  · exact List.mem_append_left _ h
  · exact h.elim
theorem pr_rel {q q' : List (Nat × Nat)} {a b : Option Nat} (h : pr q a b = some q') : Rel q' a b := by
  unfold pr at h
  split at h
  · trivial
  · rename_i a b
    split at h
    · split at h
      · cases h; rename_i m; exact m
      · cases h
    · split at h
      · cases h
      · cases h
        exact List.mem_append_right _ (List.mem_singleton.mpr rfl)
  · cases h
theorem pr_in {q q' : List (Nat × Nat)} {a b : Option Nat} {S : Nat × Nat → Prop} (h : pr q a b = some q') (hq : ∀ p ∈ q, S p) (hs : ∀ x y, a = some x → b = some y → S (x, y)) : ∀ p ∈ q', S p := by
  unfold pr at h
  split at h
  · cases h; exact hq
  · rename_i a b
    split at h
    · split at h
      · cases h; exact hq
      · cases h
    · split at h
      · cases h
      · cases h
        intro p hp
        rcases List.mem_append.mp hp with hp | hp
        · exact hq p hp
        · rw [List.mem_singleton.mp hp]; exact hs a b rfl rfl
  · cases h
/-- a pairing that follows a map one to one does not fail -/
theorem pr_ok {q : List (Nat × Nat)} {a b : Option Nat} {S : Nat × Nat → Prop} (hf : ∀ x y y', S (x, y) → S (x, y') → y = y') (hi : ∀ x x' y, S (x, y) → S (x', y) → x = x') (hq : ∀ p ∈ q, S p) (h : (a = none ∧ b = none) ∨ ∃ x y, a = some x ∧ b = some y ∧ S (x, y)) :
    ∃ q', pr q a b = some q' := by
  rcases h with ⟨rfl, rfl⟩ | ⟨x, y, rfl, rfl, hs⟩
  · exact ⟨q, rfl⟩
  · unfold pr
    dsimp only
    split
    · rename_i m
      obtain ⟨⟨x', y'⟩, hp, e⟩ := List.mem_map.mp m
      have e : x' = x := e
      subst e
      have := hf _ _ _ (hq _ hp) hs
      subst this
      rw [if_pos hp]
      exact ⟨_, rfl⟩
    · rename_i n
      split
      · rename_i m
        obtain ⟨⟨x', y'⟩, hp, e⟩ := List.mem_map.mp m
        have e : y' = y := e
        subst e
        have := hi _ _ _ (hq _ hp) hs
        subst this
        exact absurd (List.mem_map_of_mem (f := (·.1)) hp) n
      · exact ⟨_, rfl⟩
theorem same_off {H0 H H' : Hp} {R : Addr} (s : Same H0 H) (h : H0 R = none) (o : ∀ b, b ≠ R → H' b = H b) : Same H0 H' := fun b u e => by rw [o b (ne_of_none e h)]; exact s _ _ e
/-- the words of a heap's names in their order -/
def Srt (l : Ob) (ys : List Str) : Prop := ys.Perm (l.map (·.1)) ∧ sortedS ys = true
theorem Srt.uniq {l l' : Ob} {a b : List Str} (ha : Srt l a) (hb : Srt l' b) (h : l.map (·.1) = l'.map (·.1)) : a = b := srt_uniq ha.2 hb.2 ((ha.1.trans (by rw [h])).trans hb.1.symm)
def OrdOf (os : List Ob) (fs : List Str) (l : Ob) (ord : List Nat) : Prop := ∃ ys, Srt l ys ∧ IsOrd os fs (ys.map (nmv l)) ord
theorem OrdOf.uniq {os : List Ob} {fs : List Str} {l : Ob} {o1 o2 : List Nat} (h1 : OrdOf os fs l o1) (h2 : OrdOf os fs l o2) : o1 = o2 := by
  obtain ⟨a, ha, i1⟩ := h1
  obtain ⟨b, hb, i2⟩ := h2
  have := ha.uniq hb rfl
  subst this
  exact i1.uniq i2
theorem HeapAt.ordOf {K : PySem.W.Frag} {C h : Addr} {H : Hp} {fs : List Str} {os : List Ob} {l : Ob} {p : HP} (A : HeapAt K C H h fs os l p) : OrdOf os fs l p.ord := by
  obtain ⟨ys, j, h1, h2, h3⟩ := A.lv
  exact ⟨ys, ⟨h1, h2⟩, isOrd_lvs A.g.f1 h3⟩
theorem OrdOf.name {os : List Ob} {fs : List Str} {l : Ob} {ord : List Nat} (h : OrdOf os fs l ord) {n : Str} {w : Nat} (hn : n ∈ l.map (·.1)) (e : nmv l n = some w) : w ∈ ord := by
  obtain ⟨ys, ⟨hp, _⟩, hi⟩ := h
  refine hi.pre 0 w ((mem_meets _ _).mpr (.inr ?_))
  exact List.mem_map.mpr ⟨n, hp.mem_iff.mpr hn, e⟩
theorem OrdOf.kid {os : List Ob} {fs : List Str} {l : Ob} {ord : List Nat} (h : OrdOf os fs l ord) {k w : Nat} (hk : k ∈ ord) (e : some w ∈ kids os fs k) : w ∈ ord := by
  obtain ⟨ys, _, hi⟩ := h
  obtain ⟨i, hil, rfl⟩ := List.getElem_of_mem hk
  have hi' := hi
  obtain ⟨a, ea, la⟩ := hi'
  have hlt : i < (qst os fs (ys.map (nmv l)) i).length := by
    rcases Nat.lt_or_ge i (qst os fs (ys.map (nmv l)) i).length with h | h
    · exact h
    · have := qst_fix h (show i ≤ a by omega)
      rw [← ea] at this
      rw [this] at hil
      omega
  obtain ⟨t, ht⟩ := qst_pre (os := os) (fs := fs) (e := ys.map (nmv l)) (show i ≤ a by omega)
  rw [← ea] at ht
  have hg : (qst os fs (ys.map (nmv l)) i)[i]? = some ord[i] := by
    have h0 : ord[i]? = some ord[i] := List.getElem?_eq_getElem hil
    have h1 : ord[i]? = (qst os fs (ys.map (nmv l)) i)[i]? := (congrArg (·[i]?) ht).trans (List.getElem?_append_left hlt)
    rw [← h1]
    exact h0
  exact hi.pre (i + 1) w (by rw [qst_some hg]; exact (mem_meets _ _).mpr (.inr e))
/-- pairing after pairing -/
def prsF : List (Option Nat × Option Nat) → List (Nat × Nat) → Option (List (Nat × Nat))
  | [], q => some q
  | (a, b) :: r, q => (pr q a b).bind (prsF r)
theorem prsF_bij : ∀ {ps : List (Option Nat × Option Nat)} {q q' : List (Nat × Nat)}, prsF ps q = some q' → Bij q → Bij q'
  | [], q, q', h, hb => by cases h; exact hb
  | (a, b) :: r, q, q', h, hb => by
    obtain ⟨q1, h1, h2⟩ := Option.bind_eq_some_iff.mp h
    exact prsF_bij h2 (pr_bij h1 hb)
theorem prsF_pre : ∀ {ps : List (Option Nat × Option Nat)} {q q' : List (Nat × Nat)}, prsF ps q = some q' → ∃ t, q' = q ++ t
  | [], q, q', h => by cases h; exact ⟨[], (List.append_nil _).symm⟩
  | (a, b) :: r, q, q', h => by
    obtain ⟨q1, h1, h2⟩ := Option.bind_eq_some_iff.mp h
    obtain ⟨t, rfl⟩ := pr_pre h1
    obtain ⟨u, rfl⟩ := prsF_pre h2
    exact ⟨t ++ u, by rw [List.append_assoc]⟩
theorem prsF_rel : ∀ {ps : List (Option Nat × Option Nat)} {q q' : List (Nat × Nat)}, prsF ps q = some q' → ∀ p ∈ ps, Rel q' p.1 p.2
  | [], q, q', h, p, hp => by cases hp
  | (a, b) :: r, q, q', h, p, hp => by
    obtain ⟨q1, h1, h2⟩ := Option.bind_eq_some_iff.mp h
    rcases List.mem_cons.mp hp with rfl | hp
    · obtain ⟨t, rfl⟩ := prsF_pre h2
      exact (pr_rel h1).mono
    · exact prsF_rel h2 p hp
theorem prsF_ok {S : Nat × Nat → Prop} (hf : ∀ x y y', S (x, y) → S (x, y') → y = y') (hi : ∀ x x' y, S (x, y) → S (x', y) → x = x') : ∀ {ps : List (Option Nat × Option Nat)} {q : List (Nat × Nat)}, (∀ p ∈ q, S p) →
    (∀ p ∈ ps, (p.1 = none ∧ p.2 = none) ∨ ∃ x y, p.1 = some x ∧ p.2 = some y ∧ S (x, y)) → ∃ q', prsF ps q = some q' ∧ ∀ p ∈ q', S p
  | [], q, hq, _ => ⟨q, rfl, hq⟩
  | (a, b) :: r, q, hq, h => by
    have h0 := h (a, b) (List.mem_cons_self ..)
    obtain ⟨q1, h1⟩ := pr_ok hf hi hq h0
    have hq1 : ∀ p ∈ q1, S p := pr_in h1 hq fun x y ea eb => by
      rcases h0 with ⟨e, _⟩ | ⟨x', y', e1, e2, hs⟩
      · rw [show a = none from e] at ea; cases ea
      · rw [show a = some x' from e1] at ea
        rw [show b = some y' from e2] at eb
        cases ea
        cases eb
        exact hs
    obtain ⟨q', h2, h3⟩ := prsF_ok hf hi hq1 fun p hp => h p (List.mem_cons_of_mem _ hp)
    exact ⟨q', by show (pr q a b).bind (prsF r) = _; rw [h1]; exact h2, h3⟩
/-- the pairs of names, of fields -/
def nmp (l1 l2 : Ob) : List (Option Nat × Option Nat) := l1.map fun p => (p.2, nmv l2 p.1)
def fdp (os1 os2 : List Ob) (fs : List Str) (a b : Nat) : List (Option Nat × Option Nat) := fs.map fun f => (fld os1 a f, fld os2 b f)
/-- the walk through both, behind i pairs -/
def wk (os1 os2 : List Ob) (fs : List Str) (q0 : Option (List (Nat × Nat))) : Nat → Option (List (Nat × Nat))
  | 0 => q0
  | i + 1 => (wk os1 os2 fs q0 i).bind fun q => match q[i]? with
    | some p => prsF (fdp os1 os2 fs p.1 p.2) q
    | none => some q
section
variable {os1 os2 : List Ob} {fs : List Str} {q0 : Option (List (Nat × Nat))}
theorem wk_some {i : Nat} {q : List (Nat × Nat)} {p : Nat × Nat} (h : wk os1 os2 fs q0 i = some q) (hp : q[i]? = some p) : wk os1 os2 fs q0 (i + 1) = prsF (fdp os1 os2 fs p.1 p.2) q := by
  show (wk os1 os2 fs q0 i).bind _ = _
  rw [h]
  show (match q[i]? with | some p => prsF (fdp os1 os2 fs p.1 p.2) q | none => some q) = _
  rw [hp]
theorem wk_end {i : Nat} {q : List (Nat × Nat)} (h : wk os1 os2 fs q0 i = some q) (hp : q.length ≤ i) : ∀ {m : Nat}, i ≤ m → wk os1 os2 fs q0 m = some q := fun {m} hm => by
  induction hm with
  | refl => exact h
  | step q1 ih =>
    rename_i m
    show (wk os1 os2 fs q0 m).bind _ = _
    rw [ih]
    show (match q[m]? with | some p => prsF (fdp os1 os2 fs p.1 p.2) q | none => some q) = _
    rw [List.getElem?_eq_none (Nat.le_trans hp q1)]
theorem wk_back {i : Nat} {q : List (Nat × Nat)} (h : wk os1 os2 fs q0 i = some q) : ∀ {j : Nat}, j ≤ i → ∃ qj t, wk os1 os2 fs q0 j = some qj ∧ q = qj ++ t := by
  induction i generalizing q with
  | zero => exact fun {j} hj => ⟨q, [], by have : j = 0 := by omega
                                           subst this; exact h, (List.append_nil _).symm⟩
  | succ i ih =>
    intro j hj
    obtain ⟨q1, h1, h2⟩ := Option.bind_eq_some_iff.mp (show (wk os1 os2 fs q0 i).bind _ = some q from h)
    have pre : ∃ t, q = q1 ++ t := by
      cases e : q1[i]? with
      | none => rw [e] at h2; cases h2; exact ⟨[], (List.append_nil _).symm⟩
      | some p => rw [e] at h2; exact prsF_pre h2
    rcases Nat.lt_or_ge j (i + 1) with hlt | hge
    · obtain ⟨qj, t, g1, rfl⟩ := ih h1 (show j ≤ i by omega)
      obtain ⟨u, rfl⟩ := pre
      exact ⟨qj, t ++ u, g1, by rw [List.append_assoc]⟩
    · have : j = i + 1 := by omega
      subst this
      exact ⟨q, [], h, (List.append_nil _).symm⟩
theorem wk_closed {i : Nat} {q : List (Nat × Nat)} (h : wk os1 os2 fs q0 i = some q) (hl : q.length ≤ i) : ∀ p ∈ q, ∀ f ∈ fs, Rel q (fld os1 p.1 f) (fld os2 p.2 f) := by
  intro p hp f hf
  obtain ⟨j, hj, ej⟩ := List.getElem_of_mem hp
  obtain ⟨qj, t, g1, e1⟩ := wk_back h (show j ≤ i by omega)
  have hlt : j < qj.length := by
    rcases Nat.lt_or_ge j qj.length with h' | h'
    · exact h'
    · have := wk_end g1 h' (show j ≤ i by omega)
      rw [h] at this
      cases this
      omega
  have hg : qj[j]? = some p := by
    have a1 : q[j]? = some p := by rw [List.getElem?_eq_getElem hj, ej]
    have a2 : q[j]? = qj[j]? := (congrArg (·[j]?) e1).trans (List.getElem?_append_left hlt)
    rw [← a2]
    exact a1
  obtain ⟨q2, u, g2, e2⟩ := wk_back h (show j + 1 ≤ i by omega)
  rw [wk_some g1 hg] at g2
  have := prsF_rel g2 _ (List.mem_map.mpr ⟨f, hf, rfl⟩)
  rw [e2]
  exact Rel.mono (t := u) this
theorem wk_bij {i : Nat} {q : List (Nat × Nat)} (h0 : ∀ q, q0 = some q → Bij q) (h : wk os1 os2 fs q0 i = some q) : Bij q := by
  induction i generalizing q with
  | zero => exact h0 q h
  | succ i ih =>
    obtain ⟨q1, h1, h2⟩ := Option.bind_eq_some_iff.mp (show (wk os1 os2 fs q0 i).bind _ = some q from h)
    cases e : q1[i]? with
    | none => rw [e] at h2; cases h2; exact ih h1
    | some p => rw [e] at h2; exact prsF_bij h2 (ih h1)
theorem wk_ok {S : Nat × Nat → Prop} (hf : ∀ x y y', S (x, y) → S (x, y') → y = y') (hi : ∀ x x' y, S (x, y) → S (x', y) → x = x') (h0 : ∃ q, q0 = some q ∧ ∀ p ∈ q, S p)
    (hk : ∀ a b, S (a, b) → ∀ p ∈ fdp os1 os2 fs a b, (p.1 = none ∧ p.2 = none) ∨ ∃ x y, p.1 = some x ∧ p.2 = some y ∧ S (x, y)) : ∀ i, ∃ q, wk os1 os2 fs q0 i = some q ∧ ∀ p ∈ q, S p
  | 0 => h0
  | i + 1 => by
    obtain ⟨q, h1, h2⟩ := wk_ok hf hi h0 hk i
    cases e : q[i]? with
    | none =>
      refine ⟨q, ?_, h2⟩
      show (wk os1 os2 fs q0 i).bind _ = _
      rw [h1]
      show (match q[i]? with | some p => prsF (fdp os1 os2 fs p.1 p.2) q | none => some q) = _
      rw [e]
    | some p =>
      obtain ⟨q', g1, g2⟩ := prsF_ok hf hi h2 (hk p.1 p.2 (h2 p (List.mem_of_getElem? e)))
      exact ⟨q', (wk_some h1 e).trans g1, g2⟩
end
end TW
set_option Elab.async false
set_option linter.all false
set_option maxRecDepth 100000
namespace TW
open PySem PySem.Spec PyProof.Rows L2 TL
/-- one normal form -/
def FormEq (fs1 : List Str) (r1 : List Ob) (n1 : Ob) (fs2 : List Str) (r2 : List Ob) (n2 : Ob) : Prop := fs1 = fs2 ∧ r1 = r2 ∧ NamesEq n1 n2
/-! ### a renaming that is one to one on D -/
section
variable {ρ : Nat → Nat} {D : Nat → Prop} (inj : ∀ a b, D a → D b → ρ a = ρ b → a = b)
include inj
theorem meet_mapG {m : List Nat} {v : Option Nat} (hm : ∀ k ∈ m, D k) (hv : ∀ k, v = some k → D k) : meet (m.map ρ) (v.map ρ) = (meet m v).map ρ := by
  cases v with
  | none => rfl
  | some k =>
    have hk := hv k rfl
    show (if ρ k ∈ m.map ρ then m.map ρ else m.map ρ ++ [ρ k]) = (if k ∈ m then m else m ++ [k]).map ρ
    by_cases h : k ∈ m
    · rw [if_pos h, if_pos (List.mem_map_of_mem h)]
    · rw [if_neg h, if_neg, List.map_append]
      · rfl
      · intro z
        obtain ⟨k2, h2, e⟩ := List.mem_map.mp z
        exact h ((inj _ _ (hm _ h2) hk e) ▸ h2)
theorem meets_mapG : ∀ (vs : List (Option Nat)) (m : List Nat), (∀ k ∈ m, D k) → (∀ k, some k ∈ vs → D k) → (vs.map (Option.map ρ)).foldl meet (m.map ρ) = (vs.foldl meet m).map ρ
  | [], _, _, _ => rfl
  | v :: vs, m, hm, hv => by
    rw [List.map_cons, List.foldl_cons, List.foldl_cons, meet_mapG inj hm fun k e => hv k (by rw [← e]; exact List.mem_cons_self ..)]
    refine meets_mapG vs _ (fun k hk => ?_) fun k hk => hv k (List.mem_cons_of_mem _ hk)
    rcases mem_meet.mp hk with h | h
    · exact hm k h
    · exact hv k (by rw [← h]; exact List.mem_cons_self ..)
theorem qst_mapG {os1 os2 : List Ob} {fs : List Str} {e1 : List (Option Nat)} (he : ∀ k, some k ∈ e1 → D k) (hk : ∀ k, D k → kids os2 fs (ρ k) = (kids os1 fs k).map (Option.map ρ) ∧ ∀ w, some w ∈ kids os1 fs k → D w) : ∀ i, qst os2 fs (e1.map (Option.map ρ)) i = (qst os1 fs e1 i).map ρ ∧ ∀ k ∈ qst os1 fs e1 i, D k
  | 0 => ⟨meets_mapG inj e1 [] (fun k h => nomatch h) he, fun k h => (mem_meets e1 []).mp h |>.elim (fun h => nomatch h) (he k)⟩
  | i + 1 => by
    obtain ⟨ih, id⟩ := qst_mapG he hk i
    cases hi : (qst os1 fs e1 i)[i]? with
    | none =>
      rw [qst_none hi, qst_none, ih]
      · exact ⟨rfl, id⟩
      · rw [ih, List.getElem?_map, hi]
        rfl
    | some k =>
      have hd := id k (List.mem_of_getElem? hi)
      have hi' : (qst os2 fs (e1.map (Option.map ρ)) i)[i]? = some (ρ k) := by
        rw [ih, List.getElem?_map, hi]
        rfl
      rw [qst_some hi, qst_some hi', (hk k hd).1, ih]
      exact ⟨meets_mapG inj _ _ id (hk k hd).2, fun w hw => (mem_meets _ _).mp hw |>.elim (id w) ((hk k hd).2 w)⟩
theorem idx_mapG {w : Nat} (hw : D w) : ∀ {l : List Nat}, (∀ k ∈ l, D k) → (l.map ρ).idxOf (ρ w) = l.idxOf w
  | [], _ => rfl
  | x :: l, h => by
    rw [List.map_cons]
    by_cases e : x = w
    · subst e
      rw [List.idxOf_cons_self, List.idxOf_cons_self]
    · rw [idx_ne e, idx_ne fun z => e (inj _ _ (h x (List.mem_cons_self ..)) hw z), idx_mapG hw fun k hk => h k (List.mem_cons_of_mem _ hk)]
theorem ren_mapG {ord : List Nat} {v : Option Nat} (ho : ∀ k ∈ ord, D k) (hv : ∀ k, v = some k → D k) : ren (ord.map ρ) (v.map ρ) = ren ord v := by
  cases v with
  | none => rfl
  | some w =>
    have hw := hv w rfl
    show (if ρ w ∈ ord.map ρ then some ((ord.map ρ).idxOf (ρ w)) else none) = (if w ∈ ord then some (ord.idxOf w) else none)
    by_cases h : w ∈ ord
    · rw [if_pos h, if_pos (List.mem_map_of_mem h), idx_mapG inj hw ho]
    · rw [if_neg h, if_neg]
      intro z
      obtain ⟨k2, h2, e⟩ := List.mem_map.mp z
      exact h ((inj _ _ (ho _ h2) hw e) ▸ h2)
end
theorem lookup_mem {q : List (Nat × Nat)} (nd : (q.map (·.1)).Nodup) {a b : Nat} (h : (a, b) ∈ q) : q.lookup a = some b := by
  induction q with
  | nil => cases h
  | cons p r ih =>
    obtain ⟨x, y⟩ := p
    obtain ⟨n1, n2⟩ := List.nodup_cons.mp nd
    rw [List.lookup_cons]
    rcases List.mem_cons.mp h with e | h
    · cases e
      rw [beq_self_eq_true]
    · have : (a == x) = false := by
        refine beq_eq_false_iff_ne.mpr fun e => n1 ?_
        rw [← e]
        exact List.mem_map_of_mem (f := (·.1)) h
      rw [this]
      exact ih n2 h
/-- a walk that ends well tells one normal form -/
theorem wk_form {os1 os2 : List Ob} {fs : List Str} {l1 l2 : Ob} {o1 o2 : List Nat} {i : Nat} {q : List (Nat × Nat)} (G1 : Good fs os1 l1) (G2 : Good fs os2 l2) (h1 : OrdOf os1 fs l1 o1) (h2 : OrdOf os2 fs l2 o2) (hk : ∃ ys, Srt l1 ys ∧ Srt l2 ys)
    (h : wk os1 os2 fs (prsF (nmp l1 l2) []) i = some q) (hl : q.length ≤ i) : FormEq fs (o1.map (row os1 fs o1)) (renL o1 l1) fs (o2.map (row os2 fs o2)) (renL o2 l2) := by
  have hb : Bij q := wk_bij (fun q' e => prsF_bij (q := []) e ⟨List.nodup_nil, List.nodup_nil⟩) h
  have hc := wk_closed h hl
  obtain ⟨q0, t, g0, e0⟩ := wk_back h (Nat.zero_le i)
  have g0' : prsF (nmp l1 l2) [] = some q0 := g0
  have hn : ∀ p ∈ l1, Rel q p.2 (nmv l2 p.1) := fun p hp => by
    have := prsF_rel g0' (p.2, nmv l2 p.1) (List.mem_map.mpr ⟨p, hp, rfl⟩)
    rw [e0]
    exact Rel.mono (t := t) this
  obtain ⟨ρ, hρ⟩ : ∃ ρ : Nat → Nat, ρ = fun a => (q.lookup a).getD 0 := ⟨_, rfl⟩
  have hr : ∀ a b, (a, b) ∈ q → ρ a = b := fun a b m => by rw [hρ]; show (q.lookup a).getD 0 = b; rw [lookup_mem hb.1 m]; rfl
  obtain ⟨D, hD⟩ : ∃ D : Nat → Prop, D = fun a => ∃ b, (a, b) ∈ q := ⟨_, rfl⟩
  have mkD : ∀ {a b}, (a, b) ∈ q → D a := fun {a b} m => by rw [hD]; exact ⟨b, m⟩
  have unD : ∀ {a}, D a → (a, ρ a) ∈ q := fun {a} d => by
    rw [hD] at d
    obtain ⟨b, m⟩ := d
    rw [hr a b m]
    exact m
  have inj : ∀ a b, D a → D b → ρ a = ρ b → a = b := fun a b da db e => by
    have m1 := unD da
    have m2 := unD db
    rw [← e] at m2
    have gen : ∀ {q : List (Nat × Nat)} {x y z : Nat}, (q.map (·.2)).Nodup → (x, z) ∈ q → (y, z) ∈ q → x = y := by
      intro q
      induction q with
      | nil => intro x y z _ h; cases h
      | cons p r ih =>
        intro x y z nd h1 h2
        obtain ⟨n1, n2⟩ := List.nodup_cons.mp nd
        rcases List.mem_cons.mp h1 with e1 | h1
        · rcases List.mem_cons.mp h2 with e2 | h2
          · rw [← e1] at e2; exact (congrArg Prod.fst e2).symm
          · exact absurd (by rw [← e1]; exact List.mem_map_of_mem (f := (·.2)) h2) n1
        · rcases List.mem_cons.mp h2 with e2 | h2
          · exact absurd (by rw [← e2]; exact List.mem_map_of_mem (f := (·.2)) h1) n1
          · exact ih n2 h1 h2
    exact gen hb.2 m1 m2
  have relm : ∀ {v u : Option Nat}, Rel q v u → u = v.map ρ ∧ ∀ k, v = some k → D k := fun {v u} r => by
    unfold Rel at r
    split at r
    · exact ⟨rfl, fun k e => nomatch e⟩
    · rename_i a b
      exact ⟨by rw [Option.map_some, hr _ _ r], fun k e => by cases e; exact mkD r⟩
    · exact r.elim
  have kid : ∀ k, D k → kids os2 fs (ρ k) = (kids os1 fs k).map (Option.map ρ) ∧ ∀ w, some w ∈ kids os1 fs k → D w := fun k d => by
    have m := unD d
    constructor
    · unfold kids
      rw [List.map_map]
      exact List.map_congr_left fun f hf => (relm (hc _ m f hf)).1
    · intro w hw
      obtain ⟨f, hf, e⟩ := List.mem_map.mp hw
      exact (relm (hc _ m f hf)).2 w e
  obtain ⟨ys, s1, s2⟩ := hk
  obtain ⟨y1, t1, i1⟩ := h1
  obtain ⟨y2, t2, i2⟩ := h2
  have e1 : y1 = ys := t1.uniq s1 rfl
  have e2 : y2 = ys := t2.uniq s2 rfl
  subst e1
  subst e2
  have nm : ∀ z ∈ y2, nmv l2 z = (nmv l1 z).map ρ ∧ ∀ k, nmv l1 z = some k → D k := fun z hz => by
    have hm : z ∈ l1.map (·.1) := s1.1.mem_iff.mp hz
    obtain ⟨p, hp, rfl⟩ := List.mem_map.mp hm
    obtain ⟨j, hj, ej⟩ := List.getElem_of_mem hp
    have : nmv l1 p.1 = p.2 := nmv_at G1.ln (by rw [List.getElem?_eq_getElem hj, ej])
    rw [this]
    exact relm (hn p hp)
  have em : y2.map (nmv l2) = (y2.map (nmv l1)).map (Option.map ρ) := by
    rw [List.map_map]
    exact List.map_congr_left fun z hz => (nm z hz).1
  have he : ∀ k, some k ∈ y2.map (nmv l1) → D k := fun k hk => by
    obtain ⟨z, hz, e⟩ := List.mem_map.mp hk
    exact (nm z hz).2 k e
  have Q := qst_mapG inj (os1 := os1) (os2 := os2) (fs := fs) he kid
  have oD : ∀ k ∈ o1, D k := fun k hk => by
    obtain ⟨a, ea, _⟩ := i1
    rw [ea] at hk
    exact (Q a).2 k hk
  have eo : o2 = o1.map ρ := by
    refine i2.uniq ?_
    rw [em]
    obtain ⟨a, ea, la⟩ := i1
    refine ⟨a, ?_, by rw [List.length_map]; exact la⟩
    rw [(Q a).1, ← ea]
  refine ⟨rfl, ?_, ?_⟩
  · rw [eo, List.map_map]
    refine List.map_congr_left fun k hk => ?_
    have m := unD (oD k hk)
    show row os1 fs o1 k = row os2 fs (o1.map ρ) (ρ k)
    unfold row
    refine List.map_congr_left fun f hf => ?_
    obtain ⟨r1, r2⟩ := relm (hc _ m f hf)
    rw [show fld os2 (ρ k) f = (fld os1 k f).map ρ from r1, ren_mapG inj oD r2]
  · refine ⟨?_, fun p hp => ?_⟩
    · unfold renL
      rw [List.length_map, List.length_map]
      have a1 := s1.1.length_eq
      have a2 := s2.1.length_eq
      rw [List.length_map] at a1 a2
      omega
    · obtain ⟨p0, hp0, rfl⟩ := List.mem_map.mp hp
      have hm : p0.1 ∈ l2.map (·.1) := s2.1.mem_iff.mp (s1.1.mem_iff.mpr (List.mem_map_of_mem (f := (·.1)) hp0))
      have hm2 : p0.1 ∈ (renL o2 l2).map (·.1) := by rw [renL_fst]; exact hm
      obtain ⟨v, hv'⟩ := lookup_some hm2
      have n2 : nmv (renL o2 l2) p0.1 = ren o2 (nmv l2 p0.1) := nmv_renL
      unfold nmv at n2
      rw [hv'] at n2
      obtain ⟨r1, r2⟩ := relm (hn p0 hp0)
      have e3 : (List.lookup p0.1 l2).join = p0.2.map ρ := r1
      rw [e3, eo, ren_mapG inj oD r2] at n2
      show List.lookup p0.1 (renL o2 l2) = some (ren o1 p0.2)
      rw [hv']
      exact congrArg some n2
/-- where the normal forms are one, no walk fails -/
theorem form_wk {os1 os2 : List Ob} {fs : List Str} {l1 l2 : Ob} {o1 o2 : List Nat} (G1 : Good fs os1 l1) (G2 : Good fs os2 l2) (h1 : OrdOf os1 fs l1 o1) (h2 : OrdOf os2 fs l2 o2) (n1 : o1.Nodup) (n2 : o2.Nodup) (sub : ∀ z ∈ l1.map (·.1), z ∈ l2.map (·.1))
    (h : FormEq fs (o1.map (row os1 fs o1)) (renL o1 l1) fs (o2.map (row os2 fs o2)) (renL o2 l2)) : ∀ i, ∃ q, wk os1 os2 fs (prsF (nmp l1 l2) []) i = some q := by
  obtain ⟨_, hr, hn⟩ := h
  obtain ⟨S, eS⟩ : ∃ S : Nat × Nat → Prop, S = fun p => p.1 ∈ o1 ∧ p.2 ∈ o2 ∧ o1.idxOf p.1 = o2.idxOf p.2 := ⟨_, rfl⟩
  have unS : ∀ {x y}, S (x, y) → x ∈ o1 ∧ y ∈ o2 ∧ o1.idxOf x = o2.idxOf y := fun {x y} h => by rw [eS] at h; exact h
  have hf : ∀ x y y', S (x, y) → S (x, y') → y = y' := fun x y y' a b => by
    obtain ⟨a1, a2, a3⟩ := unS a
    obtain ⟨b1, b2, b3⟩ := unS b
    exact idx_inj a2 b2 (a3.symm.trans b3)
  have hi : ∀ x x' y, S (x, y) → S (x', y) → x = x' := fun x x' y a b => by
    obtain ⟨a1, a2, a3⟩ := unS a
    obtain ⟨b1, b2, b3⟩ := unS b
    exact idx_inj a1 b1 (a3.trans b3.symm)
  have pair : ∀ {v u : Option Nat}, (∀ w, v = some w → w ∈ o1) → (∀ w, u = some w → w ∈ o2) → ren o1 v = ren o2 u → (v = none ∧ u = none) ∨ ∃ x y, v = some x ∧ u = some y ∧ S (x, y) := fun {v u} hv hu e => by
    cases v with
    | none =>
      cases u with
      | none => exact .inl ⟨rfl, rfl⟩
      | some y => rw [ren_in (hu y rfl)] at e; cases e
    | some x =>
      rw [ren_in (hv x rfl)] at e
      cases u with
      | none => cases e
      | some y =>
        rw [ren_in (hu y rfl)] at e
        exact .inr ⟨x, y, rfl, rfl, by rw [eS]; exact ⟨hv x rfl, hu y rfl, Option.some.inj e⟩⟩
  have names : ∀ p ∈ nmp l1 l2, (p.1 = none ∧ p.2 = none) ∨ ∃ x y, p.1 = some x ∧ p.2 = some y ∧ S (x, y) := fun p hp => by
    obtain ⟨p0, hp0, rfl⟩ := List.mem_map.mp hp
    have hm : p0.1 ∈ l1.map (·.1) := List.mem_map_of_mem (f := (·.1)) hp0
    obtain ⟨j, hj, ej⟩ := List.getElem_of_mem hp0
    have e1 : nmv l1 p0.1 = p0.2 := nmv_at G1.ln (by rw [List.getElem?_eq_getElem hj, ej])
    refine pair (fun w e => h1.name hm (e1.trans e)) (fun w e => h2.name (sub _ hm) e) ?_
    have e2 := hn.2 (p0.1, ren o1 p0.2) (List.mem_map.mpr ⟨p0, hp0, rfl⟩)
    have e3 : nmv (renL o2 l2) p0.1 = ren o2 (nmv l2 p0.1) := nmv_renL
    unfold nmv at e3
    dsimp only at e2
    rw [e2] at e3
    exact e3
  have q0 := prsF_ok hf hi (ps := nmp l1 l2) (q := []) (fun p hp => nomatch hp) names
  intro i
  obtain ⟨q, hq, _⟩ := wk_ok (os1 := os1) (os2 := os2) (fs := fs) hf hi q0 (fun a b s p hp => by
    obtain ⟨f, hfm, rfl⟩ := List.mem_map.mp hp
    obtain ⟨a1, a2, a3⟩ := unS s
    refine pair (fun w e => h1.kid a1 (List.mem_map.mpr ⟨f, hfm, e⟩)) (fun w e => h2.kid a2 (List.mem_map.mpr ⟨f, hfm, e⟩)) ?_
    have i1 := List.idxOf_lt_length_of_mem a1
    have i2 := List.idxOf_lt_length_of_mem a2
    have g1 : (o1.map (row os1 fs o1))[o1.idxOf a]? = some (row os1 fs o1 a) := by rw [List.getElem?_map, List.getElem?_eq_getElem i1, List.getElem_idxOf i1]; rfl
    have g2 : (o2.map (row os2 fs o2))[o1.idxOf a]? = some (row os2 fs o2 b) := by rw [a3, List.getElem?_map, List.getElem?_eq_getElem i2, List.getElem_idxOf i2]; rfl
    rw [hr, g2] at g1
    have e := Option.some.inj g1
    have e2 := List.map_inj_left.mp (show fs.map (fun f => (f, ren o2 (fld os2 b f))) = fs.map (fun f => (f, ren o1 (fld os1 a f))) from e) f hfm
    exact (congrArg Prod.snd e2).symm) i
  exact ⟨q, hq⟩
end TW
set_option Elab.async false
set_option linter.all false
set_option maxRecDepth 100000
namespace TW
open PySem PySem.Spec PyProof.Rows L2 TL
/-- what == and isinstance ask of the class -/
structure HC4 (K : PySem.W.Frag) (C fE : Addr) : Prop where
  ha : PySem.W.findIn K (.ref C) "__class__" = some (some (.builtin "object.__class__"))
  hn : PySem.W.specialIn K (.builtin "object.__class__") "__get__" = some (some (.builtin "getset_descriptor.__get__"))
  ht : PySem.W.takesIn K (.builtin "object.__class__") = some true
  hm : PySem.W.mroIn K C (.type "object") = some true
  es : PySem.W.findIn K (.ref C) "__eq__" = some (some (.ref fE))
  ef : PySem.W.isFn K (.ref fE) = true
theorem HC4.ty {K : PySem.W.Frag} {C fE : Addr} (T : HC4 K C fE) (cl : Cls K C) {H : Hp} {a dx : Addr} {fs : List (Str × V)} (e : H a = some (.ins C dx fs)) : TyX K H (.ref a) (.ref C) := .base (.ins e cl T.ha T.hn T.ht T.hm)
theorem kit_self {K : PySem.W.Frag} {C : Addr} : PySem.W.kitOne K (.ref C) (.ref C) = some true := if_pos (beq_self_eq_true _)
theorem flat_hv (v : Option Nat) : flatB (hv v) = true := by cases v <;> rfl
theorem dk_same : ∀ (o : Ob), (o.map (·.1)).Nodup → ∀ p ∈ dk o, valV (dk o) p.1 = some p.2 ∧ flatB p.2 = true
  | [], _, p, hp => by cases hp
  | (f, v) :: r, nd, p, hp => by
    have e : dk ((f, v) :: r) = ((Sum.inr f : Key), hv v) :: dk r := rfl
    rw [e] at hp ⊢
    have nd' : f ∉ r.map (·.1) ∧ (r.map (·.1)).Nodup := List.nodup_cons.mp nd
    rcases List.mem_cons.mp hp with rfl | hp
    · exact ⟨valV_pos rfl, flat_hv v⟩
    · have ih := dk_same r nd'.2 p hp
      refine ⟨?_, ih.2⟩
      rw [valV_neg]
      · exact ih.1
      · intro e1
        obtain ⟨q, hq, rfl⟩ := List.mem_map.mp hp
        have : f = q.1 := Sum.inr.inj e1
        exact nd'.1 (this ▸ List.mem_map_of_mem hq)
theorem get_ref {ds : List Addr} {i : Nat} {x : V} (h : (ds.map V.ref)[i]? = some x) : ∃ d, ds[i]? = some d ∧ x = .ref d := by
  rw [List.getElem?_map] at h
  cases e : ds[i]? with
  | none => rw [e] at h; cases h
  | some d => rw [e] at h; exact ⟨d, rfl, (Option.some.inj h).symm⟩
theorem dk_keys_nd {o : Ob} (h : (o.map (·.1)).Nodup) : ((dk o).map (·.1)).Nodup := by
  unfold dk
  rw [List.map_map]
  have e : (o.map ((·.1) ∘ fun p : Str × Option Nat => ((Sum.inr p.1 : Key), hv p.2))) = (o.map (·.1)).map Sum.inr := by rw [List.map_map]; rfl
  rw [e]
  exact List.Pairwise.map _ (fun a b hab e => hab (Sum.inr.inj e)) h
theorem dk_flat {o : Ob} : ∀ p ∈ dk o, flatV p.2 = true := fun p hp => by
  obtain ⟨q, _, rfl⟩ := List.mem_map.mp hp
  cases q.2 <;> rfl
/-- the parts of two heaps lie apart -/
structure Apart (p1 p2 : HP) : Prop where
  t : p1.tF ≠ p2.tF
  r : p1.rD ≠ p2.rD
  n : p1.nD ≠ p2.nD
  d : ∀ a ∈ p1.ds2, ∀ b ∈ p2.ds2, a ≠ b
theorem Apart.symm {p1 p2 : HP} (a : Apart p1 p2) : Apart p2 p1 := ⟨a.t.symm, a.r.symm, a.n.symm, fun x hx y hy e => a.d y hy x hx e.symm⟩
theorem all_range_iff {n : Nat} {e : Nat → Bool} : (List.range n).all e = true ↔ ∀ i, i < n → e i = true := by
  rw [List.all_eq_true]
  exact ⟨fun h i hi => h i (List.mem_range.mpr hi), fun h i hi => h i (List.mem_range.mp hi)⟩
theorem qt_words {K : PySem.W.Frag} {H : Hp} {n : Nat} {a b : Addr} {ws vs : List Str} (ne : a ≠ b) (ha : H a = some (.tup (ws.map V.str))) (hb : H b = some (.tup (vs.map V.str))) : ∃ r, QT K H (n + 1) (.ref a) (.ref b) r ∧ (r = true ↔ ws = vs) := by
  refine ⟨_, .tuples (e := fun j => match ws[j]?, vs[j]? with | some x, some y => eqV (.str x) (.str y) | _, _ => false) ne ha hb fun j x y hx hy => ?_, ?_⟩
  · obtain ⟨x, h1, rfl⟩ := get_str hx
    obtain ⟨y, h2, rfl⟩ := get_str hy
    rw [h1, h2]
    exact .flat rfl rfl
  · rw [Bool.and_eq_true, beq_iff_eq, all_range_iff, List.length_map, List.length_map]
    constructor
    · rintro ⟨h, hl⟩
      refine List.ext_getElem hl fun i h1 h2 => ?_
      have := h i (by omega)
      rw [List.getElem?_eq_getElem h1, List.getElem?_eq_getElem h2] at this
      exact eq_of_beq (show (ws[i] == vs[i]) = true from this)
    · rintro rfl
      refine ⟨fun i hi => ?_, rfl⟩
      have h1 : i < ws.length := by omega
      rw [List.getElem?_eq_getElem h1]
      show (ws[i] == ws[i]) = true
      exact beq_self_eq_true _
theorem qt_dk {K : PySem.W.Frag} {H : Hp} {n : Nat} {a b : Addr} {o1 o2 : Ob} (ne : a ≠ b) (ha : H a = some (.dK (dk o1))) (hb : H b = some (.dK (dk o2))) (nd : (o1.map (·.1)).Nodup) : QT K H (n + 1) (.ref a) (.ref b) (dkEq o1 o2) := .dicts ne ha hb (dk_keys_nd nd) dk_flat dk_flat
theorem qt_objs {K : PySem.W.Frag} {H : Hp} {n m1 m2 : Nat} {a b : Addr} {d1 d2 : List Addr} {f1 f2 : List Str} {r1 r2 : List Ob} (ne : a ≠ b) (A : ObjsAt H a d1 f1 m1 r1) (B : ObjsAt H b d2 f2 m2 r2) (nd : f1.Nodup) (ap : ∀ x ∈ d1, ∀ y ∈ d2, x ≠ y)
    (hk1 : ∀ o ∈ r1, o.map (·.1) = f1) (hk2 : ∀ o ∈ r2, o.map (·.1) = f2) : ∃ r, QT K H (n + 2) (.ref a) (.ref b) r ∧ (f1 = f2 → (r = true ↔ r1 = r2)) := by
  by_cases hl : r1.length = r2.length
  · refine ⟨_, .lists (e := fun j => match r1[j]?, r2[j]? with | some x, some y => dkEq x y | _, _ => false) ne A.ls B.ls (by rw [List.length_map, List.length_map, A.len, B.len, hl]) fun j x y hx hy => ?_, ?_⟩
    · obtain ⟨x, h1, rfl⟩ := get_ref hx
      obtain ⟨y, h2, rfl⟩ := get_ref hy
      have i1 : j < r1.length := by have := (List.getElem?_eq_some_iff.mp h1).1; have := A.len; omega
      have i2 : j < r2.length := by omega
      rw [List.getElem?_eq_getElem i1, List.getElem?_eq_getElem i2]
      exact qt_dk (ap x (List.mem_of_getElem? h1) y (List.mem_of_getElem? h2)) (A.at' j x _ h1 (List.getElem?_eq_getElem i1)) (B.at' j y _ h2 (List.getElem?_eq_getElem i2)) (by rw [hk1 _ (List.getElem_mem i1)]; exact nd)
    · rintro rfl
      rw [all_range_iff, List.length_map, A.len]
      constructor
      · intro h
        refine List.ext_getElem hl fun i h1 h2 => ?_
        have := h i h1
        rw [List.getElem?_eq_getElem h1, List.getElem?_eq_getElem h2] at this
        exact (namesEq_same (by rw [hk1 _ (List.getElem_mem h1), hk2 _ (List.getElem_mem h2)]) (by rw [hk1 _ (List.getElem_mem h1)]; exact nd)).mp ((dkEq_iff _ _).mp this)
      · rintro rfl i hi
        rw [List.getElem?_eq_getElem hi]
        exact (dkEq_iff _ _).mpr ((namesEq_same rfl (by rw [hk1 _ (List.getElem_mem hi)]; exact nd)).mpr rfl)
  · refine ⟨false, .listsLen ne A.ls B.ls (by rw [List.length_map, List.length_map, A.len, B.len]; exact hl), fun _ => ⟨fun z => Bool.noConfusion z, fun e => absurd (congrArg List.length e) hl⟩⟩
def pick3 (a b c : Bool) : Nat → Bool
  | 0 => a
  | 1 => b
  | _ => c
theorem three_all {xs ys : List V} (h1 : xs.length = 3) (h2 : ys.length = 3) (e : Nat → Bool) : ((List.range (min xs.length ys.length)).all e && xs.length == ys.length) = (e 0 && e 1 && e 2) := by
  rw [h1, h2]
  show ((e 0 && (e 1 && (e 2 && true))) && true) = _
  simp [Bool.and_assoc]
def spEqK (K : PySem.W.Frag) (C : Addr) : Sp := fun vs H Q _ => ∃ (a : Addr) (y : V) (t : Value) (f1 : List Str) (o1 : List Ob) (l1 : Ob) (p1 : HP), vs = [.ref a, y] ∧ HeapAt K C H a f1 o1 l1 p1 ∧ TyX K H y t ∧
  ((PySem.W.kitOne K t (.ref C) = some false ∧ Q (.bl false) H) ∨ (y = .ref a ∧ t = .ref C ∧ Q (.bl true) H) ∨
   ∃ (b : Addr) (f2 : List Str) (o2 : List Ob) (l2 : Ob) (p2 : HP), y = .ref b ∧ t = .ref C ∧ HeapAt K C H b f2 o2 l2 p2 ∧ Apart p1 p2 ∧
     ∀ r : Bool, (r = true ↔ FormEq f1 (p1.ord.map (row o1 f1 p1.ord)) (renL p1.ord l1) f2 (p2.ord.map (row o2 f2 p2.ord)) (renL p2.ord l2)) → Q (.bl r) H)
abbrev S_Heap___eq__ : Stmt := inClass (topS 17) 5
abbrev N_Heap___eq__ : List Str := ["self", "other"]
abbrev P_Heap___eq__ : List Str := ["self", "other"]
theorem sc_Heap___eq__ : FnScope N_Heap___eq__ P_Heap___eq__ (defScope S_Heap___eq__) := ⟨rfl, rfl, rfl, by decide +kernel, rfl, by decide +kernel, by decide +kernel⟩
section
variable {P : Program} {w : World} {K : PySem.W.Frag} {mg : Str → Option Value} {base : Heap}
set_option maxHeartbeats 8000000 in
theorem ok_eqK {f fE C : Addr} {fd : FuncData} (F : Fun K "__eq__" "Heap.__eq__" S_Heap___eq__ f fd) (B : Bl mg) (T0 : HC K mg C) (T4 : HC4 K C fE) : FnOk P w K mg base CX0 4 f fd P_Heap___eq__ (spEqK K C) := by
  refine F.ok sc_Heap___eq__ (fun vs H Q E h => ?_) (fun cdv A outer s H vs Q E hr h => ?_)
  · obtain ⟨a, y, t, f1, o1, l1, p1, rfl, _⟩ := h
    rfl
  · obtain ⟨a, y, t, f1, o1, l1, p1, rfl, A1, ty, k⟩ := h
    have hu3 : (A.deeper (envOfC "Heap.__eq__" (defScope S_Heap___eq__) s.heap.objs.size f cdv)).units + (2 + 1) < cLine := by have := hr.un; omega
    refine ⟨_, (pss_one (ps_ret (pe_and (pe_callB call_isi (by rfl) B.m_isinstance (by decide +kernel) (pa_cons (pv 1) (pa_cons (pe_glob (v := .ref C) rfl T0.g rfl) pa_nil))) (pe_one (pe_cmpR (op_eqQT (n := 2) hu3) (pe_fld (pv 0) rfl) (pe_fld (pv 1) rfl) (nomark _)))))), ?_⟩
    rcases k with ⟨hf, k⟩ | ⟨rfl, rfl, k⟩ | ⟨b, f2, o2, l2, p2, rfl, rfl, A2, ap, k⟩
    · refine ⟨_, rfl, _, _, _, _, _, rfl, .own C, ty, hf, _, rfl, iteF ?_⟩
      exact k
    · refine ⟨_, rfl, _, _, _, _, _, rfl, .own C, ty, kit_self, _, rfl, iteT ?_⟩
      refine ⟨_, rfl, a, C, _, _, _, rfl, A1.ob, T0.cl, T0.nM, hfl_form p1, _, rfl, a, C, _, _, _, rfl, A1.ob, T0.cl, T0.nM, hfl_form p1, p1.t, p1.t, _, _, fun _ => true, rfl, rfl, A1.t, A1.t, fun j x y hx hy => ?_, ?_⟩
      · rw [hx] at hy
        cases hy
        match j, hx with
        | 0, hx => cases hx; exact .same
        | 1, hx => cases hx; exact .same
        | 2, hx => cases hx; exact .same
      · rw [three_all rfl rfl]
        exact k
    · refine ⟨_, rfl, _, _, _, _, _, rfl, .own C, ty, kit_self, _, rfl, iteT ?_⟩
      obtain ⟨b0, q0, i0⟩ := qt_words (K := K) (n := 1) ap.t A1.f A2.f
      obtain ⟨b1, q1, i1⟩ := qt_objs (K := K) (n := 0) ap.r A1.r A2.r A1.g.fn ap.d (fun o ho => by obtain ⟨k0, _, rfl⟩ := List.mem_map.mp ho; exact row_fst ..) (fun o ho => by obtain ⟨k0, _, rfl⟩ := List.mem_map.mp ho; exact row_fst ..)
      have q2 : QT K H 2 (.ref p1.nD) (.ref p2.nD) _ := qt_dk (n := 1) ap.n A1.m A2.m (by rw [renL_fst]; exact A1.g.ln)
      refine ⟨_, rfl, a, C, _, _, _, rfl, A1.ob, T0.cl, T0.nM, hfl_form p1, _, rfl, b, C, _, _, _, rfl, A2.ob, T0.cl, T0.nM, hfl_form p2, p1.t, p2.t, _, _, pick3 b0 b1 (dkEq (renL p1.ord l1) (renL p2.ord l2)), rfl, rfl, A1.t, A2.t, fun j x y hx hy => ?_, ?_⟩
      · match j, hx, hy with
        | 0, hx, hy => cases hx; cases hy; exact q0
        | 1, hx, hy => cases hx; cases hy; exact q1
        | 2, hx, hy => cases hx; cases hy; exact q2
      · rw [three_all rfl rfl]
        refine k (b0 && b1 && dkEq (renL p1.ord l1) (renL p2.ord l2)) ?_
        rw [Bool.and_eq_true, Bool.and_eq_true, i0, dkEq_iff]
        unfold FormEq
        constructor
        · rintro ⟨⟨h1, h2⟩, h3⟩
          exact ⟨h1, (i1 h1).mp h2, h3⟩
        · rintro ⟨h1, h2, h3⟩
          exact ⟨⟨h1, (i1 h1).mpr h2⟩, h3⟩
end
end TW
set_option Elab.async false
set_option linter.all false
set_option maxRecDepth 100000
namespace TW
open PySem PySem.Spec PyProof.Rows L2 TL
/-- what the pairing keeps: from left to right, from right to left, and in turn -/
def lk (q : List (Nat × Nat)) : List (Key × V) := q.map fun p => ((Sum.inl (p.1 : Int) : Key), V.int (p.2 : Int))
def rk (q : List (Nat × Nat)) : List (Key × V) := q.map fun p => ((Sum.inl (p.2 : Int) : Key), V.int (p.1 : Int))
theorem lk_val (a : Nat) : ∀ q : List (Nat × Nat), valV (lk q) (Sum.inl (a : Int) : Key) = (q.lookup a).map fun b : Nat => V.int (b : Int)
  | [] => rfl
  | (x, y) :: r => by
    show valV (((Sum.inl (x : Int) : Key), V.int (y : Int)) :: lk r) _ = _
    rw [List.lookup_cons]
    by_cases h : a = x
    · subst h
      rw [valV_pos rfl, beq_self_eq_true]
      rfl
    · rw [valV_neg (fun e => h (by injection e with e; omega)), lk_val a r]
      have : (a == x) = false := beq_eq_false_iff_ne.mpr h
      rw [this]
theorem rk_in (b : Nat) : ∀ q : List (Nat × Nat), (valV (rk q) (Sum.inl (b : Int) : Key)).isSome = decide (b ∈ q.map (·.2))
  | [] => rfl
  | (x, y) :: r => by
    show (valV (((Sum.inl (y : Int) : Key), V.int (x : Int)) :: rk r) _).isSome = _
    by_cases h : y = b
    · subst h
      rw [valV_pos rfl]
      exact (decide_eq_true (List.mem_cons_self ..)).symm
    · rw [valV_neg (fun e => h (by injection e with e; omega)), rk_in b r]
      exact decide_eq_decide.mpr ⟨fun m => List.mem_cons_of_mem _ m, fun m => (List.mem_cons.mp m).elim (fun e => absurd e.symm h) id⟩
theorem lk_none {q : List (Nat × Nat)} {a : Nat} : q.lookup a = none ↔ a ∉ q.map (·.1) := by
  induction q with
  | nil => simp
  | cons p r ih =>
    obtain ⟨x, y⟩ := p
    rw [List.lookup_cons]
    by_cases h : a = x
    · subst h
      simp
    · have : (a == x) = false := beq_eq_false_iff_ne.mpr h
      rw [this]
      dsimp only
      rw [ih]
      simp [h]
structure QAt (H : Hp) (L R U : Addr) (ts : List Addr) (q : List (Nat × Nat)) : Prop where
  l : H L = some (.dK (lk q))
  r : H R = some (.dK (rk q))
  u : H U = some (.lst (ts.map V.ref))
  len : ts.length = q.length
  at' : ∀ (i : Nat) (t : Addr) (p : Nat × Nat), ts[i]? = some t → q[i]? = some p → H t = some (.tup [.int (p.1 : Int), .int (p.2 : Int)])
  LR : L ≠ R
/-- everything stands but for the three -/
def Kp (L R U : Addr) (H H' : Hp) : Prop := ∀ b o, H b = some o → b ≠ L → b ≠ R → b ≠ U → H' b = some o
theorem Kp.refl (L R U : Addr) (H : Hp) : Kp L R U H H := fun _ _ e _ _ _ => e
theorem Kp.trans {L R U : Addr} {H H1 H2 : Hp} (a : Kp L R U H H1) (b : Kp L R U H1 H2) : Kp L R U H H2 := fun x o e n1 n2 n3 => b x o (a x o e n1 n2 n3) n1 n2 n3
theorem QAt.same {H H' : Hp} {L R U : Addr} {ts : List Addr} {q : List (Nat × Nat)} (A : QAt H L R U ts q) (s : Same H H') : QAt H' L R U ts q :=
  ⟨s _ _ A.l, s _ _ A.r, s _ _ A.u, A.len, fun i t p h1 h2 => s _ _ (A.at' i t p h1 h2), A.LR⟩
def spPair : Sp := fun vs H Q _ => ∃ (L R U : Addr) (ts : List Addr) (q : List (Nat × Nat)) (a b : Option Nat), vs = [.ref L, .ref R, .ref U, hv a, hv b] ∧ QAt H L R U ts q ∧ Bij q ∧ q.length ≤ 1000 ∧
  (∀ q' ts' H', pr q a b = some q' → QAt H' L R U ts' q' → Kp L R U H H' → Q (.bl true) H') ∧ (pr q a b = none → Q (.bl false) H)
abbrev S_law_pair : Stmt := topS 33
abbrev N_law_pair : List Str := ["_law_left", "_law_right", "_law_queue", "_law_one", "_law_two"]
abbrev P_law_pair : List Str := ["_law_left", "_law_right", "_law_queue", "_law_one", "_law_two"]
theorem sc_law_pair : FnScope N_law_pair P_law_pair (defScope S_law_pair) := ⟨rfl, rfl, rfl, by decide +kernel, rfl, by decide +kernel, by decide +kernel⟩
section
variable {P : Program} {w : World} {K : PySem.W.Frag} {mg : Str → Option Value} {base : Heap}
set_option maxHeartbeats 4000000 in
theorem ok_pair {f : Addr} {fd : FuncData} (F : Fun K "_law_pair" "_law_pair" S_law_pair f fd) : FnOk P w K mg base CX0 1 f fd P_law_pair spPair := by
  refine F.ok sc_law_pair (fun vs H Q E h => ?_) (fun cdv A outer s H vs Q E hr h => ?_)
  · obtain ⟨L, R, U, ts, q, a, b, rfl, _⟩ := h
    rfl
  · obtain ⟨L, R, U, ts, q, a, b, rfl, A0, hb, hl, k1, k2⟩ := h
    have hu := hu_of hr
    refine ⟨_, (pss_cons (ps_if (PW.pt (pw_or (pt_cmpR op_isN (pv 3) pe_non (nomark _)) (pw_or1 (pt_cmpR op_isN (pv 4) pe_non (nomark _))))) (pss_one (ps_ret (pe_and (pe_cmpR op_isN (pv 3) pe_non (nomark _)) (pe_one (pe_cmpR op_isN (pv 4) pe_non (nomark _)))))) pss_nil)
 (pss_cons (ps_if (pt_cmp (pc_din hu (pv 3) (pv 0))) (pss_one (ps_ret (pe_cmpR op_eq (pe_dget hu (pv 0) (pv 3) (fun _ _ => rfl)) (pv 4) (nomark _)))) pss_nil)
 (pss_cons (ps_if (pt_cmp (pc_din hu (pv 4) (pv 1))) (pss_one (ps_ret pe_bl)) pss_nil)
 (pss_cons (ps_dput hu (pv 0) (pv 3) (pv 4) rfl)
 (pss_cons (ps_dput hu (pv 1) (pv 4) (pv 3) rfl)
 (pss_cons (ps_expr (pe_bm PySem.F.plainAttrs_list PySem.F.slot_list_append PySem.F.type_list_append mt_append (pv 2) (pa_cons (pe_tup (pa_cons (pv 3) (pa_cons (pv 4) pa_nil))) pa_nil)))
 (pss_one (ps_ret pe_bl)))))))), ?_⟩
    refine ⟨_, rfl, rfl, _, rfl, ?_⟩
    cases a with
    | none =>
      refine iteT ?_
      refine iteT ?_
      refine ⟨_, rfl, rfl, _, rfl, iteT ?_⟩
      refine ⟨_, rfl, rfl, ?_⟩
      cases b with
      | none => exact k1 q ts H rfl A0 (Kp.refl L R U H)
      | some b => exact k2 rfl
    | some a =>
      refine iteF ?_
      refine ⟨_, rfl, rfl, _, rfl, ?_⟩
      cases b with
      | none =>
        refine iteT ?_
        refine ⟨_, rfl, rfl, _, rfl, iteF ?_⟩
        exact k2 rfl
      | some b =>
        refine iteF ?_
        refine ⟨_, rfl, _, rfl, L, _, rfl, DGet.k (k := (Sum.inl (a : Int) : Key)) A0.l, _, rfl, ?_⟩
        rw [lk_val]
        cases hla : q.lookup a with
        | some b' =>
          have hm : a ∈ q.map (·.1) := by
            refine Classical.byContradiction fun n => ?_
            rw [lk_none.mpr n] at hla
            cases hla
          have hv1 : valV (lk q) (Sum.inl (a : Int) : Key) = some (.int (b' : Int)) := by rw [lk_val, hla]; rfl
          refine iteT ?_
          refine ⟨_, rfl, _, rfl, L, _, rfl, dget_dk (k := (Sum.inl (a : Int) : Key)) A0.l hv1, _, rfl, rfl, ?_⟩
          have ev : decide (V.int (b' : Int) = hv (some b)) = decide (b' = b) := decide_eq_decide.mpr ⟨fun e => by injection e with e; omega, fun e => by rw [e]; rfl⟩
          rw [ev]
          by_cases e : b' = b
          · subst e
            rw [decide_eq_true rfl]
            have hin : (a, b') ∈ q := by
              clear k1 k2 A0 hb hl hm hv1
              induction q with
              | nil => cases hla
              | cons p r ih =>
                obtain ⟨x, y⟩ := p
                rw [List.lookup_cons] at hla
                cases e : a == x with
                | true => rw [e] at hla; cases hla; rw [eq_of_beq e]; exact List.mem_cons_self ..
                | false => rw [e] at hla; exact List.mem_cons_of_mem _ (ih hla)
            refine k1 q ts H ?_ A0 (Kp.refl L R U H)
            show (if a ∈ q.map (·.1) then (if (a, b') ∈ q then some q else none) else _) = _
            rw [if_pos hm, if_pos hin]
          · rw [decide_eq_false e]
            refine k2 ?_
            show (if a ∈ q.map (·.1) then (if (a, b) ∈ q then some q else none) else _) = _
            rw [if_pos hm, if_neg fun m => e (by have := lookup_mem hb.1 m; rw [hla] at this; exact Option.some.inj this)]
        | none =>
          have hm : a ∉ q.map (·.1) := lk_none.mp hla
          refine iteF ?_
          refine ⟨_, rfl, _, rfl, R, _, rfl, DGet.k (k := (Sum.inl (b : Int) : Key)) A0.r, _, rfl, ?_⟩
          rw [rk_in]
          by_cases hbm : b ∈ q.map (·.2)
          · rw [decide_eq_true hbm]
            refine iteT ?_
            refine k2 ?_
            show (if a ∈ q.map (·.1) then _ else if b ∈ q.map (·.2) then none else some (q ++ [(a, b)])) = _
            rw [if_neg hm, if_pos hbm]
          · rw [decide_eq_false hbm]
            refine iteF ?_
            have epr : pr q (some a) (some b) = some (q ++ [(a, b)]) := by
              show (if a ∈ q.map (·.1) then _ else if b ∈ q.map (·.2) then none else some (q ++ [(a, b)])) = _
              rw [if_neg hm, if_neg hbm]
            have LU : L ≠ U := ne_of A0.l A0.u (fun z => nomatch z)
            have RU : R ≠ U := ne_of A0.r A0.u (fun z => nomatch z)
            have nl : valV (lk q) (Sum.inl (a : Int) : Key) = none := by rw [lk_val, hla]; rfl
            have nr : valV (rk q) (Sum.inl (b : Int) : Key) = none := by
              have := rk_in b q
              rw [decide_eq_false hbm] at this
              exact Option.not_isSome_iff_eq_none.mp (by rw [this]; exact Bool.false_ne_true)
            refine ⟨_, rfl, _, rfl, _, rfl, _, _, rfl, DPut.k (k := (Sum.inl (a : Int) : Key)) A0.l (by unfold lk; rw [List.length_map]; exact small1000 hl), ?_⟩
            rw [putK_new _ nl]
            obtain ⟨T1, eT1⟩ : ∃ T, T = upd H L (.dK (lk q ++ [((Sum.inl (a : Int) : Key), hv (some b))])) := ⟨_, rfl⟩
            have l1 : T1 L = some (.dK (lk (q ++ [(a, b)]))) := by rw [eT1, upd_same]; unfold lk; rw [List.map_append]; rfl
            have o1 : ∀ x, x ≠ L → T1 x = H x := fun x hx => by rw [eT1]; exact upd_ne hx
            rw [← eT1]
            refine ⟨_, rfl, _, rfl, _, rfl, _, _, rfl, DPut.k (k := (Sum.inl (b : Int) : Key)) ((o1 _ A0.LR.symm).trans A0.r) (by unfold rk; rw [List.length_map]; exact small1000 hl), ?_⟩
            rw [putK_new _ nr]
            obtain ⟨T2, eT2⟩ : ∃ T, T = upd T1 R (.dK (rk q ++ [((Sum.inl (b : Int) : Key), hv (some a))])) := ⟨_, rfl⟩
            have r2 : T2 R = some (.dK (rk (q ++ [(a, b)]))) := by rw [eT2, upd_same]; unfold rk; rw [List.map_append]; rfl
            have o2 : ∀ x, x ≠ R → T2 x = T1 x := fun x hx => by rw [eT2]; exact upd_ne hx
            rw [← eT2]
            have u2 : T2 U = some (.lst (ts.map V.ref)) := (o2 _ RU.symm).trans ((o1 _ LU.symm).trans A0.u)
            refine ⟨_, rfl, .inl ⟨rfl, _, SqL.of u2⟩, ?_⟩
            refine ⟨_, rfl, _, rfl, (by show 2 ≤ sizeLine; decide), fun t ht => ?_⟩
            obtain ⟨T3, eT3⟩ : ∃ T, T = upd T2 t (.tup [hv (some a), hv (some b)]) := ⟨_, rfl⟩
            have s3 : Same T2 T3 := by rw [eT3]; exact same_new ht
            have t3 : T3 t = some (.tup [.int (a : Int), .int (b : Int)]) := by rw [eT3]; exact upd_same
            rw [← eT3]
            have u3 := s3 _ _ u2
            have tU : t ≠ U := fun e => by rw [e, u2] at ht; cases ht
            refine ⟨U, _, _, rfl, rfl, u3, by rw [List.length_map, A0.len]; exact small1000 hl, ?_⟩
            obtain ⟨T4, eT4⟩ : ∃ T, T = upd T3 U (.lst (ts.map V.ref ++ [.ref t])) := ⟨_, rfl⟩
            have o4 : ∀ x, x ≠ U → T4 x = T3 x := fun x hx => by rw [eT4]; exact upd_ne hx
            have u4 : T4 U = some (.lst ((ts ++ [t]).map V.ref)) := by rw [eT4, upd_same, List.map_append]; rfl
            rw [← eT4]
            have keep : Kp L R U H T4 := fun x o e n1 n2 n3 => (o4 x n3).trans (s3 _ _ ((o2 x n2).trans ((o1 x n1).trans e)))
            refine k1 (q ++ [(a, b)]) (ts ++ [t]) T4 epr ⟨(o4 _ LU).trans (s3 _ _ ((o2 _ A0.LR).trans l1)), (o4 _ RU).trans (s3 _ _ r2), u4, by rw [List.length_append, List.length_append, A0.len]; rfl, fun i t' p h1 h2 => ?_, A0.LR⟩ keep
            rcases Nat.lt_or_ge i ts.length with hj | hj
            · rw [List.getElem?_append_left hj] at h1
              rw [List.getElem?_append_left (by rw [← A0.len]; exact hj)] at h2
              have g := A0.at' i t' p h1 h2
              exact keep _ _ g (ne_of g A0.l (fun z => nomatch z)) (ne_of g A0.r (fun z => nomatch z)) (ne_of g A0.u (fun z => nomatch z))
            · rw [List.getElem?_append_right hj] at h1
              rw [List.getElem?_append_right (by rw [← A0.len]; exact hj), ← A0.len] at h2
              have hz : i - ts.length = 0 := by
                have := (List.getElem?_eq_some_iff.mp h1).1
                simp only [List.length_singleton] at this
                omega
              rw [hz] at h1 h2
              cases h1
              cases h2
              exact (o4 _ tU).trans t3
end
end TW
set_option Elab.async false
set_option linter.all false
set_option maxRecDepth 100000
namespace TW
open PySem PySem.Spec PyProof.Rows L2 TL
theorem eqv_wordsB : ∀ ws : List Str, PyData.eqvAll (ws.map PyData.str) (ws.map PyData.str) = true
  | [] => rfl
  | z :: r => by
    show (PyData.eqv (.str z) (.str z) && PyData.eqvAll (r.map PyData.str) (r.map PyData.str)) = true
    rw [eqv_wordsB r, Bool.and_true]
    show (z == z) = true
    exact beq_self_eq_true z
theorem depth_wordsB : ∀ ws : List Str, PyData.depthAll (ws.map PyData.str) = 0
  | [] => rfl
  | z :: r => by
    show max (PyData.depth (.str z)) (PyData.depthAll (r.map PyData.str)) = 0
    rw [depth_wordsB r]
    rfl
theorem lay_wordsB : ∀ ws : List Str, (∀ z ∈ ws, IsW z) → PyData.canLayAll0 (ws.map PyData.str) = true
  | [], _ => rfl
  | z :: r, h => by
    show (PyData.canLay0 (.str z) && PyData.canLayAll0 (r.map PyData.str)) = true
    rw [lay_wordsB r fun y hy => h y (List.mem_cons_of_mem _ hy), Bool.and_true]
    show PyData.strOk z = true
    have hz := (h z (List.mem_cons_self ..)).2.2
    unfold PyData.strOk
    rw [Array.all_eq_true_iff_forall_mem]
    intro c hc
    have := hz c (by simpa using hc)
    exact decide_eq_true (by omega)
theorem shaped_tupB {ws : List Str} (h : ∀ z ∈ ws, IsW z) : SeqAt.shaped (.tuple (ws.map PyData.str)) = true := by
  unfold SeqAt.shaped
  have e1 : PyData.canLay0 (.tuple (ws.map PyData.str)) = true := lay_wordsB ws h
  have e2 : PyData.depth (.tuple (ws.map PyData.str)) = 1 := by
    show PyData.depthAll (ws.map PyData.str) + 1 = 1
    rw [depth_wordsB]
  rw [e1, e2]
  rfl
theorem dp_wordsB {K : PySem.W.Frag} {H : Hp} : ∀ ws : List Str, DpAll K H (ws.map V.str) (ws.map PyData.str)
  | [] => .nil
  | z :: r => .cons (.str z) (dp_wordsB r)
theorem shaped_lstB {ws : List Str} (h : ∀ z ∈ ws, IsW z) : SeqAt.shaped (.list (ws.map PyData.str)) = true := by
  unfold SeqAt.shaped
  have e1 : PyData.canLay0 (.list (ws.map PyData.str)) = true := lay_wordsB ws h
  have e2 : PyData.depth (.list (ws.map PyData.str)) = 1 := by
    show PyData.depthAll (ws.map PyData.str) + 1 = 1
    rw [depth_wordsB]
  rw [e1, e2]
  rfl
theorem for_keys {d : Addr} {o : Obj} {kvs : List (Key × V)} {g : TG} {tb : TS} {D : Ends} {σ : St'} {H : Hp} (Pv : Nat → St' → Hp → Prop) (h0 : Pv 0 σ H) (hl : ∀ i σ H, Pv i σ H → H d = some (.frz o (.dK kvs)))
    (hs : ∀ i kv σ H, kvs[i]? = some kv → Pv i σ H → g (kV kv.1) σ H fun σ2 H2 => tb { D with nx := Pv (i + 1), ct := Pv (i + 1), bk := D.nx } σ2 H2) (hd : ∀ σ H, Pv kvs.length σ H → D.nx σ H) :
    ∃ W : Nat → Nat → St' → Hp → Prop, (∃ m, W 0 m σ H) ∧ ∀ i m σ H, W i m σ H →
      ((Itk d o kvs).stop i H ∧ D.nx σ H) ∨ ((Itk d o kvs).go i H ∧ ∃ N : St' → Hp → Prop, (∀ σ' H', N σ' H' → ∃ m', m' < m ∧ W (i + 1) m' σ' H') ∧ ∀ x H', (Itk d o kvs).yld i H x H' → g x σ H' fun σ2 H2 => tb { D with nx := N, ct := N, bk := D.nx } σ2 H2) := by
  refine ⟨fun i m σ H => m = kvs.length - i ∧ i ≤ kvs.length ∧ Pv i σ H, ⟨kvs.length, by simp, Nat.zero_le _, h0⟩, ?_⟩
  rintro i m σ H ⟨rfl, hi, p⟩
  have q := hl i σ H p
  by_cases hlt : i < kvs.length
  · refine .inr ⟨⟨q, hlt⟩, Pv (i + 1), fun σ' H' p' => ⟨kvs.length - (i + 1), by omega, rfl, hlt, p'⟩, fun x H' hy => ?_⟩
    obtain ⟨rfl, k, v, hk, rfl⟩ := hy
    exact hs i (k, v) σ _ hk p
  · have e : i = kvs.length := by omega
    subst e
    exact .inl ⟨⟨q, Nat.le_refl _⟩, hd σ H p⟩
theorem srt_keys {K : PySem.W.Frag} {i j : Nat} {σ : St'} {H : Hp} {a : Addr} {l : Ob} {Q : VK} (hσ : σ[i]? = some (some (.ref a))) (hj : ∀ x, wipe ((wipe σ [j]).set j (some x)) [j] = wipe σ [j]) (hj2 : ∀ x, ((wipe σ [j]).set j (some x))[j]? = some (some x)) (hN1 : H a = some (.dK (dk l))) (l6 : l.length ≤ 6)
    (k : ∀ (p : Addr) (ys : List Str) (H' : Hp), Same H H' → H p = none → H' p = some (.lst (ys.map V.str)) → Srt l ys → Q (.ref p) H') : tCB (rSortedS K) (tCons (tLockE (tLc (iKeys (tVar i)) (gName j) tYes (tVar j) [j])) tNil) σ H Q := by
  refine ⟨a, .dK (dk l), hN1, trivial, fun od => ?_⟩
  refine ⟨_, hσ, a, od, rfl, .inl ⟨dk l, upd_same, fun D hD => ?_⟩⟩
  have ND : a ≠ D := fun e => by rw [← e, upd_same] at hD; cases hD
  have hD1 : H D = none := by rw [upd_ne ND.symm] at hD; exact hD
  refine lc_keys (d := a) (o := od) (kvs := dk l) (fun i H2 => Same (upd H a (.frz od (.dK (dk l)))) H2 ∧ H2 D = some (.lst (((l.map (·.1)).take i).map V.str))) ⟨same_new hD, upd_same⟩ (fun i H2 h => h.1 _ _ upd_same) ?_ ?_
  · rintro i kk vv H2 hkk ⟨s2, h2⟩
    obtain ⟨n0, v0, hn0, rfl, rfl⟩ := dk_get hkk
    have hg : (l.map (·.1))[i]? = some n0 := by rw [List.getElem?_map, hn0]; rfl
    refine ⟨hj _, yes_of ⟨_, hj2 _, _, h2, ?_, same_wr s2 hD, ?_⟩⟩
    · rw [List.length_map, List.length_take, List.length_map]
      exact small1000 (by omega)
    · rw [upd_same, take_next' hg, List.map_append]
      rfl
  · rintro H2 ⟨s2, h2⟩
    have hfull : (l.map (·.1)).take (dk l).length = l.map (·.1) := List.take_of_length_le (by rw [List.length_map, dk_len]; exact Nat.le_refl _)
    rw [hfull] at h2
    refine ⟨s2 _ _ upd_same, ?_⟩
    have S2 : Same H (upd H2 a (.dK (dk l))) := same_unlock hN1 s2
    have h2' : (upd H2 a (.dK (dk l))) D = some (.lst ((l.map (·.1)).map V.str)) := (upd_ne ND.symm).trans h2
    refine ⟨D, _, rfl, SqL.of h2', by rw [List.length_map]; omega, fun ys p perm so hp => ?_⟩
    exact k p ys _ (S2.trans (same_new hp)) (S2.free hp) upd_same ⟨perm, so⟩
theorem eqv_words_dec : ∀ ws vs : List Str, PyData.eqvAll (ws.map PyData.str) (vs.map PyData.str) = decide (ws = vs)
  | [], [] => rfl
  | [], _ :: _ => rfl
  | _ :: _, [] => rfl
  | x :: ws, y :: vs => by
    show (PyData.eqv (.str x) (.str y) && PyData.eqvAll (ws.map PyData.str) (vs.map PyData.str)) = _
    rw [eqv_words_dec ws vs]
    have e : PyData.eqv (.str x) (.str y) = decide (x = y) := by
      show (x == y) = _
      by_cases h : x = y
      · subst h; rw [decide_eq_true rfl]; exact beq_self_eq_true x
      · rw [decide_eq_false h]; exact beq_eq_false_iff_ne.mpr h
    rw [e]
    by_cases h : x = y
    · subst h
      by_cases h2 : ws = vs
      · subst h2; simp
      · rw [decide_eq_false h2, decide_eq_false (fun e => h2 (List.cons.inj e).2)]; simp
    · rw [decide_eq_false h, decide_eq_false (fun e => h (List.cons.inj e).1)]; simp
end TW
set_option Elab.async false
set_option linter.all false
set_option maxRecDepth 100000
namespace TW
open PySem PySem.Spec PyProof.Rows L2 TL
theorem prsF_app : ∀ (xs ys : List (Option Nat × Option Nat)) (q : List (Nat × Nat)), prsF (xs ++ ys) q = (prsF xs q).bind (prsF ys)
  | [], ys, q => rfl
  | (a, b) :: xs, ys, q => by
    show (pr q a b).bind (prsF (xs ++ ys)) = ((pr q a b).bind (prsF xs)).bind (prsF ys)
    cases pr q a b with
    | none => rfl
    | some q1 => exact prsF_app xs ys q1
theorem prsF_next {ps : List (Option Nat × Option Nat)} {q0 q : List (Nat × Nat)} {i : Nat} {p : Option Nat × Option Nat} (h : prsF (ps.take i) q0 = some q) (hp : ps[i]? = some p) : prsF (ps.take (i + 1)) q0 = pr q p.1 p.2 := by
  rw [take_next' hp, prsF_app, h]
  show (pr q p.1 p.2).bind (prsF []) = _
  cases pr q p.1 p.2 <;> rfl
theorem prsF_bad {ps : List (Option Nat × Option Nat)} {q0 : List (Nat × Nat)} {i : Nat} (h : prsF (ps.take i) q0 = none) : prsF ps q0 = none := by
  have := prsF_app (ps.take i) (ps.drop i) q0
  rw [List.take_append_drop, h] at this
  exact this
def spAlike (K : PySem.W.Frag) : Sp := fun vs H Q _ => ∃ (aF a1 a2 n1 n2 : Addr) (fs : List Str) (d1 d2 : List Addr) (os1 os2 : List Ob) (l1 l2 : Ob), vs = [.ref aF, .ref a1, .ref a2, .ref n1, .ref n2] ∧ H aF = some (.lst (fs.map V.str)) ∧ ObjsAt H a1 d1 fs os1.length os1 ∧ ObjsAt H a2 d2 fs os2.length os2 ∧
  H n1 = some (.dK (dk l1)) ∧ H n2 = some (.dK (dk l2)) ∧ n1 ≠ n2 ∧ Good fs os1 l1 ∧ Good fs os2 l2 ∧
  (∀ H', Same H H' → (∃ ys, Srt l1 ys ∧ Srt l2 ys) → (∃ i q, wk os1 os2 fs (prsF (nmp l1 l2) []) i = some q ∧ q.length ≤ i) → Q (.bl true) H') ∧
  (∀ H', Same H H' → ((¬ ∃ ys, Srt l1 ys ∧ Srt l2 ys) ∨ ∃ i, wk os1 os2 fs (prsF (nmp l1 l2) []) i = none) → Q (.bl false) H')
theorem QAt.upd {H : Hp} {L R U n : Addr} {ts : List Addr} {q : List (Nat × Nat)} {o u : HO} (A : QAt H L R U ts q) (h : H n = some o) (hn : n ≠ L ∧ n ≠ R ∧ n ≠ U) (ht : ∀ t ∈ ts, t ≠ n) : QAt (upd H n u) L R U ts q :=
  ⟨(upd_ne hn.1.symm).trans A.l, (upd_ne hn.2.1.symm).trans A.r, (upd_ne hn.2.2.symm).trans A.u, A.len, fun i t p h1 h2 => (upd_ne (ht t (List.mem_of_getElem? h1))).trans (A.at' i t p h1 h2), A.LR⟩
abbrev S_law_alike : Stmt := topS 34
abbrev N_law_alike : List Str := ["_law_fields", "_law_one", "_law_two", "_law_names_here", "_law_others", "_law_name", "_law_left", "_law_right", "_law_queue", "_law_done", "_law_pair_here", "_law_field"]
abbrev P_law_alike : List Str := ["_law_fields", "_law_one", "_law_two", "_law_names_here", "_law_others"]
theorem sc_law_alike : FnScope N_law_alike P_law_alike (defScope S_law_alike) := ⟨rfl, rfl, rfl, by decide +kernel, rfl, by decide +kernel, by decide +kernel⟩
section
variable {P : Program} {w : World} {K : PySem.W.Frag} {mg : Str → Option Value} {base : Heap}
set_option maxHeartbeats 8000000 in
theorem ok_alike {f fP : Addr} {fd fdP : FuncData} (F : Fun K "_law_alike" "_law_alike" S_law_alike f fd) (B : Bl mg) (d_law_pair : Df K mg "_law_pair" S_law_pair fP fdP P_law_pair) (G_law_pair : FnOk P w K mg base CX0 1 fP fdP P_law_pair spPair) : FnOk P w K mg base CX0 2 f fd P_law_alike (spAlike K) := by
  refine F.ok sc_law_alike (fun vs H Q E h => ?_) (fun cdv A outer s H vs Q E hr h => ?_)
  · obtain ⟨aF, a1, a2, n1, n2, fs, d1, d2, os1, os2, l1, l2, rfl, _⟩ := h
    rfl
  · obtain ⟨aF, a1, a2, n1, n2, fs, d1, d2, os1, os2, l1, l2, rfl, hF, O1, O2, N1, N2, nn, G1, G2, kt, kf⟩ := h
    have hr_law_pair : Room 1 _ := hr.mono (Nat.le_refl 1)
    have hu := hu_of hr
    have hu64 : (A.deeper (envOfC "_law_alike" (defScope S_law_alike) s.heap.objs.size f cdv)).units + 64 < cLine := by have := hr.un; omega
    refine ⟨_, (pss_cons (ps_cut (ps_if (pt_cmpR (op_neD hu64) (pe_callB cr_sortedS (by rfl) B.m_sorted (by decide +kernel) (pa_cons (pe_lock (pe_lc (own := [("_law_name", 5)]) (g := gName 5) (tt := tYes) rfl sc_law_alike.nd (pi_keys (pv 3)) (blkOk_by (own := [("_law_name", 5)]) (N := N_law_alike) (sc := defScope S_law_alike) (by decide +kernel)) (fun _ _ _ _ _ => (pg_name (i := 5) sc_law_alike.nd rfl (by first | exact Or.inl rfl | exact Or.inr rfl))) (fun _ _ _ _ _ => pts_nil) (fun _ _ _ _ _ => (pv 5)))) pa_nil)) (pe_callB cr_sortedS (by rfl) B.m_sorted (by decide +kernel) (pa_cons (pe_lock (pe_lc (own := [("_law_name", 5)]) (g := gName 5) (tt := tYes) rfl sc_law_alike.nd (pi_keys (pv 4)) (blkOk_by (own := [("_law_name", 5)]) (N := N_law_alike) (sc := defScope S_law_alike) (by decide +kernel)) (fun _ _ _ _ _ => (pg_name (i := 5) sc_law_alike.nd rfl (by first | exact Or.inl rfl | exact Or.inr rfl))) (fun _ _ _ _ _ => pts_nil) (fun _ _ _ _ _ => (pv 5)))) pa_nil)) (nomark _)) (pss_one (ps_ret pe_bl)) pss_nil))
 (pss_cons (ps_set (i := 6) sc_law_alike.nd rfl (by first | exact Or.inl rfl | exact Or.inr rfl) pe_dnewK)
 (pss_cons (ps_set (i := 7) sc_law_alike.nd rfl (by first | exact Or.inl rfl | exact Or.inr rfl) pe_dnewK)
 (pss_cons (ps_set (i := 8) sc_law_alike.nd rfl (by first | exact Or.inl rfl | exact Or.inr rfl) (pe_lst pa_nil))
 (pss_cons (ps_cut (ps_lock (ps_for PassesOwn.never rfl (pi_keys (pv 3)) (pg_name (i := 5) sc_law_alike.nd rfl (by first | exact Or.inl rfl | exact Or.inr rfl)) (pss_one (ps_if (pt_not (pt_val (pe_call G_law_pair hr_law_pair rfl d_law_pair.g d_law_pair.F.kp d_law_pair.b .nil pass0 (pa_cons (pv 6) (pa_cons (pv 7) (pa_cons (pv 8) (pa_cons (pe_dget hu (pv 3) (pv 5) (fun _ _ => rfl)) (pa_cons (pe_dget hu (pv 4) (pv 5) (fun _ _ => rfl)) pa_nil)))))))) (pss_one (ps_ret pe_bl)) pss_nil)))))
 (pss_cons (ps_set (i := 9) sc_law_alike.nd rfl (by first | exact Or.inl rfl | exact Or.inr rfl) pe_int)
 (pss_cons (ps_while PassesOwn.never (pt_cmpR op_lt (pv 9) (pe_callB call_len_seq (by rfl) B.m_len PySem.boot_len (pa_cons (pv 8) pa_nil)) (nomark _)) (pss_cons (ps_set (i := 10) sc_law_alike.nd rfl (by first | exact Or.inl rfl | exact Or.inr rfl) (pe_ix ix_list (pv 8) (pv 9) (fun _ _ => rfl)))
 (pss_cons (ps_for PassesOwn.never rfl (pi_list (pv 0)) (pg_name (i := 11) sc_law_alike.nd rfl (by first | exact Or.inl rfl | exact Or.inr rfl)) (pss_one (ps_if (pt_not (pt_val (pe_call G_law_pair hr_law_pair rfl d_law_pair.g d_law_pair.F.kp d_law_pair.b .nil pass0 (pa_cons (pv 6) (pa_cons (pv 7) (pa_cons (pv 8) (pa_cons (pe_dget hu (pe_ix ix_list (pv 1) (pe_ix ix_tup (pv 10) pe_int (fun _ _ => rfl)) (fun _ _ => rfl)) (pv 11) (fun _ _ => rfl)) (pa_cons (pe_dget hu (pe_ix ix_list (pv 2) (pe_ix ix_tup (pv 10) pe_int (fun _ _ => rfl)) (fun _ _ => rfl)) (pv 11) (fun _ _ => rfl)) pa_nil)))))))) (pss_one (ps_ret pe_bl)) pss_nil)))
 (pss_one (ps_set (i := 9) sc_law_alike.nd rfl (by first | exact Or.inl rfl | exact Or.inr rfl) (pe_op op_add (pv 9) pe_int))))))
 (pss_one (ps_ret pe_bl))))))))), ?_⟩
    -- the names
    refine ⟨fun σ H' => ∃ z5 : Option V, σ = [some (.ref aF), some (.ref a1), some (.ref a2), some (.ref n1), some (.ref n2), z5, none, none, none, none, none, none] ∧ Same H H' ∧ ∃ ys, Srt l1 ys ∧ Srt l2 ys, ?_, ?_⟩
    · refine srt_keys rfl (fun x => rfl) (fun x => rfl) N1 G1.l6 fun p1 ys1 H5 s5 hp1 g1 srt1 => ?_
      refine srt_keys rfl (fun x => rfl) (fun x => rfl) (s5 _ _ N2) G2.l6 fun p2 ys2 H6 s6 hp2 g2 srt2 => ?_
      have w1 : ∀ z ∈ ys1, IsW z := fun z hz => G1.lw z (srt1.1.mem_iff.mp hz)
      have w2 : ∀ z ∈ ys2, IsW z := fun z hz => G2.lw z (srt2.1.mem_iff.mp hz)
      refine ⟨_, _, .lst (SqL.of (s6 _ _ g1)) (dp_wordsB ys1), .lst (SqL.of g2) (dp_wordsB ys2), shaped_lstB w1, shaped_lstB w2, _, rfl, ?_⟩
      have ee : PyData.eqv (.list (ys1.map PyData.str)) (.list (ys2.map PyData.str)) = decide (ys1 = ys2) := eqv_words_dec ys1 ys2
      rw [ee]
      by_cases e : ys1 = ys2
      · subst e
        rw [decide_eq_true rfl]
        exact iteF ⟨_, rfl, s5.trans s6, ys1, srt1, srt2⟩
      · rw [decide_eq_false e]
        refine iteT ?_
        refine kf _ (s5.trans s6) (.inl ?_)
        rintro ⟨ys, t1, t2⟩
        exact e ((srt1.uniq t1 rfl).trans (srt2.uniq t2 rfl).symm)
    rintro σ Ha ⟨z5, rfl, sa, ks⟩
    -- left, right, queue
    intro L hL
    obtain ⟨T1, eT1⟩ : ∃ T, T = upd Ha L (.dK ([] : List (Key × V))) := ⟨_, rfl⟩
    have t1 : Same Ha T1 := by rw [eT1]; exact same_new hL
    have l1' : T1 L = some (.dK (lk [])) := by rw [eT1]; exact upd_same
    rw [← eT1]
    intro R hR
    obtain ⟨T2, eT2⟩ : ∃ T, T = upd T1 R (.dK ([] : List (Key × V))) := ⟨_, rfl⟩
    have t2 : Same T1 T2 := by rw [eT2]; exact same_new hR
    have r2' : T2 R = some (.dK (rk [])) := by rw [eT2]; exact upd_same
    rw [← eT2]
    refine ⟨Nat.zero_le _, fun U hU => ?_⟩
    obtain ⟨T3, eT3⟩ : ∃ T, T = upd T2 U (.lst ([] : List V)) := ⟨_, rfl⟩
    have t3 : Same T2 T3 := by rw [eT3]; exact same_new hU
    have u3' : T3 U = some (.lst (([] : List Addr).map V.ref)) := by rw [eT3]; exact upd_same
    rw [← eT3]
    have LR : L ≠ R := ne_of_none l1' hR
    have LU : L ≠ U := ne_of_none (t2 _ _ l1') hU
    have RU : R ≠ U := ne_of_none r2' hU
    have Q0 : QAt T3 L R U [] [] := ⟨t3 _ _ (t2 _ _ l1'), t3 _ _ r2', u3', rfl, fun i t p h => by simp at h, LR⟩
    have s03 : Same H T3 := ((sa.trans t1).trans t2).trans t3
    have fL : H L = none := sa.free hL
    have fR : H R = none := (sa.trans t1).free hR
    have fU : H U = none := ((sa.trans t1).trans t2).free hU
    have keepS : ∀ {H1 H2 : Hp}, Same H H1 → Kp L R U H1 H2 → Same H H2 := fun {H1 H2} s k b o e => k b o (s b o e) (ne_of_none e fL) (ne_of_none e fR) (ne_of_none e fU)
    have bnd : ∀ {q : List (Nat × Nat)}, Bij q → (∀ p ∈ q, p.1 < os1.length ∧ p.2 < os2.length) → q.length ≤ 1000 := fun {q} hb hq => by
      have := nd_len hb.1 fun k hk => by
        obtain ⟨p, hp, rfl⟩ := List.mem_map.mp hk
        exact (hq p hp).1
      rw [List.length_map] at this
      have := G1.o2
      omega
    refine ⟨fun σ H' => ∃ (z5 : Option V) (ts : List Addr) (q : List (Nat × Nat)), σ = [some (.ref aF), some (.ref a1), some (.ref a2), some (.ref n1), some (.ref n2), z5, some (.ref L), some (.ref R), some (.ref U), none, none, none] ∧ Same H H' ∧ QAt H' L R U ts q ∧ prsF (nmp l1 l2) [] = some q ∧ (∀ p ∈ q, p.1 < os1.length ∧ p.2 < os2.length), ?_, ?_⟩
    · have N13 := s03 _ _ N1
      refine ⟨n1, _, N13, trivial, fun od => ?_⟩
      have nL : n1 ≠ L := ne_of_none N1 fL
      have nR : n1 ≠ R := ne_of_none N1 fR
      have nU : n1 ≠ U := ne_of_none N1 fU
      obtain ⟨T4, eT4⟩ : ∃ T, T = upd T3 n1 (.frz od (.dK (dk l1))) := ⟨_, rfl⟩
      have n14 : T4 n1 = some (.frz od (.dK (dk l1))) := by rw [eT4]; exact upd_same
      have o4 : ∀ x, x ≠ n1 → T4 x = T3 x := fun x hx => by rw [eT4]; exact upd_ne hx
      rw [← eT4]
      obtain ⟨Z, eZ⟩ : ∃ Z, Z = res [L, R, U] T4 := ⟨_, rfl⟩
      have out : ∀ {b : Addr}, b ≠ L → b ≠ R → b ≠ U → b ∉ [L, R, U] := fun {b} x y z m => by
        simp only [List.mem_cons, List.not_mem_nil, or_false] at m
        rcases m with m | m | m
        · exact x m
        · exact y m
        · exact z m
      have Z1 : Z n1 = some (.frz od (.dK (dk l1))) := by rw [eZ]; exact res_some n14 (out nL nR nU)
      have Zo : ∀ {b : Addr} {o : HO}, H b = some o → b ≠ n1 → Z b = some o := fun {b o} e nb => by
        rw [eZ]
        exact res_some ((o4 b nb).trans (s03 _ _ e)) (out (ne_of_none e fL) (ne_of_none e fR) (ne_of_none e fU))
      have Zn : Z L = none ∧ Z R = none ∧ Z U = none := by
        rw [eZ]
        exact ⟨res_none (by simp), res_none (by simp), res_none (by simp)⟩
      have Z4 : Same Z T4 := by rw [eZ]; exact res_same
      have keepZ : ∀ {H1 H2 : Hp}, Same Z H1 → Kp L R U H1 H2 → Same Z H2 := fun {H1 H2} s k b o e => k b o (s b o e) (ne_of_none e Zn.1) (ne_of_none e Zn.2.1) (ne_of_none e Zn.2.2)
      have unl : ∀ {H' : Hp}, Same Z H' → Same H (upd H' n1 (.dK (dk l1))) := fun {H'} s b o e => by
        by_cases hb : b = n1
        · subst hb
          rw [N1] at e
          cases e
          exact upd_same
        · exact (upd_ne hb).trans (s _ _ (Zo e hb))
      have Q4 : QAt T4 L R U [] [] := by rw [eT4]; exact Q0.upd N13 ⟨nL, nR, nU⟩ fun t ht => nomatch ht
      refine ⟨_, rfl, n1, od, rfl, .inl ⟨_, n14, for_keys (d := n1) (o := od) (kvs := dk l1) (fun i σ H' => ∃ (z5 : Option V) (ts : List Addr) (q : List (Nat × Nat)), σ = [some (.ref aF), some (.ref a1), some (.ref a2), some (.ref n1), some (.ref n2), z5, some (.ref L), some (.ref R), some (.ref U), none, none, none] ∧ Same Z H' ∧ QAt H' L R U ts q ∧ prsF ((nmp l1 l2).take i) [] = some q ∧ Bij q ∧ (∀ p ∈ q, p.1 < os1.length ∧ p.2 < os2.length))
        ⟨_, [], [], rfl, Z4, Q4, rfl, ⟨List.nodup_nil, List.nodup_nil⟩, fun p hp => nomatch hp⟩ (fun i σ H' ⟨_, _, _, _, s, _⟩ => s _ _ Z1) ?_ ?_⟩⟩
      · rintro i ⟨key, v⟩ σ H' hk ⟨z5, ts, q, rfl, s', A', eq, hb, bq⟩
        obtain ⟨n0, v0, hn0, ek, ev⟩ := dk_get hk
        subst ek
        subst ev
        have hm : n0 ∈ l1.map (·.1) := List.mem_map.mpr ⟨_, List.mem_of_getElem? hn0, rfl⟩
        obtain ⟨ys, k1, k2⟩ := ks
        have hm2 : n0 ∈ l2.map (·.1) := k2.1.mem_iff.mp (k1.1.mem_iff.mpr hm)
        have e1 : nmv l1 n0 = v0 := nmv_at G1.ln hn0
        have gd1 : DGet H' n1 (kV (Sum.inr n0 : Key)) (some (hv v0)) := .inl ⟨dk l1, (Sum.inr n0 : Key), .inr ⟨od, s' _ _ Z1⟩, rfl, by rw [nmv_val hm, e1]⟩
        have hp : (nmp l1 l2)[i]? = some (v0, nmv l2 n0) := by unfold nmp; rw [List.getElem?_map, hn0]; rfl
        have nx := prsF_next eq hp
        have gd2 := dget_dk (k := (Sum.inr n0 : Key)) (s' _ _ (Zo N2 nn.symm)) (nmv_val hm2)
        refine ⟨_, rfl, _, rfl, _, rfl, _, rfl, _, rfl, n1, hv v0, rfl, gd1, _, rfl, _, rfl, n2, hv (nmv l2 n0), rfl, gd2, L, R, U, ts, q, v0, nmv l2 n0, rfl, A', hb, bnd hb bq, fun q' ts' H2 epr A2 kp => ⟨_, rfl, iteF ?_⟩, fun epr => ⟨_, rfl, iteT ?_⟩⟩
        · refine ⟨_, ts', q', rfl, keepZ s' kp, A2, by rw [nx]; exact epr, pr_bij epr hb, pr_in epr bq fun x y ex ey => ?_⟩
          have b1 : okv os1.length v0 := G1.lk _ (List.mem_of_getElem? hn0)
          have b2 : okv os2.length (nmv l2 n0) := okv_look G2.lk n0
          rw [ex] at b1
          rw [ey] at b2
          exact ⟨b1, b2⟩
        · exact ⟨s' _ _ Z1, kf _ (unl s') (.inr ⟨0, prsF_bad (i := i + 1) (nx.trans epr)⟩)⟩
      · rintro σ H' ⟨z5, ts, q, rfl, s', A', eq, hb, bq⟩
        have efull : (nmp l1 l2).take (dk l1).length = nmp l1 l2 := List.take_of_length_le (by unfold nmp; rw [List.length_map, dk_len]; exact Nat.le_refl _)
        rw [efull] at eq
        have g1 := s' _ _ Z1
        refine ⟨g1, _, ts, q, rfl, unl s', A'.upd g1 ⟨nL, nR, nU⟩ fun t ht e => ?_, eq, bq⟩
        obtain ⟨i, hi, e'⟩ := List.getElem_of_mem ht
        have hi2 : i < q.length := by rw [← A'.len]; exact hi
        have := A'.at' i t q[i] (by rw [List.getElem?_eq_getElem hi, e']) (List.getElem?_eq_getElem hi2)
        rw [e, g1] at this
        cases this
    rintro σ Hm ⟨z5, ts, q, rfl, sm, Qm, eq, bq⟩
    have hb0 : Bij q := prsF_bij (q := []) eq ⟨List.nodup_nil, List.nodup_nil⟩
    refine ⟨fun m σ H' => ∃ (i : Nat) (z5 z10 z11 : Option V) (ts : List Addr) (q : List (Nat × Nat)), σ = [some (.ref aF), some (.ref a1), some (.ref a2), some (.ref n1), some (.ref n2), z5, some (.ref L), some (.ref R), some (.ref U), some (.int (i : Int)), z10, z11] ∧ Same H H' ∧ QAt H' L R U ts q ∧ wk os1 os2 fs (prsF (nmp l1 l2) []) i = some q ∧ Bij q ∧ (∀ p ∈ q, p.1 < os1.length ∧ p.2 < os2.length) ∧ m = 1000 - i,
      ⟨_, 0, _, _, _, ts, q, rfl, sm, Qm, eq, hb0, bq, rfl⟩, ?_⟩
    rintro m σ H' ⟨i, z5, z10, z11, ts, q, rfl, s', A', ew, hb, bq, rfl⟩
    have lq := bnd hb bq
    have tl : (ts.map V.ref).length = q.length := by rw [List.length_map, A'.len]
    refine ⟨_, rfl, _, rfl, U, _, rfl, .inl (SqL.of A'.u), _, _, rfl, rfl, _, rfl, ?_⟩
    refine ite_dec (fun hc => ?_) (fun hc => ?_)
    · have hlt : i < q.length := by
        have := of_decide_eq_true hc
        omega
      obtain ⟨pp, hpp⟩ : ∃ pp, q[i]? = some pp := ⟨_, List.getElem?_eq_getElem hlt⟩
      have htl : i < ts.length := by rw [A'.len]; exact hlt
      have htt : ts[i]? = some ts[i] := List.getElem?_eq_getElem htl
      have gt := A'.at' i _ _ htt hpp
      obtain ⟨b1, b2⟩ := bq _ (List.mem_of_getElem? hpp)
      refine ⟨fun σ' H' => ∃ m' : Nat, m' < 1000 - i ∧ ∃ (i : Nat) (z5 z10 z11 : Option V) (ts : List Addr) (q : List (Nat × Nat)), σ' = [some (.ref aF), some (.ref a1), some (.ref a2), some (.ref n1), some (.ref n2), z5, some (.ref L), some (.ref R), some (.ref U), some (.int (i : Int)), z10, z11] ∧ Same H H' ∧ QAt H' L R U ts q ∧ wk os1 os2 fs (prsF (nmp l1 l2) []) i = some q ∧ Bij q ∧ (∀ p ∈ q, p.1 < os1.length ∧ p.2 < os2.length) ∧ m' = 1000 - i, fun σ' H' h => h, ?_⟩
      refine ⟨_, rfl, _, rfl, U, _, _, _, rfl, rfl, SqL.of A'.u, atI_nat (j := i) (by rw [List.getElem?_map, htt]; rfl), ?_⟩
      have fdl : (fdp os1 os2 fs pp.1 pp.2).length = fs.length := by unfold fdp; rw [List.length_map]
      refine ⟨_, rfl, aF, rfl, ⟨_, SqL.of (s' _ _ hF)⟩, for_list (xs := fs.map V.str) (fun j σ H4 => ∃ (z11 : Option V) (ts' : List Addr) (q' : List (Nat × Nat)), σ = [some (.ref aF), some (.ref a1), some (.ref a2), some (.ref n1), some (.ref n2), z5, some (.ref L), some (.ref R), some (.ref U), some (.int (i : Int)), some (.ref ts[i]), z11] ∧ Same H H4 ∧ QAt H4 L R U ts' q' ∧ H4 ts[i] = some (.tup [.int (pp.1 : Int), .int (pp.2 : Int)]) ∧ prsF ((fdp os1 os2 fs pp.1 pp.2).take j) q = some q' ∧ Bij q' ∧ (∀ p ∈ q', p.1 < os1.length ∧ p.2 < os2.length)) ⟨_, ts, q, rfl, s', A', gt, rfl, hb, bq⟩ ?_ ?_ ?_⟩
      · rintro j σ H4 hj ⟨_, _, _, _, s4, _⟩
        exact SqL.of (s4 _ _ hF)
      · rintro j x σ H4 hx ⟨z11, ts', q', rfl, s4, A4, gt4, eq4, hb4, bq4⟩
        obtain ⟨f0, hf0, rfl⟩ := get_str hx
        have hfm := List.mem_of_getElem? hf0
        have ho1 : os1[pp.1]? = some os1[pp.1] := List.getElem?_eq_getElem b1
        have ho2 : os2[pp.2]? = some os2[pp.2] := List.getElem?_eq_getElem b2
        have hd1 : pp.1 < d1.length := by rw [O1.len]; exact b1
        have hd2 : pp.2 < d2.length := by rw [O2.len]; exact b2
        have hk1 : d1[pp.1]? = some d1[pp.1] := List.getElem?_eq_getElem hd1
        have hk2 : d2[pp.2]? = some d2[pp.2] := List.getElem?_eq_getElem hd2
        have hf1 : f0 ∈ (os1[pp.1]).map (·.1) := (O1.ks _ (List.getElem_mem b1)).mem_iff.mpr hfm
        have hf2 : f0 ∈ (os2[pp.2]).map (·.1) := (O2.ks _ (List.getElem_mem b2)).mem_iff.mpr hfm
        have P1 := O1.same s4
        have P2 := O2.same s4
        have hp : (fdp os1 os2 fs pp.1 pp.2)[j]? = some (fld os1 pp.1 f0, fld os2 pp.2 f0) := by unfold fdp; rw [List.getElem?_map, hf0]; rfl
        have nx := prsF_next eq4 hp
        refine ⟨_, rfl, _, rfl, _, rfl, _, rfl, _, rfl, ts[i], _, _, _, rfl, rfl, SqT.of gt4, atI_nat (j := 0) rfl, a1, _, _, _, rfl, rfl, SqL.of P1.ls, atI_nat (j := pp.1) (by rw [List.getElem?_map, hk1]; rfl), _, rfl, d1[pp.1], hv (fld os1 pp.1 f0), rfl, dget_dk (k := (Sum.inr f0 : Key)) (P1.at' pp.1 _ _ hk1 ho1) (fld_val ho1 hf1), ?_⟩
        refine ⟨_, rfl, _, rfl, ts[i], _, _, _, rfl, rfl, SqT.of gt4, atI_nat (j := 1) rfl, a2, _, _, _, rfl, rfl, SqL.of P2.ls, atI_nat (j := pp.2) (by rw [List.getElem?_map, hk2]; rfl), _, rfl, d2[pp.2], hv (fld os2 pp.2 f0), rfl, dget_dk (k := (Sum.inr f0 : Key)) (P2.at' pp.2 _ _ hk2 ho2) (fld_val ho2 hf2), ?_⟩
        refine ⟨L, R, U, ts', q', fld os1 pp.1 f0, fld os2 pp.2 f0, rfl, A4, hb4, bnd hb4 bq4, fun q2 ts2 H5 epr A5 kp => ⟨_, rfl, iteF ?_⟩, fun epr => ⟨_, rfl, iteT ?_⟩⟩
        · have gL := ne_of gt4 A4.l (fun z => nomatch z)
          have gR := ne_of gt4 A4.r (fun z => nomatch z)
          have gU := ne_of gt4 A4.u (fun z => nomatch z)
          refine ⟨_, ts2, q2, rfl, keepS s4 kp, A5, kp _ _ gt4 gL gR gU, by rw [nx]; exact epr, pr_bij epr hb4, pr_in epr bq4 fun x y ex ey => ?_⟩
          have c1 := okv_fld O1.ok pp.1 f0
          have c2 := okv_fld O2.ok pp.2 f0
          rw [ex] at c1
          rw [ey] at c2
          exact ⟨c1, c2⟩
        · exact kf _ s4 (.inr ⟨i + 1, by rw [wk_some ew hpp]; exact prsF_bad (i := j + 1) (nx.trans epr)⟩)
      · rintro σ H4 ⟨z11, ts', q', rfl, s4, A4, gt4, eq4, hb4, bq4⟩
        have efull : (fdp os1 os2 fs pp.1 pp.2).take (fs.map V.str).length = fdp os1 os2 fs pp.1 pp.2 := List.take_of_length_le (by rw [fdl, List.length_map]; exact Nat.le_refl _)
        rw [efull] at eq4
        refine ⟨_, rfl, _, _, rfl, rfl, _, ?_, i + 1, _, _, _, ts', q', rfl, s4, A4, by rw [wk_some ew hpp]; exact eq4, hb4, bq4, rfl⟩
        omega
    · have hge : q.length ≤ i := by
        have := of_decide_eq_false hc
        omega
      exact kt H' s' ks ⟨i, q, ew, hge⟩
end
end TW
set_option Elab.async false
set_option linter.all false
set_option maxRecDepth 100000
namespace TW
open PySem PySem.Spec PyProof.Rows L2 TL
def ivs (ms : List Nat) : List V := ms.map fun k : Nat => V.int (k : Int)
theorem ivs_len (d : List Nat) : (ivs d).length = d.length := List.length_map ..
theorem ivs_get {d : List Nat} {i k : Nat} (h : d[i]? = some k) : (ivs d)[i]? = some (V.int (k : Int)) := by
  unfold ivs
  rw [List.getElem?_map, h]
  rfl
theorem ivs_snoc (d : List Nat) (k : Nat) : ivs (d ++ [k]) = ivs d ++ [V.int (k : Int)] := by
  unfold ivs
  rw [List.map_append]
  rfl
theorem ivs_flat (d : List Nat) : (ivs d).all flatV = true := by
  rw [List.all_eq_true]
  intro x hx
  obtain ⟨k, _, rfl⟩ := List.mem_map.mp hx
  rfl
theorem eqV_nat (a b : Nat) : eqV (.int (a : Int)) (.int (b : Int)) = decide (a = b) := by
  show ((a : Int) == (b : Int)) = _
  by_cases h : a = b
  · subst h; simp
  · rw [decide_eq_false h]
    exact beq_eq_false_iff_ne.mpr (by omega)
theorem inV_ivs (d : List Nat) (k : Nat) : inV (.int (k : Int)) (ivs d) = decide (k ∈ d) := by
  unfold inV ivs
  rw [List.any_map]
  by_cases h : k ∈ d
  · rw [decide_eq_true h, List.any_eq_true]
    exact ⟨k, h, by show eqV (.int (k : Int)) (.int (k : Int)) = true; rw [eqV_nat]; simp⟩
  · rw [decide_eq_false h, List.any_eq_false]
    intro y hy
    show ¬ eqV (.int (y : Int)) (.int (k : Int)) = true
    rw [eqV_nat]
    simp
    rintro rfl
    exact h hy
theorem lst_keys {i j : Nat} {σ : St'} {H : Hp} {a : Addr} {l : Ob} {Q : VK} (hσ : σ[i]? = some (some (.ref a))) (hj : ∀ x, wipe ((wipe σ [j]).set j (some x)) [j] = wipe σ [j]) (hj2 : ∀ x, ((wipe σ [j]).set j (some x))[j]? = some (some x)) (hN1 : H a = some (.dK (dk l))) (l6 : l.length ≤ 6)
    (k : ∀ (p : Addr) (H' : Hp), Same H H' → H p = none → H' p = some (.lst ((l.map (·.1)).map V.str)) → Q (.ref p) H') : tLockE (tLc (iKeys (tVar i)) (gName j) tYes (tVar j) [j]) σ H Q := by
  refine ⟨a, .dK (dk l), hN1, trivial, fun od => ?_⟩
  refine ⟨_, hσ, a, od, rfl, .inl ⟨dk l, upd_same, fun D hD => ?_⟩⟩
  have ND : a ≠ D := fun e => by rw [← e, upd_same] at hD; cases hD
  have hD1 : H D = none := by rw [upd_ne ND.symm] at hD; exact hD
  refine lc_keys (d := a) (o := od) (kvs := dk l) (fun i H2 => Same (upd H a (.frz od (.dK (dk l)))) H2 ∧ H2 D = some (.lst (((l.map (·.1)).take i).map V.str))) ⟨same_new hD, upd_same⟩ (fun i H2 h => h.1 _ _ upd_same) ?_ ?_
  · rintro i kk vv H2 hkk ⟨s2, h2⟩
    obtain ⟨n0, v0, hn0, rfl, rfl⟩ := dk_get hkk
    have hg : (l.map (·.1))[i]? = some n0 := by rw [List.getElem?_map, hn0]; rfl
    refine ⟨hj _, yes_of ⟨_, hj2 _, _, h2, ?_, same_wr s2 hD, ?_⟩⟩
    · rw [List.length_map, List.length_take, List.length_map]
      exact small1000 (by omega)
    · rw [upd_same, take_next' hg, List.map_append]
      rfl
  · rintro H2 ⟨s2, h2⟩
    have hfull : (l.map (·.1)).take (dk l).length = l.map (·.1) := List.take_of_length_le (by rw [List.length_map, dk_len]; exact Nat.le_refl _)
    rw [hfull] at h2
    refine ⟨s2 _ _ upd_same, ?_⟩
    exact k D _ (same_unlock hN1 s2) hD1 ((upd_ne ND.symm).trans h2)
def put1 (l : Ob) (k : Str) (v : Option Nat) : Ob := l.map fun p => if p.1 = k then (p.1, v) else p
theorem put1_keys (l : Ob) (k : Str) (v : Option Nat) : (put1 l k v).map (·.1) = l.map (·.1) := by
  unfold put1
  rw [List.map_map]
  refine List.map_congr_left fun p _ => ?_
  show (if p.1 = k then (p.1, v) else p).1 = p.1
  split <;> rfl
theorem put1_ok {n : Nat} {l : Ob} {k : Str} {v : Option Nat} (h : okl n l) (hv' : okv n v) : okl n (put1 l k v) := by
  intro q hq
  obtain ⟨p, hp, rfl⟩ := List.mem_map.mp hq
  show okv n (if p.1 = k then (p.1, v) else p).2
  split
  · exact hv'
  · exact h p hp
theorem dk_put1 {l : Ob} {k : Str} {v : Option Nat} (h : k ∈ l.map (·.1)) : putK (dk l) (Sum.inr k : Key) (hv v) = dk (put1 l k v) := by
  unfold putK
  have e : ((dk l).any fun kv => decide (kv.1 = (Sum.inr k : Key))) = true := by
    obtain ⟨p, hp, rfl⟩ := List.mem_map.mp h
    exact List.any_eq_true.mpr ⟨_, List.mem_map.mpr ⟨p, hp, rfl⟩, decide_eq_true rfl⟩
  rw [if_pos e]
  unfold dk put1
  rw [List.map_map, List.map_map]
  refine List.map_congr_left fun p _ => ?_
  show (if (Sum.inr p.1 : Key) = Sum.inr k then ((Sum.inr p.1 : Key), hv v) else ((Sum.inr p.1 : Key), hv p.2)) = _
  by_cases h : p.1 = k
  · rw [if_pos (congrArg Sum.inr h)]
    show _ = ((Sum.inr (if p.1 = k then (p.1, v) else p).1 : Key), hv (if p.1 = k then (p.1, v) else p).2)
    rw [if_pos h]
  · rw [if_neg (fun e => h (Sum.inr.inj e))]
    show _ = ((Sum.inr (if p.1 = k then (p.1, v) else p).1 : Key), hv (if p.1 = k then (p.1, v) else p).2)
    rw [if_neg h]
def drop1 (l : Ob) (k : Str) : Ob := l.filter fun p => decide (p.1 ≠ k)
theorem dk_drop1 (l : Ob) (k : Str) : dropK (dk l) (Sum.inr k : Key) = dk (drop1 l k) := by
  unfold dropK dk drop1
  rw [List.filter_map]
  congr 1
  refine List.filter_congr fun p _ => ?_
  show decide ((Sum.inr p.1 : Key) ≠ Sum.inr k) = decide (p.1 ≠ k)
  exact decide_eq_decide.mpr (not_congr ⟨fun e => Sum.inr.inj e, fun e => congrArg Sum.inr e⟩)
/-- what a heap's names may become -/
structure NOk (n : Nat) (ws : List Str) (l : Ob) : Prop where
  nd : (l.map (·.1)).Nodup
  sub : ∀ z ∈ l.map (·.1), z ∈ ws
  ok : okl n l
  l6 : l.length ≤ 6
def spMoved : Sp := fun vs H Q _ => ∃ (R : Addr) (m : List Nat) (v : Option Nat), vs = [hv v, .ref R] ∧ H R = some (.lst (ivs m)) ∧ (∀ k, v = some k → k ∈ m) ∧ ∀ v', okv m.length v' → Q (hv v') H
def spSecond : Sp := fun vs H Q _ => ∃ (p c aF aO : Addr) (fs : List Str) (ds : List Addr) (os : List Ob) (n : Nat), vs = [.ref p, .ref aF, .ref aO, .int (os.length : Int), .int (n : Int)] ∧ Pool p c H ∧ (aF ≠ p ∧ aF ≠ c) ∧ (aO ≠ p ∧ aO ≠ c) ∧ Off p c ds ∧ H aF = some (.lst (fs.map V.str)) ∧ fs.Nodup ∧ fs.length ≤ 20 ∧
  ObjsAt H aO ds fs os.length os ∧ os.length ≤ n ∧ n ≤ 200 ∧
  ∀ (t S D : Addr) (sl : List Nat) (d2 : List Addr) (os2 : List Ob) (H' : Hp), H t = none → H S = none → H D = none → (∀ d ∈ d2, H d = none) → H' t = some (.tup [.ref S, .ref D]) → H' S = some (.lst (ivs sl)) → sl.Perm (List.range n) → os2.length = n → ObjsAt H' D d2 fs n os2 → Pool p c H' → Fr p c H H' → Q (.ref t) H'
def spChange : Sp := fun vs H Q _ => ∃ (p c aF D aN : Addr) (ch : Int) (fs : List Str) (ds : List Addr) (os : List Ob) (l : Ob) (ws : List Str), vs = [.ref p, .int ch, .ref aF, .ref D, .ref aN] ∧ Pool p c H ∧ (aF ≠ p ∧ aF ≠ c) ∧ (D ≠ p ∧ D ≠ c) ∧ (aN ≠ p ∧ aN ≠ c) ∧ Off p c ds ∧ H aF = some (.lst (fs.map V.str)) ∧ 1 ≤ fs.length ∧ fs.length ≤ 20 ∧
  ObjsAt H D ds fs os.length os ∧ os.length ≤ 200 ∧ H aN = some (.dK (dk l)) ∧ aN ∉ ds ∧ NOk os.length ws l ∧
  ∀ (os' : List Ob) (l' : Ob) (H' : Hp), os'.length = os.length → ObjsAt H' D ds fs os.length os' → H' aN = some (.dK (dk l')) → NOk os.length ws l' → Pool p c H' → (∀ b o, H b = some o → b ≠ p → b ≠ c → b ∉ ds → b ≠ aN → H' b = some o) → Q .non H'
abbrev S_law_moved : Stmt := topS 35
abbrev N_law_moved : List Str := ["_law_value_here", "_law_slots"]
abbrev P_law_moved : List Str := ["_law_value_here", "_law_slots"]
theorem sc_law_moved : FnScope N_law_moved P_law_moved (defScope S_law_moved) := ⟨rfl, rfl, rfl, by decide +kernel, rfl, by decide +kernel, by decide +kernel⟩
abbrev S_law_second : Stmt := topS 36
abbrev N_law_second : List Str := ["_law_pool", "_law_fields", "_law_objects_here", "_law_count", "_law_total", "_law_slots", "_law_k", "_law_second_here", "_law_number", "_law_item", "_law_field"]
abbrev P_law_second : List Str := ["_law_pool", "_law_fields", "_law_objects_here", "_law_count", "_law_total"]
theorem sc_law_second : FnScope N_law_second P_law_second (defScope S_law_second) := ⟨rfl, rfl, rfl, by decide +kernel, rfl, by decide +kernel, by decide +kernel⟩
abbrev S_law_change : Stmt := topS 37
abbrev N_law_change : List Str := ["_law_pool", "_law_change_here", "_law_fields", "_law_second_here", "_law_others", "_law_total", "_law_item", "_law_name", "_law_word_here"]
abbrev P_law_change : List Str := ["_law_pool", "_law_change_here", "_law_fields", "_law_second_here", "_law_others"]
theorem sc_law_change : FnScope N_law_change P_law_change (defScope S_law_change) := ⟨rfl, rfl, rfl, by decide +kernel, rfl, by decide +kernel, by decide +kernel⟩
section
variable {P : Program} {w : World} {K : PySem.W.Frag} {mg : Str → Option Value} {base : Heap}
set_option maxHeartbeats 4000000 in
theorem ok_moved {f : Addr} {fd : FuncData} (F : Fun K "_law_moved" "_law_moved" S_law_moved f fd) : FnOk P w K mg base CX0 1 f fd P_law_moved spMoved := by
  refine F.ok sc_law_moved (fun vs H Q E h => ?_) (fun cdv A outer s H vs Q E hr h => ?_)
  · obtain ⟨R, m, v, rfl, _⟩ := h
    rfl
  · obtain ⟨R, m, v, rfl, hR, hm, k⟩ := h
    refine ⟨_, (pss_cons (ps_if (pt_cmpR op_isN (pv 0) pe_non (nomark _)) (pss_one (ps_ret pe_non)) pss_nil)
 (pss_one (ps_ret (pe_bm PySem.F.plainAttrs_list PySem.F.slot_list_index PySem.F.type_list_index mt_index (pv 1) (pa_cons (pv 0) pa_nil))))), ?_⟩
    refine ⟨_, rfl, rfl, _, rfl, ?_⟩
    cases v with
    | none => exact iteT (k none trivial)
    | some k0 =>
      refine iteF ?_
      have hk := hm k0 rfl
      have hi := List.idxOf_lt_length_of_mem hk
      have e1 : m[m.idxOf k0]? = some k0 := by rw [List.getElem?_eq_getElem hi, List.getElem_idxOf hi]
      refine ⟨_, rfl, .inl ⟨rfl, _, SqL.of hR⟩, _, rfl, R, _, _, m.idxOf k0, _, rfl, rfl, SqL.of hR, rfl, ivs_flat m, ivs_get e1, ?_, ?_, ?_⟩
      · show eqV (.int (k0 : Int)) (.int (k0 : Int)) = true
        rw [eqV_nat]; simp
      · intro i z hlt hz
        have hil : i < m.length := by omega
        rw [ivs_get (List.getElem?_eq_getElem hil)] at hz
        cases hz
        show eqV (.int (m[i] : Int)) (.int (k0 : Int)) = false
        rw [eqV_nat]
        refine decide_eq_false fun e => ?_
        have := List.not_of_lt_findIdx (p := (· == k0)) (xs := m) (show i < m.findIdx (· == k0) from hlt)
        rw [e] at this
        simp at this
      · exact k (some (m.idxOf k0)) hi
end
end TW
set_option Elab.async false
set_option linter.all false
set_option maxRecDepth 100000
namespace TW
open PySem PySem.Spec PyProof.Rows L2 TL
section
variable {P : Program} {w : World} {K : PySem.W.Frag} {mg : Str → Option Value} {base : Heap}
set_option maxHeartbeats 8000000 in
theorem ok_second {f fD fV fM : Addr} {fd fdD fdV fdM : FuncData} (F : Fun K "_law_second" "_law_second" S_law_second f fd) (B : Bl mg) (d_law_draw : Df K mg "_law_draw" S_law_draw fD fdD P_law_draw) (G_law_draw : FnOk P w K mg base CX0 1 fD fdD P_law_draw spDraw)
    (d_law_value : Df K mg "_law_value" S_law_value fV fdV P_law_value) (G_law_value : FnOk P w K mg base CX0 2 fV fdV P_law_value spValue)
    (d_law_moved : Df K mg "_law_moved" S_law_moved fM fdM P_law_moved) (G_law_moved : FnOk P w K mg base CX0 1 fM fdM P_law_moved spMoved) : FnOk P w K mg base CX0 3 f fd P_law_second spSecond := by
  refine F.ok sc_law_second (fun vs H Q E h => ?_) (fun cdv A outer s H vs Q E hr h => ?_)
  · obtain ⟨p, c, aF, aO, fs, ds, os, n, rfl, _⟩ := h
    rfl
  · obtain ⟨p, c, aF, aO, fs, ds, os, n, rfl, PL, oF, oO, oD, hF, fnd, f20, O, on, n200, k⟩ := h
    have hr_law_draw : Room 1 _ := hr.mono (by decide)
    have hr_law_value : Room 2 _ := hr.mono (by decide)
    have hr_law_moved : Room 1 _ := hr.mono (by decide)
    have hu := hu_of hr
    refine ⟨_, (pss_cons (ps_set (i := 5) sc_law_second.nd rfl (by first | exact Or.inl rfl | exact Or.inr rfl) (pe_lst pa_nil))
 (pss_cons (ps_cut (ps_for PassesOwn.never rfl (pi_range1 (by rfl) B.m_range (pa_cons (pv 4) pa_nil)) (pg_name (i := 6) sc_law_second.nd rfl (by first | exact Or.inl rfl | exact Or.inr rfl)) (pss_one (ps_expr (pe_bm PySem.F.plainAttrs_list PySem.F.slot_list_insert PySem.F.type_list_insert mt_insert (pv 5) (pa_cons (pe_call G_law_draw hr_law_draw rfl d_law_draw.g d_law_draw.F.kp d_law_draw.b .nil pass0 (pa_cons (pv 0) (pa_cons (pe_op op_add (pe_callB call_len_seq (by rfl) B.m_len PySem.boot_len (pa_cons (pv 5) pa_nil)) pe_int) pa_nil))) (pa_cons (pv 6) pa_nil)))))))
 (pss_cons (ps_set (i := 7) sc_law_second.nd rfl (by first | exact Or.inl rfl | exact Or.inr rfl) (pe_lst pa_nil))
 (pss_cons (ps_for PassesOwn.never rfl (pi_list (pv 5)) (pg_name (i := 8) sc_law_second.nd rfl (by first | exact Or.inl rfl | exact Or.inr rfl)) (pss_cons (ps_set (i := 9) sc_law_second.nd rfl (by first | exact Or.inl rfl | exact Or.inr rfl) pe_dnewK)
 (pss_cons (ps_for PassesOwn.never rfl (pi_list (pv 1)) (pg_name (i := 10) sc_law_second.nd rfl (by first | exact Or.inl rfl | exact Or.inr rfl)) (pss_one (ps_if (pt_cmpR op_lt (pv 8) (pv 3) (nomark _)) (pss_one (ps_dput hu (pv 9) (pv 10) (pe_call G_law_moved hr_law_moved rfl d_law_moved.g d_law_moved.F.kp d_law_moved.b .nil pass0 (pa_cons (pe_dget hu (pe_ix ix_list (pv 2) (pv 8) (fun _ _ => rfl)) (pv 10) (fun _ _ => rfl)) (pa_cons (pv 5) pa_nil))) rfl)) (pss_one (ps_dput hu (pv 9) (pv 10) (pe_call G_law_value hr_law_value rfl d_law_value.g d_law_value.F.kp d_law_value.b .nil pass0 (pa_cons (pv 0) (pa_cons (pv 4) pa_nil))) rfl)))))
 (pss_one (ps_expr (pe_bm PySem.F.plainAttrs_list PySem.F.slot_list_append PySem.F.type_list_append mt_append (pv 7) (pa_cons (pv 9) pa_nil)))))))
 (pss_one (ps_ret (pe_tup (pa_cons (pv 5) (pa_cons (pv 7) pa_nil))))))))), ?_⟩
    refine ⟨Nat.zero_le _, fun S hS => ?_⟩
    have oS := PL.np hS
    refine ⟨fun σ H' => ∃ (sl : List Nat) (z6 : Option V), σ = [some (.ref p), some (.ref aF), some (.ref aO), some (.int (os.length : Int)), some (.int (n : Int)), some (.ref S), z6, none, none, none, none] ∧ H' S = some (.lst (ivs sl)) ∧ sl.Perm (List.range n) ∧ Pool p c H' ∧ Fr p c H H', ?_, ?_⟩
    · refine ⟨_, rfl, _, rfl, by omega, by omega, for_range (lo := 0) (n := (n : Int).toNat) (fun i σ H2 => ∃ (sl : List Nat) (z6 : Option V), σ = [some (.ref p), some (.ref aF), some (.ref aO), some (.int (os.length : Int)), some (.int (n : Int)), some (.ref S), z6, none, none, none, none] ∧ H2 S = some (.lst (ivs sl)) ∧ sl.Perm (List.range i) ∧ Pool p c H2 ∧ Fr p c H H2) ⟨[], _, rfl, upd_same, List.Perm.refl _, PL.upd2 oS _, (Fr.refl p c H).updN hS⟩ ?_ ?_⟩
      · rintro i σ H2 hi ⟨sl, z6, rfl, h2, pm, P2, f2⟩
        have hl : sl.length = i := by rw [pm.length_eq, List.length_range]
        have il := ivs_len sl
        refine ⟨_, rfl, .inl ⟨rfl, _, SqL.of h2⟩, ?_⟩
        refine ⟨_, rfl, _, rfl, S, _, rfl, .inl (SqL.of h2), _, _, rfl, rfl, p, c, _, rfl, P2, by omega, log_small (by omega) (by omega), fun r H3 r0 r1 P3 f3 => ?_⟩
        have h3 := f3 _ _ oS.1 oS.2 h2
        refine ⟨_, rfl, S, _, r, _, rfl, rfl, h3, by rw [il]; exact small1000 (by omega), r0, by omega, ?_⟩
        have ei : (0 : Int) + (i : Int) = (i : Int) := Int.zero_add _
        refine ⟨sl.take r.toNat ++ [i] ++ sl.drop r.toNat, _, rfl, ?_, ?_, P3.upd2 oS _, (f2.trans f3).updN hS⟩
        · rw [upd_same]
          refine congrArg (fun z => some (HO.lst z)) ?_
          rw [ei]
          unfold ivs
          rw [List.map_append, List.map_append, List.map_take, List.map_drop]
          rfl
        · rw [List.append_assoc]
          show (sl.take r.toNat ++ (i :: sl.drop r.toNat)).Perm _
          refine List.perm_middle.trans ?_
          rw [List.take_append_drop, List.range_succ]
          exact (List.Perm.cons i pm).trans (List.perm_append_comm (l₁ := [i]) (l₂ := List.range i))
      · rintro σ H2 ⟨sl, z6, rfl, h2, pm, P2, f2⟩
        exact ⟨sl, z6, rfl, h2, pm, P2, f2⟩
    rintro σ H1 ⟨sl, z6, rfl, h1, pm, P1, f1⟩
    have lsl : sl.length = n := by rw [pm.length_eq, List.length_range]
    have hF1 := f1 _ _ oF.1 oF.2 hF
    have O1 := O.fr oO oD f1
    have msl : ∀ k, k < n → k ∈ sl := fun k hk => pm.mem_iff.mpr (List.mem_range.mpr hk)
    refine ⟨Nat.zero_le _, fun q hq => ?_⟩
    have hqo := P1.np hq
    have aq : aF ≠ q := ne_of_none hF1 hq
    have Sq : S ≠ q := ne_of_none h1 hq
    have hq0 : H q = none := by
      cases e : H q with
      | none => rfl
      | some o => rw [f1 _ _ hqo.1 hqo.2 e] at hq; cases hq
    have free1 : ∀ {x : Addr}, H1 x = none → H x = none := fun {x} hx => by
      have hxo := P1.np hx
      cases e : H x with
      | none => rfl
      | some o => rw [f1 _ _ hxo.1 hxo.2 e] at hx; cases hx
    refine ⟨_, rfl, S, rfl, ⟨_, SqL.of ((upd_ne Sq).trans h1)⟩, for_list (xs := ivs sl) (fun i σ H2 => ∃ (d2 : List Addr) (os2 : List Ob) (z8 z9 z10 : Option V), σ = [some (.ref p), some (.ref aF), some (.ref aO), some (.int (os.length : Int)), some (.int (n : Int)), some (.ref S), z6, some (.ref q), z8, z9, z10] ∧ os2.length = i ∧ (∀ d ∈ d2, H1 d = none ∧ d ≠ q) ∧ ObjsAt H2 q d2 fs n os2 ∧ Pool p c H2 ∧ Fr p c H1 H2) ?_ ?_ ?_ ?_⟩
    · exact ⟨[], [], _, _, _, rfl, rfl, fun d hd => (nomatch hd), ⟨upd_same, rfl, List.nodup_nil, fun i d o h => by simp at h, fun o ho => (nomatch ho), fun o ho => (nomatch ho)⟩, P1.upd2 hqo _, (Fr.refl p c H1).updN hq⟩
    · rintro i σ H2 hi ⟨d2, os2, z8, z9, z10, rfl, hlen, hds, O2, P2, f2⟩
      exact SqL.of (f2 _ _ oS.1 oS.2 h1)
    · rintro i x σ H2 hx ⟨d2, os2, z8, z9, z10, rfl, hlen, hds, O2, P2, f2⟩
      obtain ⟨num, hnum, rfl⟩ := get_nat hx
      have hnn : num < n := List.mem_range.mp (pm.mem_iff.mp (List.mem_of_getElem? hnum))
      have hil : i < n := by rw [← lsl]; exact (List.getElem?_eq_some_iff.mp hnum).1
      intro d hd2
      have hd0 : H1 d = none := by
        cases e : H1 d with
        | none => rfl
        | some o =>
          by_cases e1 : d = p
          · obtain ⟨xs, a2, m2, g1, g2, g3⟩ := P2.ex
            rw [e1, g1] at hd2; cases hd2
          · by_cases e2 : d = c
            · obtain ⟨xs, a2, m2, g1, g2, g3⟩ := P2.ex
              rw [e2, g2] at hd2; cases hd2
            · rw [f2 _ _ e1 e2 e] at hd2; cases hd2
      have hdo := P2.np hd2
      have dq : d ≠ q := fun e => by rw [e, O2.ls] at hd2; cases hd2
      have dds : d ∉ d2 := fun hm => by
        obtain ⟨j, hj, e⟩ := List.getElem_of_mem hm
        have hj2 : j < os2.length := by rw [← O2.len]; exact hj
        have := O2.at' j d os2[j] (by rw [List.getElem?_eq_getElem hj, e]) (List.getElem?_eq_getElem hj2)
        rw [hd2] at this; cases this
      have hoff : Off p c d2 := fun x hx => P1.np (hds x hx).1
      have ad : aF ≠ d := ne_of_none hF1 hd0
      -- the fields of one object
      refine ⟨_, rfl, aF, rfl, ⟨_, SqL.of ((upd_ne ad).trans (f2 _ _ oF.1 oF.2 hF1))⟩, for_list (xs := fs.map V.str) (fun j σ H3 => ∃ (l : Ob) (z10 : Option V), σ = [some (.ref p), some (.ref aF), some (.ref aO), some (.int (os.length : Int)), some (.int (n : Int)), some (.ref S), z6, some (.ref q), some (.int (num : Int)), some (.ref d), z10] ∧ H3 d = some (.dK (dk l)) ∧ l.map (·.1) = fs.take j ∧ okl n l ∧ ObjsAt H3 q d2 fs n os2 ∧ Pool p c H3 ∧ Fr p c H1 H3) ?_ ?_ ?_ ?_⟩
      · refine ⟨[], _, rfl, upd_same, rfl, fun p hp => (nomatch hp), ?_, P2.upd2 hdo _, f2.updN hd0⟩
        exact O2.same fun b o e => by rw [upd_ne (ne_of_none e hd2)]; exact e
      · rintro j σ H3 hj ⟨l, z10, rfl, h3, hl, hok, O3, P3, f3⟩
        exact SqL.of (f3 _ _ oF.1 oF.2 hF1)
      · rintro j x σ H3 hx ⟨l, z10, rfl, h3, hl, hok, O3, P3, f3⟩
        obtain ⟨z, hz, rfl⟩ := get_str hx
        have hfm := List.mem_of_getElem? hz
        have fresh : z ∉ l.map (·.1) := by rw [hl]; exact nodup_fresh fnd hz
        have hll : l.length < sizeLine := by
          rw [← List.length_map (f := (·.1)), hl, List.length_take]
          exact small1000 (by omega)
        have fin : ∀ (v : Option Nat) (H4 : Hp), okv n v → Pool p c H4 → Fr p c H3 H4 → ∃ (l' : Ob) (z10' : Option V), [some (.ref p), some (.ref aF), some (.ref aO), some (.int (os.length : Int)), some (.int (n : Int)), some (.ref S), z6, some (.ref q), some (.int (num : Int)), some (.ref d), some (.str z)] = [some (.ref p), some (.ref aF), some (.ref aO), some (.int (os.length : Int)), some (.int (n : Int)), some (.ref S), z6, some (.ref q), some (.int (num : Int)), some (.ref d), z10'] ∧ (upd H4 d (.dK (putK (dk l) (Sum.inr z : Key) (hv v)))) d = some (.dK (dk l')) ∧ l'.map (·.1) = fs.take (j + 1) ∧ okl n l' ∧ ObjsAt (upd H4 d (.dK (putK (dk l) (Sum.inr z : Key) (hv v)))) q d2 fs n os2 ∧ Pool p c (upd H4 d (.dK (putK (dk l) (Sum.inr z : Key) (hv v)))) ∧ Fr p c H1 (upd H4 d (.dK (putK (dk l) (Sum.inr z : Key) (hv v)))) := by
          intro v H4 hv4 P4 f4
          rw [dk_put fresh]
          refine ⟨l ++ [(z, v)], _, rfl, upd_same, by rw [List.map_append, hl, take_next hz]; rfl, ?_, ?_, P4.upd2 hdo _, (f3.trans f4).updN hd0⟩
          · intro y hy
            rcases List.mem_append.mp hy with hy | hy
            · exact hok y hy
            · rw [List.mem_singleton.mp hy]; exact hv4
          · have O4 := O3.fr hqo hoff f4
            exact ⟨by rw [upd_ne dq.symm]; exact O4.ls, O4.len, O4.nd, fun i' d' o' g1 g2 => by
              rw [upd_ne (fun e => dds (by rw [← e]; exact List.mem_of_getElem? g1))]; exact O4.at' i' d' o' g1 g2, O4.ks, O4.ok⟩
        refine ⟨_, rfl, _, rfl, _, _, rfl, rfl, _, rfl, ?_⟩
        refine ite_dec (fun hc => ?_) (fun hc => ?_)
        · have hno : num < os.length := by
            have := of_decide_eq_true hc
            omega
          have O3' := O1.fr oO oD f3
          have ho : os[num]? = some os[num] := List.getElem?_eq_getElem hno
          have hkd : num < ds.length := by rw [O.len]; exact hno
          have hdk : ds[num]? = some ds[num] := List.getElem?_eq_getElem hkd
          have hf1 : z ∈ (os[num]).map (·.1) := (O.ks _ (List.getElem_mem hno)).mem_iff.mpr hfm
          have hS3 := f3 _ _ oS.1 oS.2 h1
          refine ⟨_, rfl, _, rfl, aO, _, _, _, rfl, rfl, SqL.of O3'.ls, atI_nat (j := num) (by rw [List.getElem?_map, hdk]; rfl), _, rfl, ds[num], hv (fld os num z), rfl, dget_dk (k := (Sum.inr z : Key)) (O3'.at' num _ _ hdk ho) (fld_val ho hf1), ?_⟩
          refine ⟨_, rfl, S, sl, fld os num z, rfl, hS3, fun k0 e => ?_, fun v hv4 => ?_⟩
          · have ok0 := okv_fld O.ok num z
            rw [e] at ok0
            have : k0 < os.length := ok0
            exact msl k0 (by omega)
          · refine ⟨_, rfl, _, rfl, _, _, rfl, DPut.k (k := (Sum.inr z : Key)) h3 (by rw [dk_len]; exact hll), ?_⟩
            rw [lsl] at hv4
            exact fin v H3 hv4 P3 (Fr.refl p c H3)
        · refine ⟨_, rfl, _, rfl, p, c, n, rfl, P3, by omega, fun v H4 hv4 P4 f4 => ?_⟩
          have h4 := f4 _ _ hdo.1 hdo.2 h3
          refine ⟨_, rfl, _, rfl, _, _, rfl, DPut.k (k := (Sum.inr z : Key)) h4 (by rw [dk_len]; exact hll), ?_⟩
          exact fin v H4 hv4 P4 f4
      · rintro σ H3 ⟨l, z10, rfl, h3, hl, hok, O3, P3, f3⟩
        rw [List.length_map, List.take_length] at hl
        refine ⟨_, rfl, .inl ⟨rfl, _, SqL.of O3.ls⟩, _, rfl, q, _, _, rfl, rfl, O3.ls, by rw [List.length_map, O3.len, hlen]; exact small1000 (by omega), ?_⟩
        refine ⟨d2 ++ [d], os2 ++ [l], _, _, _, rfl, by rw [List.length_append, hlen]; rfl, ?_, ?_, P3.upd2 hqo _, f3.updN hq⟩
        · intro x hx
          rcases List.mem_append.mp hx with hx | hx
          · exact hds x hx
          · rw [List.mem_singleton.mp hx]; exact ⟨hd0, dq⟩
        · refine ⟨by rw [upd_same, List.map_append]; rfl, by rw [List.length_append, List.length_append, O3.len]; rfl, ?_, ?_, ?_, ?_⟩
          · refine List.nodup_append.mpr ⟨O3.nd, by simp, fun x hx y hy => ?_⟩
            rw [List.mem_singleton.mp hy]
            exact fun e => dds (e ▸ hx)
          · intro j d' o' g1 g2
            rcases Nat.lt_or_ge j d2.length with hj | hj
            · rw [List.getElem?_append_left hj] at g1
              rw [List.getElem?_append_left (by rw [← O3.len]; exact hj)] at g2
              have nq : d' ≠ q := (hds d' (List.mem_of_getElem? g1)).2
              rw [upd_ne nq]
              exact O3.at' j d' o' g1 g2
            · rw [List.getElem?_append_right hj] at g1
              rw [List.getElem?_append_right (by rw [← O3.len]; exact hj), ← O3.len] at g2
              have hz : j - d2.length = 0 := by
                have := (List.getElem?_eq_some_iff.mp g1).1
                simp only [List.length_singleton] at this
                omega
              rw [hz] at g1 g2
              have e1 : d = d' := Option.some.inj g1
              have e2 : l = o' := Option.some.inj g2
              subst e1 e2
              rw [upd_ne dq]; exact h3
          · intro o ho
            rcases List.mem_append.mp ho with ho | ho
            · exact O3.ks o ho
            · rw [List.mem_singleton.mp ho, hl]
          · intro o ho
            rcases List.mem_append.mp ho with ho | ho
            · exact O3.ok o ho
            · rw [List.mem_singleton.mp ho]; exact hok
    · rintro σ H2 ⟨d2, os2, z8, z9, z10, rfl, hlen, hds, O2, P2, f2⟩
      rw [ivs_len, lsl] at hlen
      refine ⟨_, rfl, _, rfl, (by show 2 ≤ sizeLine; decide), fun t ht => ?_⟩
      have st := same_new (o := .tup [.ref S, .ref q]) ht
      have f02 := f1.trans f2
      have ht1 : H1 t = none := by
        have hto := P2.np ht
        cases e : H1 t with
        | none => rfl
        | some o => rw [f2 _ _ hto.1 hto.2 e] at ht; cases ht
      exact k t S q sl d2 os2 _ (free1 ht1) hS hq0 (fun d hd => free1 (hds d hd).1) upd_same (st _ _ (f2 _ _ oS.1 oS.2 h1)) pm hlen (O2.same st) (P2.same st) (f02.trans (Fr.of_same st))
end
end TW
set_option Elab.async false
set_option linter.all false
set_option maxRecDepth 100000
namespace TW
open PySem PySem.Spec PyProof.Rows L2 TL
/-- the state of the change -/
structure ChSt (p c D aN : Addr) (fs : List Str) (ds : List Addr) (n : Nat) (ws : List Str) (H H' : Hp) (os : List Ob) (l : Ob) : Prop where
  len : os.length = n
  O : ObjsAt H' D ds fs n os
  N : H' aN = some (.dK (dk l))
  ok : NOk n ws l
  P : Pool p c H'
  fr : ∀ b o, H b = some o → b ≠ p → b ≠ c → b ∉ ds → b ≠ aN → H' b = some o
theorem ChSt.step {p c D aN : Addr} {fs : List Str} {ds : List Addr} {n : Nat} {ws : List Str} {H H1 H2 : Hp} {os : List Ob} {l : Ob} (A : ChSt p c D aN fs ds n ws H H1 os l) (oD : D ≠ p ∧ D ≠ c) (od : Off p c ds) (oN : aN ≠ p ∧ aN ≠ c) (P2 : Pool p c H2) (f : Fr p c H1 H2) : ChSt p c D aN fs ds n ws H H2 os l :=
  ⟨A.len, A.O.fr oD od f, f _ _ oN.1 oN.2 A.N, A.ok, P2, fun b o e n1 n2 n3 n4 => f _ _ n1 n2 (A.fr b o e n1 n2 n3 n4)⟩
section
variable {P : Program} {w : World} {K : PySem.W.Frag} {mg : Str → Option Value} {base : Heap}
set_option maxHeartbeats 8000000 in
theorem ok_change {f fD fV fP : Addr} {fd fdD fdV fdP : FuncData} (F : Fun K "_law_change" "_law_change" S_law_change f fd) (B : Bl mg) (d_law_draw : Df K mg "_law_draw" S_law_draw fD fdD P_law_draw) (G_law_draw : FnOk P w K mg base CX0 1 fD fdD P_law_draw spDraw)
    (d_law_value : Df K mg "_law_value" S_law_value fV fdV P_law_value) (G_law_value : FnOk P w K mg base CX0 2 fV fdV P_law_value spValue)
    (d_law_pick : Df K mg "_law_pick" S_law_pick fP fdP P_law_pick) (G_law_pick : FnOk P w K mg base CX0 2 fP fdP P_law_pick spPick) : FnOk P w K mg base CX0 3 f fd P_law_change spChange := by
  refine F.ok sc_law_change (fun vs H Q E h => ?_) (fun cdv A outer s H vs Q E hr h => ?_)
  · obtain ⟨p, c, aF, D, aN, ch, fs, ds, os, l, ws, rfl, _⟩ := h
    rfl
  · obtain ⟨p, c, aF, D, aN, ch, fs, ds, os, l, ws, rfl, PL, oF, oD, oN, od, hF, f1l, f20, O, n200, hN, nds, NK, k⟩ := h
    have hr_law_draw : Room 1 _ := hr.mono (by decide)
    have hr_law_value : Room 2 _ := hr.mono (by decide)
    have hr_law_pick : Room 2 _ := hr.mono (by decide)
    have hu := hu_of hr
    refine ⟨_, (pss_cons (ps_set (i := 5) sc_law_change.nd rfl (by first | exact Or.inl rfl | exact Or.inr rfl) (pe_callB call_len_seq (by rfl) B.m_len PySem.boot_len (pa_cons (pv 3) pa_nil)))
 (pss_cons (ps_cut (ps_if (PW.pt (pw_and (pt_cmpR op_eq (pv 1) pe_int (nomark _)) (pw_and1 (pt_cmpR op_gt (pv 5) pe_int (nomark _))))) (pss_cons (ps_set (i := 6) sc_law_change.nd rfl (by first | exact Or.inl rfl | exact Or.inr rfl) (pe_ix ix_list (pv 3) (pe_call G_law_draw hr_law_draw rfl d_law_draw.g d_law_draw.F.kp d_law_draw.b .nil pass0 (pa_cons (pv 0) (pa_cons (pv 5) pa_nil))) (fun _ _ => rfl)))
 (pss_one (ps_dput hu (pv 6) (pe_call G_law_pick hr_law_pick rfl d_law_pick.g d_law_pick.F.kp d_law_pick.b .nil pass0 (pa_cons (pv 0) (pa_cons (pv 2) pa_nil))) (pe_call G_law_value hr_law_value rfl d_law_value.g d_law_value.F.kp d_law_value.b .nil pass0 (pa_cons (pv 0) (pa_cons (pv 5) pa_nil))) rfl))) pss_nil))
 (pss_cons (ps_cut (ps_if (PW.pt (pw_and (pt_cmpR op_eq (pv 1) pe_int (nomark _)) (pw_and1 (pt_cmpR op_gt (pe_callB call_lenD (by rfl) B.m_len PySem.boot_len (pa_cons (pv 4) pa_nil)) pe_int (nomark _))))) (pss_cons (ps_set (i := 7) sc_law_change.nd rfl (by first | exact Or.inl rfl | exact Or.inr rfl) (pe_call G_law_pick hr_law_pick rfl d_law_pick.g d_law_pick.F.kp d_law_pick.b .nil pass0 (pa_cons (pv 0) (pa_cons (pe_lock (pe_lc (own := [("_law_word_here", 8)]) (g := gName 8) (tt := tYes) rfl sc_law_change.nd (pi_keys (pv 4)) (blkOk_by (own := [("_law_word_here", 8)]) (N := N_law_change) (sc := defScope S_law_change) (by decide +kernel)) (fun _ _ _ _ _ => (pg_name (i := 8) sc_law_change.nd rfl (by first | exact Or.inl rfl | exact Or.inr rfl))) (fun _ _ _ _ _ => pts_nil) (fun _ _ _ _ _ => (pv 8)))) pa_nil))))
 (pss_one (ps_dput hu (pv 4) (pv 7) (pe_call G_law_value hr_law_value rfl d_law_value.g d_law_value.F.kp d_law_value.b .nil pass0 (pa_cons (pv 0) (pa_cons (pv 5) pa_nil))) rfl))) pss_nil))
 (pss_one (ps_if (PW.pt (pw_and (pt_cmpR op_eq (pv 1) pe_int (nomark _)) (pw_and1 (pt_cmpR op_gt (pe_callB call_lenD (by rfl) B.m_len PySem.boot_len (pa_cons (pv 4) pa_nil)) pe_int (nomark _))))) (pss_one (ps_expr (pe_dpop1 (pv 4) (pe_call G_law_pick hr_law_pick rfl d_law_pick.g d_law_pick.F.kp d_law_pick.b .nil pass0 (pa_cons (pv 0) (pa_cons (pe_lock (pe_lc (own := [("_law_word_here", 8)]) (g := gName 8) (tt := tYes) rfl sc_law_change.nd (pi_keys (pv 4)) (blkOk_by (own := [("_law_word_here", 8)]) (N := N_law_change) (sc := defScope S_law_change) (by decide +kernel)) (fun _ _ _ _ _ => (pg_name (i := 8) sc_law_change.nd rfl (by first | exact Or.inl rfl | exact Or.inr rfl))) (fun _ _ _ _ _ => pts_nil) (fun _ _ _ _ _ => (pv 8)))) pa_nil))) ⟨rfl, rfl, rfl, rfl⟩))) pss_nil))))), ?_⟩
    have hlen : (ds.map V.ref).length = os.length := by rw [List.length_map, O.len]
    refine ⟨_, rfl, D, _, rfl, .inl (SqL.of O.ls), ?_⟩
    have S0 : ChSt p c D aN fs ds os.length ws H H os l := ⟨rfl, O, hN, NK, PL, fun b o e _ _ _ _ => e⟩
    have aFd : ∀ {H' : Hp} {os' : List Ob} {l' : Ob}, ChSt p c D aN fs ds os.length ws H H' os' l' → H' aF = some (.lst (fs.map V.str)) := fun {H' os' l'} A => by
      refine A.fr _ _ hF oF.1 oF.2 (fun m => ?_) (fun e => by rw [e, hN] at hF; cases hF)
      obtain ⟨i, hi, e'⟩ := List.getElem_of_mem m
      have hi2 : i < os.length := by rw [← O.len]; exact hi
      have := O.at' i aF os[i] (by rw [List.getElem?_eq_getElem hi, e']) (List.getElem?_eq_getElem hi2)
      rw [hF] at this
      cases this
    have skip : ∀ {A C : Prop} {b : Bool}, (b = true → A) → C → if b = true then A else C := fun {A C b} h1 h2 => by
      cases b with
      | true => exact h1 rfl
      | false => exact h2
    -- a field
    refine ⟨fun σ H' => ∃ (z6 z7 z8 : Option V) (os' : List Ob) (l' : Ob), σ = [some (.ref p), some (.int ch), some (.ref aF), some (.ref D), some (.ref aN), some (.int ((ds.map V.ref).length : Int)), z6, z7, z8] ∧ ChSt p c D aN fs ds os.length ws H H' os' l', ?_, ?_⟩
    · refine ⟨_, rfl, rfl, _, rfl, ?_⟩
      refine skip (fun _ => ?_) (iteF ⟨_, _, _, os, l, rfl, S0⟩)
      refine ⟨_, rfl, _, _, rfl, rfl, _, rfl, ?_⟩
      refine ite_dec (fun hb => ?_) (fun hb => ⟨_, _, _, os, l, rfl, S0⟩)
      have hpos : 0 < os.length := by
        have := of_decide_eq_true hb
        omega
      refine ⟨_, rfl, _, rfl, _, rfl, p, c, _, rfl, PL, by omega, log_small (by omega) (by omega), fun r H1 r0 r1 P1 f1 => ?_⟩
      have S1 := S0.step oD od oN P1 f1
      have hr1 : r.toNat < os.length := by omega
      have hrd : r.toNat < ds.length := by rw [O.len]; exact hr1
      have hdk : ds[r.toNat]? = some ds[r.toNat] := List.getElem?_eq_getElem hrd
      have hok : os[r.toNat]? = some os[r.toNat] := List.getElem?_eq_getElem hr1
      refine ⟨D, _, _, _, rfl, rfl, SqL.of S1.O.ls, atI_of (j := r.toNat) (by omega) (by rw [List.getElem?_map, hdk]; rfl), ?_⟩
      refine ⟨_, rfl, _, rfl, p, c, (ds.map V.ref).length, rfl, P1, by omega, fun v H2 hv2 P2 f2 => ?_⟩
      have S2 := S1.step oD od oN P2 f2
      rw [hlen] at hv2
      refine ⟨_, rfl, _, rfl, _, rfl, p, c, aF, fs.map V.str, rfl, P2, ⟨oF.1, oF.2, .inl (aFd S2)⟩, fun z => by have := congrArg List.length z; rw [List.length_map] at this; simp at this; rw [this] at f1l; simp at f1l, by rw [List.length_map]; omega, fun x i H3 hx P3 f3 => ?_⟩
      obtain ⟨f0, hf0, rfl⟩ := get_str hx
      have S3 := S2.step oD od oN P3 f3
      have hkm : f0 ∈ (os[r.toNat]).map (·.1) := (O.ks _ (List.getElem_mem hr1)).mem_iff.mpr (List.mem_of_getElem? hf0)
      have hd3 := S3.O.at' _ _ _ hdk hok
      have dl : (dk os[r.toNat]).length ≤ 20 := by
        have := (O.ks _ (List.getElem_mem hr1)).length_eq
        rw [List.length_map] at this
        rw [dk_len]
        omega
      refine ⟨_, _, rfl, DPut.k (k := (Sum.inr f0 : Key)) hd3 (small1000 (by omega)), ?_⟩
      rw [dk_put1 hkm]
      have dm : ds[r.toNat] ∈ ds := List.getElem_mem hrd
      have dD : D ≠ ds[r.toNat] := fun e => by rw [← e, S3.O.ls] at hd3; cases hd3
      have dN : aN ≠ ds[r.toNat] := fun e => nds (e ▸ dm)
      have offd := od _ dm
      refine ⟨_, _, _, os.set r.toNat (put1 os[r.toNat] f0 v), l, rfl, by rw [List.length_set], ?_, (upd_ne dN).trans S3.N, S3.ok, P3.upd2 offd _, fun b o e n1 n2 n3 n4 => (upd_ne (fun z : b = ds[r.toNat] => n3 (by rw [z]; exact dm))).trans (S3.fr b o e n1 n2 n3 n4)⟩
      refine ⟨(upd_ne dD).trans S3.O.ls, by rw [List.length_set]; exact O.len, O.nd, fun i' d' o' g1 g2 => ?_, fun o ho => ?_, fun o ho => ?_⟩
      · rw [List.getElem?_set] at g2
        by_cases e : r.toNat = i'
        · subst e
          rw [if_pos rfl, if_pos hr1] at g2
          cases g2
          rw [hdk] at g1
          cases g1
          exact upd_same
        · rw [if_neg e] at g2
          refine (upd_ne fun z => ?_).trans (S3.O.at' i' d' o' g1 g2)
          have h1 := (List.getElem?_eq_some_iff.mp g1)
          obtain ⟨h1, h2⟩ := h1
          have a1 := O.nd.idxOf_getElem i' h1
          have a2 := O.nd.idxOf_getElem r.toNat hrd
          rw [h2.trans z] at a1
          exact e (a2.symm.trans a1)
      · rcases List.mem_or_eq_of_mem_set ho with h | h
        · exact O.ks o h
        · rw [h, put1_keys]; exact O.ks _ (List.getElem_mem hr1)
      · rcases List.mem_or_eq_of_mem_set ho with h | h
        · exact O.ok o h
        · rw [h]; exact put1_ok (O.ok _ (List.getElem_mem hr1)) hv2
    rintro σ Ha ⟨z6, z7, z8, osa, la, rfl, Sa⟩
    have la6 := Sa.ok.l6
    -- a name
    refine ⟨fun σ H' => ∃ (z6 z7 z8 : Option V) (os' : List Ob) (l' : Ob), σ = [some (.ref p), some (.int ch), some (.ref aF), some (.ref D), some (.ref aN), some (.int ((ds.map V.ref).length : Int)), z6, z7, z8] ∧ ChSt p c D aN fs ds os.length ws H H' os' l', ?_, ?_⟩
    · refine ⟨_, rfl, rfl, _, rfl, ?_⟩
      refine skip (fun _ => ?_) (iteF ⟨_, _, _, osa, la, rfl, Sa⟩)
      refine ⟨_, rfl, aN, _, rfl, Sa.N, _, _, rfl, rfl, _, rfl, ?_⟩
      refine ite_dec (fun hb => ?_) (fun hb => ⟨_, _, _, osa, la, rfl, Sa⟩)
      have hpos : 0 < la.length := by
        have := of_decide_eq_true hb
        rw [dk_len] at this
        omega
      refine ⟨_, rfl, ?_⟩
      refine lst_keys rfl (fun x => rfl) (fun x => rfl) Sa.N la6 fun q H1 s1 hq g1 => ?_
      have S1 := Sa.step oD od oN (Sa.P.same s1) (Fr.of_same s1)
      have oq := Sa.P.np hq
      refine ⟨p, c, q, _, rfl, S1.P, ⟨oq.1, oq.2, .inl g1⟩, fun z => by have := congrArg List.length z; rw [List.length_map, List.length_map] at this; simp at this; rw [this] at hpos; simp at hpos, by rw [List.length_map, List.length_map]; omega, fun x i H2 hx P2 f2 => ?_⟩
      obtain ⟨n0, hn0, rfl⟩ := get_str hx
      have hm := List.mem_of_getElem? hn0
      have S2 := S1.step oD od oN P2 f2
      refine ⟨_, rfl, _, rfl, p, c, (ds.map V.ref).length, rfl, P2, by omega, fun v H3 hv3 P3 f3 => ?_⟩
      have S3 := S2.step oD od oN P3 f3
      rw [hlen] at hv3
      refine ⟨_, rfl, _, rfl, _, _, rfl, DPut.k (k := (Sum.inr n0 : Key)) S3.N (by rw [dk_len]; exact small1000 (by omega)), ?_⟩
      rw [dk_put1 hm]
      refine ⟨_, _, _, osa, put1 la n0 v, rfl, S3.len, ?_, upd_same, ⟨by rw [put1_keys]; exact Sa.ok.nd, by rw [put1_keys]; exact Sa.ok.sub, put1_ok Sa.ok.ok hv3, by unfold put1; rw [List.length_map]; exact la6⟩, P3.upd2 oN _, fun b o e n1 n2 n3 n4 => (upd_ne n4).trans (S3.fr b o e n1 n2 n3 n4)⟩
      exact ⟨(upd_ne (ne_of S3.O.ls S3.N (fun z => nomatch z))).trans S3.O.ls, S3.O.len, S3.O.nd, fun i' d' o' g1 g2 => (upd_ne (fun z : d' = aN => nds (by rw [← z]; exact List.mem_of_getElem? g1))).trans (S3.O.at' i' d' o' g1 g2), S3.O.ks, S3.O.ok⟩
    rintro σ Hb ⟨z6, z7, z8, osb, lb, rfl, Sb⟩
    have lb6 := Sb.ok.l6
    refine ⟨_, rfl, rfl, _, rfl, ?_⟩
    refine skip (fun _ => ?_) (iteF (k osb lb Hb Sb.len Sb.O Sb.N Sb.ok Sb.P Sb.fr))
    refine ⟨_, rfl, aN, _, rfl, Sb.N, _, _, rfl, rfl, _, rfl, ?_⟩
    refine ite_dec (fun hb => ?_) (fun hb => k osb lb Hb Sb.len Sb.O Sb.N Sb.ok Sb.P Sb.fr)
    have hpos : 0 < lb.length := by
      have := of_decide_eq_true hb
      rw [dk_len] at this
      omega
    refine ⟨_, rfl, aN, rfl, .inl ⟨_, .inl Sb.N⟩, _, rfl, ?_⟩
    refine lst_keys rfl (fun x => rfl) (fun x => rfl) Sb.N lb6 fun q H1 s1 hq g1 => ?_
    have S1 := Sb.step oD od oN (Sb.P.same s1) (Fr.of_same s1)
    have oq := Sb.P.np hq
    refine ⟨p, c, q, _, rfl, S1.P, ⟨oq.1, oq.2, .inl g1⟩, fun z => by have := congrArg List.length z; rw [List.length_map, List.length_map] at this; simp at this; rw [this] at hpos; simp at hpos, by rw [List.length_map, List.length_map]; omega, fun x i H2 hx P2 f2 => ?_⟩
    obtain ⟨n0, hn0, rfl⟩ := get_str hx
    have hm := List.mem_of_getElem? hn0
    have S2 := S1.step oD od oN P2 f2
    refine ⟨_, (Sum.inr n0 : Key), hv (nmv lb n0), S2.N, rfl, nmv_val hm, ?_⟩
    rw [dk_drop1]
    have sub1 : ∀ z ∈ (drop1 lb n0).map (·.1), z ∈ lb.map (·.1) := fun z hz => by
      obtain ⟨p0, hp0, rfl⟩ := List.mem_map.mp hz
      exact List.mem_map_of_mem (f := (·.1)) (List.mem_filter.mp hp0).1
    refine k osb (drop1 lb n0) _ S2.len ?_ upd_same ⟨?_, fun z hz => Sb.ok.sub z (sub1 z hz), fun p0 hp0 => Sb.ok.ok p0 (List.mem_filter.mp hp0).1, Nat.le_trans (List.length_filter_le _ _) lb6⟩ (P2.upd2 oN _) fun b o e n1 n2 n3 n4 => (upd_ne n4).trans (S2.fr b o e n1 n2 n3 n4)
    · exact ⟨(upd_ne (ne_of S2.O.ls S2.N (fun z => nomatch z))).trans S2.O.ls, S2.O.len, S2.O.nd, fun i' d' o' g1 g2 => (upd_ne (fun z : d' = aN => nds (by rw [← z]; exact List.mem_of_getElem? g1))).trans (S2.O.at' i' d' o' g1 g2), S2.O.ks, S2.O.ok⟩
    · exact List.Nodup.sublist (List.Sublist.map _ List.filter_sublist) Sb.ok.nd
end
end TW
set_option Elab.async false
set_option linter.all false
set_option maxRecDepth 100000
set_option maxHeartbeats 4000000
namespace SrtO
open PySem PyProof.Rows Srt
section
variable {prog : Program} {w : World} {A : Around} {E : Value → Shared → Prop} {s : Shared}
def sv (v : Value) : List Nat := (strOf v).cps.toList
def ltSv (v u : Value) : Bool := decide (sv v < sv u)
theorem swo_str : Swo ltSv := by
  refine ⟨fun x y h => ?_, fun x y z h1 h2 => ?_⟩
  · have a := of_decide_eq_true (p := sv x < sv y) h
    exact decide_eq_false (p := sv y < sv x) (List.lt_asymm a)
  · have a := of_decide_eq_false (p := sv y < sv x) h1
    have b := of_decide_eq_false (p := sv z < sv y) h2
    exact decide_eq_false (p := sv z < sv x) (List.not_lt.mpr (List.le_trans (List.not_lt.mp a) (List.not_lt.mp b)))
theorem str_cmp {vs : List Value} {ss : List PySem.Str} (hI : StrsAre vs ss) : Cmp prog w A s oneType' (fun p => p.1 ∈ vs) (lt2 ltSv) := by
  intro p q hm hm'
  obtain ⟨a, t, e⟩ := hI.all _ hm
  obtain ⟨b, u, e'⟩ := hI.all _ hm'
  show wpAny (model prog w) A (keyLt' oneType' p.1 q.1) (fun r s' => s' = s ∧ r = ltSv p.1 q.1) (fun _ _ => False) s
  rw [e, e', keyLt'_oneType]
  exact oneLt_str ⟨rfl, rfl⟩
theorem strs_sortable {a : Addr} {vs : List Value} {ss : List PySem.Str} (hI : StrsAre vs ss) (h2 : 2 ≤ vs.length) : SortableO prog w A s a vs ltSv := by
  intro h' _
  refine ⟨oneType', fun Q E hq => ?_, str_cmp hI⟩
  match vs, hI, h2 with
  | v1 :: v2 :: rest, hI, _ =>
    rw [keyKind_strs hI]
    exact wpAny_pure hq
  | [], _, h => exact absurd h (by decide)
  | [v], _, h => exact absurd h (by simp)
theorem strs_out {vs out : List Value} {ss : List PySem.Str} (hI : StrsAre vs ss) (hb : Stb ltSv out vs) : StrsAre out (out.map strOf) ∧ (out.map strOf).Perm ss := by
  refine ⟨strsAre_map out fun v hv => hI.all v (hb.perm.mem_iff.mp hv), ?_⟩
  have q := hb.perm.map strOf
  rw [hI.strs] at q
  exact q
theorem strs_rev {vs : List Value} {ss : List PySem.Str} (hI : StrsAre vs ss) : StrsAre vs.reverse ss.reverse := by
  have h := strsAre_map vs.reverse fun v hv => hI.all v (List.mem_reverse.mp hv)
  rwa [List.map_reverse, hI.strs] at h
end
end SrtO
namespace L2
open PySem PySem.Spec PyProof.Rows
/-- sorted(texts, reverse=True): the same texts in some order -/
def rSortedRevS (K : PySem.W.Frag) : List V → List V → Hp → VK → Prop := fun vs zs H Q => ∃ (a : Addr) (xs : List Str), vs = [V.ref a] ∧ zs = [.bl true] ∧ SqL K H a (xs.map V.str) ∧
  ∀ (ys : List Str) (p : Addr), ys.Perm xs → H p = none → Q (.ref p) (upd H p (.lst (ys.map V.str)))
theorem cr_sortedRevS {X : Cx} : CallRK X (.builtin "sorted") [Str.ofString "reverse"] (rSortedRevS X.K) := by
  intro pins s σ H vs zs us ws Q I r rz h
  obtain ⟨a, xs, rfl, rfl, hs, q⟩ := h
  obtain rfl := Vals.ref1 r
  obtain ⟨w1, rfl, e1⟩ := vals1 rz
  obtain rfl : w1 = Value.bool true := e1
  obtain ⟨its, rv, hl, hz⟩ := I.list hs
  have hi := rv.strs
  refine SrtR.sorted_ordK (b := true) (fun _ => rfl) (PyProof.Rows.args_sorted_rev _ _) (fun _ => PyProof.Rows.args_list_sort_rev _ _) SrtO.swo_str hl.isList (by rw [← rv.length]; exact hz) (fun h2 h₁ a' _ _ => SrtO.strs_sortable hi h2) fun out h1 h2 => ?_
  obtain ⟨k1, k2⟩ := SrtO.strs_out (SrtO.strs_rev hi) h2
  have k3 := SrtO.strs_rev k1
  obtain ⟨ep, he'⟩ := PyProof.Rows.sortedAll_at s.heap its (if true = true then out.toArray.reverse else out.toArray)
  have pm : ((out.map PyProof.Rows.strOf).reverse).Perm xs := ((List.reverse_perm _).trans k2).trans (List.reverse_perm _)
  have hlen : ((((out.map PyProof.Rows.strOf).reverse)).map V.str).length ≤ sizeLine := by
    rw [List.length_map, pm.length_eq]
    rw [List.length_map] at hz
    exact hz
  have e0 : (out.reverse).toArray = (if true = true then out.toArray.reverse else out.toArray) := by simp
  exact ⟨.ref _, upd H (s.heap.objs.size + 1) (.lst ((((out.map PyProof.Rows.strOf).reverse)).map V.str)), I.laid (t' := s.toks) (fun _ _ => PyProof.Rows.sortedAll_old) (Nat.le_succ _) ⟨hlen, out.reverse, ep, vals_of_strs k3, by rw [e0]; exact he'⟩, rfl, q _ _ pm (I.hok.fresh (Nat.le_succ _))⟩
end L2
namespace TW
open PySem PySem.Spec PyProof.Rows L2 TL
theorem ObjsAt.perm {H : Hp} {q : Addr} {ds : List Addr} {f1 f2 : List Str} {n : Nat} {os : List Ob} (O : ObjsAt H q ds f1 n os) (p : f1.Perm f2) : ObjsAt H q ds f2 n os := ⟨O.ls, O.len, O.nd, O.at', fun o ho => (O.ks o ho).trans p, O.ok⟩
/-- [dict(one) for one in objects] -/
theorem copy_objs {K : PySem.W.Frag} {i j n : Nat} {σ : St'} {H : Hp} {a : Addr} {ds : List Addr} {fs : List Str} {os : List Ob} {Q : VK} (hσ : σ[i]? = some (some (.ref a))) (hj : ∀ x, wipe ((wipe σ [j]).set j (some x)) [j] = wipe σ [j]) (hj2 : ∀ x, ((wipe σ [j]).set j (some x))[j]? = some (some x)) (O6 : ObjsAt H a ds fs n os) (hn : os.length ≤ 200)
    (k : ∀ (D : Addr) (ds' : List Addr) (H' : Hp), Same H H' → H D = none → (∀ d ∈ ds', H d = none ∧ d ≠ D) → ObjsAt H' D ds' fs n os → Q (.ref D) H') :
    tLc (iList K (tVar i)) (gName j) tYes (tCB (fun xs H Q => ∃ a kvs, xs = [V.ref a] ∧ Rd H a (HO.dK kvs) ∧ ∀ p : Addr, H p = none → Q (V.ref p) (upd H p (HO.dK kvs))) (tCons (tVar j) tNil)) [j] σ H Q := by
  refine ⟨_, hσ, a, rfl, ⟨_, SqL.of O6.ls⟩, fun D hD => lc_list (xs := ds.map V.ref) (fun i H7 => ∃ ds' : List Addr, Same H H7 ∧ H7 D = some (.lst (ds'.map V.ref)) ∧ ds'.length = i ∧ ds'.Nodup ∧ (∀ x ∈ ds', H x = none ∧ x ≠ D) ∧ (∀ (i' : Nat) (d' : Addr) (o : Ob), ds'[i']? = some d' → os[i']? = some o → H7 d' = some (.dK (dk o)))) ?_ ?_ ?_ ?_⟩
  · exact ⟨[], same_new hD, upd_same, rfl, List.nodup_nil, fun x hx => (nomatch hx), fun i' d' k h => by simp at h⟩
  · rintro i H7 _ ⟨ds', s7, _⟩
    exact SqL.of (s7 _ _ O6.ls)
  · rintro i x H7 hx ⟨ds', s7, hD7, hlen, dnd, dfr, dat⟩
    rw [List.getElem?_map] at hx
    cases ed : ds[i]? with
    | none => rw [ed] at hx; cases hx
    | some d =>
      rw [ed] at hx
      obtain rfl : V.ref d = x := Option.some.inj hx
      have hi0 := (List.getElem?_eq_some_iff.mp ed).1
      have hi : i < os.length := by rw [← O6.len]; exact hi0
      have ho : os[i]? = some os[i] := List.getElem?_eq_getElem hi
      refine ⟨hj _, yes_of ⟨_, hj2 _, d, _, rfl, .inl (s7 _ _ (O6.at' i d _ ed ho)), fun E hE => ?_⟩⟩
      have hE6 := s7.free hE
      have DE : D ≠ E := ne_of_none hD7 hE
      refine ⟨_, (upd_ne DE).trans hD7, by rw [List.length_map, hlen]; exact small1000 (by omega), ds' ++ [E], ?_, ?_, ?_, ?_, ?_, ?_⟩
      · intro b o e
        rw [upd_ne (ne_of_none e hD), upd_ne (ne_of_none e hE6)]
        exact s7 _ _ e
      · rw [upd_same, List.map_append]; rfl
      · rw [List.length_append, hlen]; rfl
      · refine List.nodup_append.mpr ⟨dnd, by simp, fun x hx y hy => ?_⟩
        rw [List.mem_singleton.mp hy]
        intro e
        obtain ⟨i', hi', e'⟩ := List.getElem_of_mem hx
        have hi2 : i' < os.length := by omega
        have := dat i' x os[i'] (by rw [List.getElem?_eq_getElem hi', e']) (List.getElem?_eq_getElem hi2)
        rw [e, hE] at this
        cases this
      · intro x hx
        rcases List.mem_append.mp hx with hx | hx
        · exact dfr x hx
        · rw [List.mem_singleton.mp hx]; exact ⟨hE6, DE.symm⟩
      · intro i' d' k g1 g2
        rcases Nat.lt_or_ge i' ds'.length with hj | hj
        · rw [List.getElem?_append_left hj] at g1
          have q := dat i' d' k g1 g2
          rw [upd_ne (dfr d' (List.mem_of_getElem? g1)).2, upd_ne (ne_of_none q hE)]
          exact q
        · rw [List.getElem?_append_right hj] at g1
          have hz : i' = ds'.length := by
            have := (List.getElem?_eq_some_iff.mp g1).1
            simp only [List.length_singleton] at this
            omega
          subst hz
          rw [Nat.sub_self] at g1
          have e1 : E = d' := Option.some.inj g1
          subst e1
          rw [hlen, ho] at g2
          have e2 : os[i] = k := Option.some.inj g2
          subst e2
          rw [upd_ne DE.symm, upd_same]
  · rintro H7 ⟨ds', s7, hD7, hlen, dnd, dfr, dat⟩
    rw [List.length_map, O6.len] at hlen
    exact k D ds' H7 s7 hD dfr ⟨hD7, hlen, dnd, dat, O6.ks, O6.ok⟩
end TW
set_option Elab.async false
set_option linter.all false
set_option maxRecDepth 100000
namespace TW
open PySem PySem.Spec PyProof.Rows L2 TL LamX NdefX LamQ
/-- what == with other values asks of the class -/
structure HC5 (K : PySem.W.Frag) (C : Addr) : Prop where
  iC : PySem.W.isClsIn K C = true
  tC : PySem.W.typeIn K (.ref C) = some (.type "type")
  sN : PySem.W.subIn K (.type "NoneType") (.ref C) = some false
  sS : PySem.W.subIn K (.type "str") (.ref C) = some false
  sI : PySem.W.subIn K (.type "int") (.ref C) = some false
  sL : PySem.W.subIn K (.type "list") (.ref C) = some false
  sD : PySem.W.subIn K (.type "dict") (.ref C) = some false
theorem nf_ty {K : PySem.W.Frag} {C : Addr} {T : String} (h : PySem.W.subIn K (.type T) (.ref C) = some false) : PySem.W.notFirst K C (.type T) = true := by
  unfold PySem.W.notFirst
  rw [h]
  simp
theorem nf_self {K : PySem.W.Frag} {C : Addr} : PySem.W.notFirst K C (.ref C) = true := by
  unfold PySem.W.notFirst
  rw [beq_self_eq_true]
  rfl
theorem kit_ty5 {K : PySem.W.Frag} {C : Addr} {T : String} (T5 : HC5 K C) (h : PySem.W.subIn K (.type T) (.ref C) = some false) : PySem.W.kitOne K (.type T) (.ref C) = some false := by
  have e1 : ((PySem.W.clsIn K C).isSome && PySem.W.typeIn K (.ref C) == some (.type "type")) = true := by
    have h2 : (PySem.W.clsIn K C).isSome = true := T5.iC
    rw [h2, T5.tC] <;> rfl
  show (if (Value.type T == Value.ref C) = true then some true else (if ((PySem.W.clsIn K C).isSome && PySem.W.typeIn K (.ref C) == some (.type "type")) = true then PySem.W.subIn K (.type T) (.ref C) else none)) = some false
  rw [if_neg (by intro e; exact nomatch (eq_of_beq e)), if_pos e1]
  exact h
theorem dlist_objs5 {H : Hp} {a b : Addr} {ds ds2 : List Addr} {fs f2 : List Str} {n m : Nat} {os : List Ob} (A : ObjsAt H a ds fs n os) (B : ObjsAt H b ds2 f2 m os) (fn : fs.Nodup) : DList DDict (.ref a) (.ref b) H :=
  ⟨a, b, _, _, rfl, rfl, A.ls, B.ls, by rw [List.length_map, List.length_map, A.len, B.len], fun i u v g1 g2 => by
    obtain ⟨d1, h1, rfl⟩ := get_ref g1
    obtain ⟨d2, h2, rfl⟩ := get_ref g2
    have hi : i < os.length := by have := (List.getElem?_eq_some_iff.mp h1).1; have := A.len; omega
    have ho : os[i]? = some os[i] := List.getElem?_eq_getElem hi
    exact ⟨d1, d2, _, _, rfl, rfl, A.at' i d1 _ h1 ho, B.at' i d2 _ h2 ho, rfl, dk_same _ ((A.ks _ (List.getElem_mem hi)).nodup_iff.mpr fn)⟩⟩
theorem HeapAt.ordOf5 {K : PySem.W.Frag} {C h : Addr} {H : Hp} {fs : List Str} {os : List Ob} {l : Ob} {p : HP} (A : HeapAt K C H h fs os l p) : OrdOf os fs l p.ord := A.ordOf
theorem perm_of_sub {α : Type} [DecidableEq α] : ∀ {a b : List α}, a.Nodup → (∀ x ∈ a, x ∈ b) → b.length = a.length → a.Perm b
  | [], b, _, _, h => by
    have : b = [] := List.eq_nil_of_length_eq_zero h
    rw [this]
  | x :: a, b, n, s, h => by
    have hx : x ∈ b := s x (List.mem_cons_self ..)
    have n2 := List.nodup_cons.mp n
    have l1 : (b.erase x).length = a.length := by
      rw [List.length_erase_of_mem hx, h]
      rfl
    refine (List.Perm.cons x (perm_of_sub n2.2 (fun y hy => ?_) l1)).trans (List.perm_cons_erase hx).symm
    exact (List.mem_erase_of_ne (fun e => n2.1 (by rw [← e]; exact hy))).mpr (s y (List.mem_cons_of_mem _ hy))
theorem namesEq_perm {o1 o2 : Ob} (n1 : (o1.map (·.1)).Nodup) (h : NamesEq o1 o2) : (o1.map (·.1)).Perm (o2.map (·.1)) := by
  refine perm_of_sub n1 (fun x hx => ?_) (by rw [List.length_map, List.length_map, h.1])
  obtain ⟨p, hp, rfl⟩ := List.mem_map.mp hx
  refine Decidable.byContradiction fun n => ?_
  have := h.2 p hp
  rw [lookup_none n] at this
  cases this
theorem lookup_at {o : Ob} (n : (o.map (·.1)).Nodup) {p : Str × Option Nat} (hp : p ∈ o) : o.lookup p.1 = some p.2 := by
  obtain ⟨i, hi, rfl⟩ := List.getElem_of_mem hp
  have e3 : nmv o (o[i]).1 = (o[i]).2 := nmv_at n (by rw [List.getElem?_eq_getElem hi])
  obtain ⟨v, hv'⟩ := lookup_some (List.mem_map_of_mem (f := (·.1)) hp)
  unfold nmv at e3
  rw [hv'] at e3 ⊢
  exact congrArg some e3
theorem namesEq_symm {o1 o2 : Ob} (n1 : (o1.map (·.1)).Nodup) (n2 : (o2.map (·.1)).Nodup) (h : NamesEq o1 o2) : NamesEq o2 o1 := by
  refine ⟨h.1.symm, fun q hq => ?_⟩
  have hm : q.1 ∈ o1.map (·.1) := (namesEq_perm n1 h).mem_iff.mpr (List.mem_map_of_mem (f := (·.1)) hq)
  obtain ⟨p, hp, e⟩ := List.mem_map.mp hm
  have a1 := h.2 p hp
  have e' : p.1 = q.1 := e
  rw [e', lookup_at n2 hq] at a1
  have a2 := lookup_at n1 hp
  rw [e'] at a2
  rw [a2, Option.some.inj a1]
theorem renL_keys (ord : List Nat) (l : Ob) : (renL ord l).map (·.1) = l.map (·.1) := by
  unfold renL
  rw [List.map_map]
  rfl
theorem formEq_symm {f1 f2 : List Str} {r1 r2 : List Ob} {n1 n2 : Ob} (d1 : (n1.map (·.1)).Nodup) (d2 : (n2.map (·.1)).Nodup) (h : FormEq f1 r1 n1 f2 r2 n2) : FormEq f2 r2 n2 f1 r1 n1 := ⟨h.1.symm, h.2.1.symm, namesEq_symm d1 d2 h.2.2⟩
/-- what the law's walk told, and the normal forms -/
def DueIs (fs fs2 : List Str) (os os3 : List Ob) (l l3 : Ob) (r : Bool) : Prop :=
  (r = true → fs2 = fs ∧ (∃ ys, Srt l ys ∧ Srt l3 ys) ∧ ∃ i q, wk os os3 fs (prsF (nmp l l3) []) i = some q ∧ q.length ≤ i) ∧
  (r = false → fs2 ≠ fs ∨ (¬ ∃ ys, Srt l ys ∧ Srt l3 ys) ∨ ∃ i, wk os os3 fs (prsF (nmp l l3) []) i = none)
theorem DueIs.form {fs fs2 : List Str} {os os3 : List Ob} {l l3 : Ob} {r : Bool} {o1 o2 : List Nat} (d : DueIs fs fs2 os os3 l l3 r) (G1 : Good fs os l) (G2 : Good fs2 os3 l3) (h1 : OrdOf os fs l o1) (h2 : OrdOf os3 fs2 l3 o2) (n1 : o1.Nodup) (n2 : o2.Nodup) :
    r = true ↔ FormEq fs (o1.map (row os fs o1)) (renL o1 l) fs2 (o2.map (row os3 fs2 o2)) (renL o2 l3) := by
  constructor
  · intro e
    obtain ⟨e1, hk, i, q, hw, hl⟩ := d.1 e
    subst e1
    exact wk_form G1 G2 h1 h2 hk hw hl
  · intro F
    have e1 := F.1
    subst e1
    have pk : (l.map (·.1)).Perm (l3.map (·.1)) := by
      have := namesEq_perm (by rw [renL_keys]; exact G1.ln) F.2.2
      rwa [renL_keys, renL_keys] at this
    cases r with
    | true => rfl
    | false =>
      rcases d.2 rfl with h | h | ⟨i, h⟩
      · exact absurd rfl h
      · obtain ⟨ys, s1, _⟩ := h1
        exact absurd ⟨ys, s1, s1.1.trans pk, s1.2⟩ h
      · obtain ⟨q, e⟩ := form_wk G1 G2 h1 h2 n1 n2 (fun z hz => pk.mem_iff.mp hz) F i
        rw [h] at e
        cases e
/-- the part that both makings need -/
def MkQ (K : PySem.W.Frag) (C : Addr) (H : Hp) (fs : List Str) (os : List Ob) (l : Ob) (Q : VK) : Prop := ∀ (x : Addr) (p : HP) (H' : Hp), Same H H' → H x = none → HeapAt K C H' x fs os l p → (∀ b, (b = p.tF ∨ b = p.rD ∨ b = p.nD ∨ b ∈ p.ds2) → H b = none) → Q (.ref x) H'
abbrev S_law : Stmt := topS 38
abbrev N_law : List Str := ["_law_script", "_law_pool", "_law_size", "_law_change_here", "_law_count", "_law_total", "_law_fields", "_law_words_here", "_law_objects_here", "_law_names_here", "_law_built", "_law_second_here", "_law_others", "_law_name", "_law_second_fields", "_law_due", "_law_one", "_law_item", "_law_two", "_law_strange"]
abbrev P_law : List Str := ["_law_script"]
theorem sc_law : FnScope N_law P_law (defScope S_law) := ⟨rfl, rfl, rfl, by decide +kernel, rfl, by decide +kernel, by decide +kernel⟩
section
variable {P : Program} {w : World} {K : PySem.W.Frag} {mg : Str → Option Value} {base : Heap}
set_option maxHeartbeats 8000000 in
theorem ok_law {f fD fWs fO fN fI fOb fNm fE fS fM fG fA C Pt : Addr} {fd fdD fdWs fdO fdN fdI fdOb fdNm fdE fdS fdM fdG fdA : FuncData} (F : Fun K "law" "law" S_law f fd) (B : Bl mg) (T0 : HC K mg C)
    (d_law_draw : Df K mg "_law_draw" S_law_draw fD fdD P_law_draw) (G_law_draw : FnOk P w K mg base CX0 1 fD fdD P_law_draw spDraw)
    (d_law_words : Df K mg "_law_words" S_law_words fWs fdWs P_law_words) (G_law_words : FnOk P w K mg base CX0 3 fWs fdWs P_law_words spWords)
    (d_law_objects : Df K mg "_law_objects" S_law_objects fO fdO P_law_objects) (G_law_objects : FnOk P w K mg base CX0 3 fO fdO P_law_objects spObjects)
    (d_law_names : Df K mg "_law_names" S_law_names fN fdN P_law_names) (G_law_names : FnOk P w K mg base CX0 2 fN fdN P_law_names spNames)
    (M_heap : Mk K C fI) (b_init : Binds K fdI P_Heap___init__ []) (G_init : FnOk P w K mg base CX0 6 fI fdI P_Heap___init__ (spInit K C Pt))
    (M_obs : Meth K C "objects" fOb) (G_obs : FnOk P w K mg base CX0 1 fOb fdOb P_Heap_objects (spObs K C)) (b_obs : Binds K fdOb P_Heap_objects [])
    (M_nms : Meth K C "names" fNm) (G_nms : FnOk P w K mg base CX0 1 fNm fdNm P_Heap_names (spNms K C)) (b_nms : Binds K fdNm P_Heap_names [])
    (T4 : HC4 K C fE) (T5 : HC5 K C) (G_eq : FnOk P w K mg base CX0 4 fE fdE P_Heap___eq__ (spEqK K C)) (b_eq : Binds K fdE P_Heap___eq__ [])
    (d_law_second : Df K mg "_law_second" S_law_second fS fdS P_law_second) (G_law_second : FnOk P w K mg base CX0 3 fS fdS P_law_second spSecond)
    (d_law_moved : Df K mg "_law_moved" S_law_moved fM fdM P_law_moved) (G_law_moved : FnOk P w K mg base CX0 1 fM fdM P_law_moved spMoved)
    (d_law_change : Df K mg "_law_change" S_law_change fG fdG P_law_change) (G_law_change : FnOk P w K mg base CX0 3 fG fdG P_law_change spChange)
    (d_law_alike : Df K mg "_law_alike" S_law_alike fA fdA P_law_alike) (G_law_alike : FnOk P w K mg base CX0 2 fA fdA P_law_alike (spAlike K)) : FnOk P w K mg base CX0 8 f fd P_law (spLaw K Pt) := by
  refine F.ok sc_law (fun vs H Q E h => ?_) (fun cdv A outer s H vs Q E hr h => ?_)
  · obtain ⟨a, ns, rfl, _⟩ := h
    rfl
  · obtain ⟨a, ns, rfl, hTb, hS, hl, k⟩ := h
    have hr_law_draw : Room 1 _ := hr.mono (by decide)
    have hr_law_words : Room 3 _ := hr.mono (by decide)
    have hr_law_objects : Room 3 _ := hr.mono (by decide)
    have hr_law_names : Room 2 _ := hr.mono (by decide)
    have hr_init : Room 7 _ := hr.mono (by decide)
    have hr_obs : Room 1 _ := hr.mono (by decide)
    have hr_nms : Room 1 _ := hr.mono (by decide)
    have hr_eq : Room 4 _ := hr.mono (by decide)
    have hr_law_second : Room 3 _ := hr.mono (by decide)
    have hr_law_moved : Room 1 _ := hr.mono (by decide)
    have hr_law_change : Room 3 _ := hr.mono (by decide)
    have hr_law_alike : Room 2 _ := hr.mono (by decide)
    have hr1 : Room (0 + 1) _ := hr.mono (by decide)
    have hu0 := hr1.units0
    have hu64 : (A.deeper (envOfC "law" (defScope S_law) s.heap.objs.size f cdv)).units + 64 < cLine := by have := hr.un; omega
    have hu := hu_of hr
    refine ⟨_, (pss_cons (ps_set (i := 1) sc_law.nd rfl (by first | exact Or.inl rfl | exact Or.inr rfl) (pe_lst (pa_cons (pe_callTy call_list_of (by rfl) B.m_list (by decide +kernel) (pa_cons (pe_slice sl_list (pv 0) po_none (po_some pe_int)) pa_nil)) (pa_cons pe_int (pa_cons pe_int pa_nil)))))
 (pss_cons (ps_set (i := 2) sc_law.nd rfl (by first | exact Or.inl rfl | exact Or.inr rfl) pe_int)
 (pss_cons (ps_cut (ps_if (pt_cmpR op_eq (pe_call G_law_draw hr_law_draw rfl d_law_draw.g d_law_draw.F.kp d_law_draw.b .nil pass0 (pa_cons (pv 1) (pa_cons pe_int pa_nil))) pe_int (nomark _)) (pss_one (ps_set (i := 2) sc_law.nd rfl (by first | exact Or.inl rfl | exact Or.inr rfl) pe_int)) pss_nil))
 (pss_cons (ps_set (i := 3) sc_law.nd rfl (by first | exact Or.inl rfl | exact Or.inr rfl) (pe_call G_law_draw hr_law_draw rfl d_law_draw.g d_law_draw.F.kp d_law_draw.b .nil pass0 (pa_cons (pv 1) (pa_cons pe_int pa_nil))))
 (pss_cons (ps_set (i := 4) sc_law.nd rfl (by first | exact Or.inl rfl | exact Or.inr rfl) (pe_call G_law_draw hr_law_draw rfl d_law_draw.g d_law_draw.F.kp d_law_draw.b .nil pass0 (pa_cons (pv 1) (pa_cons (pv 2) pa_nil))))
 (pss_cons (ps_cut (ps_set (i := 5) sc_law.nd rfl (by first | exact Or.inl rfl | exact Or.inr rfl) (pe_op op_add (pv 4) (pe_call G_law_draw hr_law_draw rfl d_law_draw.g d_law_draw.F.kp d_law_draw.b .nil pass0 (pa_cons (pv 1) (pa_cons pe_int pa_nil))))))
 (pss_cons (ps_set (i := 6) sc_law.nd rfl (by first | exact Or.inl rfl | exact Or.inr rfl) (pe_call G_law_words hr_law_words rfl d_law_words.g d_law_words.F.kp d_law_words.b .nil pass0 (pa_cons (pv 1) (pa_cons pe_int (pa_cons pe_int pa_nil)))))
 (pss_cons (ps_set (i := 7) sc_law.nd rfl (by first | exact Or.inl rfl | exact Or.inr rfl) (pe_call G_law_words hr_law_words rfl d_law_words.g d_law_words.F.kp d_law_words.b .nil pass0 (pa_cons (pv 1) (pa_cons pe_int (pa_cons pe_int pa_nil)))))
 (pss_cons (ps_set (i := 8) sc_law.nd rfl (by first | exact Or.inl rfl | exact Or.inr rfl) (pe_call G_law_objects hr_law_objects rfl d_law_objects.g d_law_objects.F.kp d_law_objects.b .nil pass0 (pa_cons (pv 1) (pa_cons (pv 6) (pa_cons (pv 4) pa_nil)))))
 (pss_cons (ps_set (i := 9) sc_law.nd rfl (by first | exact Or.inl rfl | exact Or.inr rfl) (pe_call G_law_names hr_law_names rfl d_law_names.g d_law_names.F.kp d_law_names.b .nil pass0 (pa_cons (pv 1) (pa_cons (pv 7) (pa_cons (pv 4) pa_nil)))))
 (pss_cons (ps_set (i := 10) sc_law.nd rfl (by first | exact Or.inl rfl | exact Or.inr rfl) (pe_call G_law_second hr_law_second rfl d_law_second.g d_law_second.F.kp d_law_second.b .nil pass0 (pa_cons (pv 1) (pa_cons (pv 6) (pa_cons (pv 8) (pa_cons (pv 4) (pa_cons (pv 5) pa_nil)))))))
 (pss_cons (ps_set (i := 11) sc_law.nd rfl (by first | exact Or.inl rfl | exact Or.inr rfl) (pe_ix ix_tup (pv 10) pe_int (fun _ _ => rfl)))
 (pss_cons (ps_set (i := 12) sc_law.nd rfl (by first | exact Or.inl rfl | exact Or.inr rfl) pe_dnewK)
 (pss_cons (ps_cut (ps_for PassesOwn.never rfl (pi_list (pe_callBK cr_sortedRevS (by rfl) B.m_sorted (by decide +kernel) (pa_cons (pv 7) pa_nil) (pk_cons pe_bl pk_nil))) (pg_name (i := 13) sc_law.nd rfl (by first | exact Or.inl rfl | exact Or.inr rfl)) (pss_one (ps_dput hu (pv 12) (pv 13) (pe_call G_law_moved hr_law_moved rfl d_law_moved.g d_law_moved.F.kp d_law_moved.b .nil pass0 (pa_cons (pe_dget hu (pv 9) (pv 13) (fun _ _ => rfl)) (pa_cons (pe_ix ix_tup (pv 10) pe_int (fun _ _ => rfl)) pa_nil))) rfl))))
 (pss_cons (ps_cut (ps_expr (pe_call G_law_change hr_law_change rfl d_law_change.g d_law_change.F.kp d_law_change.b .nil pass0 (pa_cons (pv 1) (pa_cons (pv 3) (pa_cons (pv 6) (pa_cons (pv 11) (pa_cons (pv 12) pa_nil))))))))
 (pss_cons (ps_set (i := 14) sc_law.nd rfl (by first | exact Or.inl rfl | exact Or.inr rfl) (pe_callTy call_list_of (by rfl) B.m_list (by decide +kernel) (pa_cons (pv 6) pa_nil)))
 (pss_cons (ps_cut (ps_if (pt_cmpR op_eq (pv 3) pe_int (nomark _)) (pss_one (ps_expr (pe_bm0 PySem.F.plainAttrs_list PySem.F.slot_list_reverse PySem.F.type_list_reverse mt_reverse (pv 14)))) pss_nil))
 (pss_cons (ps_cut (ps_set (i := 15) sc_law.nd rfl (by first | exact Or.inl rfl | exact Or.inr rfl) (pe_and (pe_cmpR (op_eqD hu64) (pv 14) (pv 6) (nomark _)) (pe_one (pe_call G_law_alike hr_law_alike rfl d_law_alike.g d_law_alike.F.kp d_law_alike.b .nil pass0 (pa_cons (pv 6) (pa_cons (pv 8) (pa_cons (pv 11) (pa_cons (pv 9) (pa_cons (pv 12) pa_nil))))))))))
 (pss_cons (ps_cut (ps_set (i := 16) sc_law.nd rfl (by first | exact Or.inl rfl | exact Or.inr rfl) (pe_make M_heap G_init hr_init rfl T0.g b_init .nil pass0 (pa_cons (pv 6) (pa_cons (pe_lc (own := [("_law_item", 17)]) (g := gName 17) (tt := tYes) rfl sc_law.nd (pi_list (pv 8)) (blkOk_by (own := [("_law_item", 17)]) (N := N_law) (sc := defScope S_law) (by decide +kernel)) (fun _ _ _ _ _ => (pg_name (i := 17) sc_law.nd rfl (by first | exact Or.inl rfl | exact Or.inr rfl))) (fun _ _ _ _ _ => pts_nil) (fun _ _ _ _ _ => (pe_callTy call_dictD (by rfl) B.m_dict (by decide +kernel) (pa_cons (pv 17) pa_nil)))) (pa_cons (pe_callTy call_dictD (by rfl) B.m_dict (by decide +kernel) (pa_cons (pv 9) pa_nil)) pa_nil))))))
 (pss_cons (ps_cut (ps_set (i := 18) sc_law.nd rfl (by first | exact Or.inl rfl | exact Or.inr rfl) (pe_make M_heap G_init hr_init rfl T0.g b_init .nil pass0 (pa_cons (pv 14) (pa_cons (pe_lc (own := [("_law_item", 17)]) (g := gName 17) (tt := tYes) rfl sc_law.nd (pi_list (pv 11)) (blkOk_by (own := [("_law_item", 17)]) (N := N_law) (sc := defScope S_law) (by decide +kernel)) (fun _ _ _ _ _ => (pg_name (i := 17) sc_law.nd rfl (by first | exact Or.inl rfl | exact Or.inr rfl))) (fun _ _ _ _ _ => pts_nil) (fun _ _ _ _ _ => (pe_callTy call_dictD (by rfl) B.m_dict (by decide +kernel) (pa_cons (pv 17) pa_nil)))) (pa_cons (pe_callTy call_dictD (by rfl) B.m_dict (by decide +kernel) (pa_cons (pv 12) pa_nil)) pa_nil))))))
 (pss_cons (ps_cut (ps_if (PW.pt (pw_or (pt_cmpR op_ne (pe_cmpR (op_eqO G_eq hr_eq hu0 T4.es T4.ef b_eq pass0) (pv 16) (pv 18) (nomark _)) (pv 15) (nomark _)) (pw_or (pt_cmpR op_ne (pe_cmpR (op_eqO G_eq hr_eq hu0 T4.es T4.ef b_eq pass0) (pv 18) (pv 16) (nomark _)) (pv 15) (nomark _)) (pw_or1 (pt_cmpR op_notBl (pe_cmpR (op_eqO G_eq hr_eq hu0 T4.es T4.ef b_eq pass0) (pv 16) (pv 16) (nomark _)) pe_bl (nomark _)))))) (pss_one (ps_ret pe_bl)) pss_nil))
 (pss_cons (ps_for PassesOwn.never rfl (pi_list (pe_lst (pa_cons pe_non (pa_cons pe_str (pa_cons pe_int (pa_cons (pv 8) (pa_cons (pv 9) pa_nil))))))) (pg_name (i := 19) sc_law.nd rfl (by first | exact Or.inl rfl | exact Or.inr rfl)) (pss_one (ps_if (pt_cmpR op_notBl (pe_cmpR (op_eqO G_eq hr_eq hu0 T4.es T4.ef b_eq pass0) (pv 16) (pv 19) (nomark _)) pe_bl (nomark _)) (pss_one (ps_ret pe_bl)) pss_nil)))
 (pss_one (ps_ret (pe_and (pe_cmpR (op_eqG (rcG_list mon_dict eqG_dict) hr1) (pe_meth0 (pv 16) T0.cl M_obs G_obs hr_obs b_obs .nil pass0) (pv 8) (nomark _)) (pe_and (pe_cmpR (op_eq_dictA hu0) (pe_meth0 (pv 16) T0.cl M_nms G_nms hr_nms b_nms .nil pass0) (pv 9) (nomark _)) (pe_and (pe_cmpR (op_eqG (rcG_list mon_dict eqG_dict) hr1) (pe_meth0 (pv 18) T0.cl M_obs G_obs hr_obs b_obs .nil pass0) (pv 11) (nomark _)) (pe_one (pe_cmpR (op_eq_dictA hu0) (pe_meth0 (pv 18) T0.cl M_nms G_nms hr_nms b_nms .nil pass0) (pv 12) (nomark _)))))))))))))))))))))))))))))), ?_⟩
    -- the pool
    obtain ⟨ms, hms, lms⟩ := cut_ints ns none (some 63)
    refine ⟨_, rfl, _, rfl, a, _, rfl, hS, fun q1 hq1 => ?_⟩
    rw [hms]
    refine ⟨q1, _, rfl, .inl (SqL.of upd_same), fun c hc => ⟨by show 3 ≤ sizeLine; decide, fun p hp => ?_⟩⟩
    let H0 : Hp := upd (upd (upd H q1 (.lst (ms.map V.int))) c (.lst (ms.map V.int))) p (.lst [.ref c, .int 0, .int 0])
    have cp : c ≠ p := ne_of_none upd_same hp
    have P0 : Pool p c H0 := ⟨cp.symm, ms, 0, 0, upd_same, (upd_ne cp).trans upd_same, by omega⟩
    have hT0 : Tabs (TB1 Pt) H0 := hTb.ext fun b o e => (upd_ne (ne_of_none ((upd_ne (ne_of_none ((upd_ne (ne_of_none e hq1)).trans e) hc)).trans ((upd_ne (ne_of_none e hq1)).trans e)) hp)).trans ((upd_ne (ne_of_none ((upd_ne (ne_of_none e hq1)).trans e) hc)).trans ((upd_ne (ne_of_none e hq1)).trans e))
    -- the sizes
    -- the sizes
    refine ⟨fun σ H1 => ∃ z2 : Int, 1 ≤ z2 ∧ z2 ≤ 61 ∧ σ = [some (.ref a), some (.ref p), some (.int z2), none, none, none, none, none, none, none, none, none, none, none, none, none, none, none, none, none] ∧ Pool p c H1 ∧ Tabs (TB1 Pt) H1,
      ⟨_, rfl, p, c, _, rfl, P0, by decide, by decide, fun r H1 r0 r1 P1 f1 => ⟨rfl, _, rfl, ite_dec (fun _ => ⟨_, by decide, by decide, rfl, P1, TW.Tabs.fr hT0 P0 f1⟩) (fun _ => ⟨_, by decide, by decide, rfl, P1, TW.Tabs.fr hT0 P0 f1⟩)⟩⟩, ?_⟩
    rintro σ H1 ⟨z2, g21, g22, rfl, P1, hT1⟩
    refine ⟨_, rfl, p, c, _, rfl, P1, by decide, by decide, fun ch Hc ch0 ch1 Pc fc => ?_⟩
    refine ⟨_, rfl, _, rfl, p, c, _, rfl, Pc, by omega, log_small (by omega) (by omega), fun cn H2 c0 c1 P2 f2 => ?_⟩
    obtain ⟨n, rfl⟩ : ∃ n : Nat, cn = (n : Int) := ⟨cn.toNat, by omega⟩
    have hn : n ≤ 60 := by omega
    refine ⟨fun σ H' => ∃ tot : Nat, n ≤ tot ∧ tot ≤ 64 ∧ σ = [some (.ref a), some (.ref p), some (.int z2), some (.int ch), some (.int (n : Int)), some (.int (tot : Int)), none, none, none, none, none, none, none, none, none, none, none, none, none, none] ∧ Pool p c H' ∧ Tabs (TB1 Pt) H', ?_, ?_⟩
    · refine ⟨_, rfl, _, rfl, p, c, _, rfl, P2, by decide, by decide, fun r H3 r0 r1 P3 f3 => ⟨_, _, rfl, rfl, n + r.toNat, by omega, by omega, ?_, P3, TW.Tabs.fr (TW.Tabs.fr (TW.Tabs.fr hT1 P1 fc) Pc f2) P2 f3⟩⟩
      have e : (n : Int) + r = ((n + r.toNat : Nat) : Int) := by omega
      rw [← e]
      rfl
    rintro σ H2b ⟨tot, gt1, gt2, rfl, P2b, hT2⟩
    refine ⟨_, rfl, p, c, 1, 2, rfl, P2b, by decide, by decide, fun aF fs H3 nF hF3 fl1 fl2 fnd fw P3 f3 => ?_⟩
    obtain ⟨Fp, Fc⟩ := P2b.np nF
    refine ⟨_, rfl, p, c, 0, 6, rfl, P3, by decide, by decide, fun aW wds H4 nW hW4 wl1 wl2 wnd ww P4 f4 => ?_⟩
    obtain ⟨Wp, Wc⟩ := P3.np nW
    have hF4 := f4 _ _ Fp Fc hF3
    refine ⟨_, rfl, _, rfl, _, rfl, p, c, aF, fs, n, rfl, P4, ⟨Fp, Fc⟩, hF4, fnd, by omega, by omega, fun aO ds os H5 nO nds lo O5 P5 f5 => ?_⟩
    obtain ⟨Op, Oc⟩ := P4.np nO
    have oD : Off p c ds := fun d hd => P4.np (nds d hd).1
    have hW5 := f5 _ _ Wp Wc hW4
    have hF5 := f5 _ _ Fp Fc hF4
    refine ⟨_, rfl, _, rfl, _, rfl, p, c, aW, wds, n, rfl, P5, ⟨Wp, Wc⟩, hW5, wnd, by omega, by omega, fun aN l H6 nN hN6 lw lk P6 f6 => ?_⟩
    obtain ⟨Np, Nc⟩ := P5.np nN
    have hF6 := f6 _ _ Fp Fc hF5
    have hW6 := f6 _ _ Wp Wc hW5
    have O6 := O5.fr ⟨Op, Oc⟩ oD f6
    subst lo
    have ll : l.length = wds.length := by rw [← lw, List.length_map]
    have G : Good fs os l := ⟨fw, fnd, fl1, fl2, by omega, O6.ks, O6.ok, by rw [lw]; exact ww, by rw [lw]; exact wnd, by omega, lk⟩
    -- the second objects
    refine ⟨_, rfl, _, rfl, _, rfl, _, rfl, _, rfl, p, c, aF, aO, fs, ds, os, tot, rfl, P6, ⟨Fp, Fc⟩, ⟨Op, Oc⟩, oD, hF6, fnd, by omega, O6, gt1, by omega, fun t S D sl d2 os2 H7 nt nS nD nd2 ht hS pm lo2 O7 P7 f7 => ?_⟩
    have tpc := P6.np nt
    have Spc := P6.np nS
    have Dpc := P6.np nD
    have oD2 : Off p c d2 := fun d hd => P6.np (nd2 d hd)
    have hF7 := f7 _ _ Fp Fc hF6
    have hW7 := f7 _ _ Wp Wc hW6
    have hN7 := f7 _ _ Np Nc hN6
    subst lo2
    refine ⟨_, rfl, t, _, 1, _, rfl, rfl, SqT.of ht, rfl, ?_⟩
    intro aX hX
    have Xpc := P7.np hX
    have oX7 : ∀ {b : Addr} {o : HO}, H7 b = some o → b ≠ aX := fun {b o} e => ne_of_none e hX
    -- the others
    refine ⟨fun σ H' => ∃ (z13 : Option V) (lo : Ob), σ = [some (.ref a), some (.ref p), some (.int z2), some (.int ch), some (.int (os.length : Int)), some (.int (os2.length : Int)), some (.ref aF), some (.ref aW), some (.ref aO), some (.ref aN), some (.ref t), some (.ref D), some (.ref aX), z13, none, none, none, none, none, none] ∧ H' aX = some (.dK (dk lo)) ∧ NOk os2.length wds lo ∧ Same H7 H', ?_, ?_⟩
    · refine ⟨_, rfl, aW, wds, rfl, rfl, SqL.of ((upd_ne (oX7 hW7)).trans hW7), fun ys p2 pm2 hp2 => ⟨p2, rfl, ⟨_, SqL.of upd_same⟩, ?_⟩⟩
      have s8 : Same H7 (upd H7 aX (.dK [])) := same_new hX
      have s9 := s8.trans (same_new (o := .lst (ys.map V.str)) hp2)
      have Xp2 : aX ≠ p2 := fun e => by rw [← e, upd_same] at hp2; cases hp2
      refine for_list (xs := ys.map V.str) (fun i σ H2 => ∃ (z13 : Option V) (lo : Ob), σ = [some (.ref a), some (.ref p), some (.int z2), some (.int ch), some (.int (os.length : Int)), some (.int (os2.length : Int)), some (.ref aF), some (.ref aW), some (.ref aO), some (.ref aN), some (.ref t), some (.ref D), some (.ref aX), z13, none, none, none, none, none, none] ∧ H2 aX = some (.dK (dk lo)) ∧ H2 p2 = some (.lst (ys.map V.str)) ∧ lo.map (·.1) = ys.take i ∧ okl os2.length lo ∧ Same H7 H2) ⟨_, [], rfl, (upd_ne Xp2).trans upd_same, upd_same, rfl, fun q hq => (nomatch hq), s9⟩ ?_ ?_ ?_
      · rintro i σ H2 hi ⟨z13, lo, rfl, hx2, h2, hk, ok2, s2⟩
        exact SqL.of h2
      · rintro i x σ H2 hx ⟨z13, lo, rfl, hx2, h2, hk, ok2, s2⟩
        obtain ⟨y, hy, rfl⟩ := get_str hx
        have hil : i < ys.length := (List.getElem?_eq_some_iff.mp hy).1
        have ym : y ∈ l.map (·.1) := by rw [lw]; exact pm2.mem_iff.mp (List.mem_of_getElem? hy)
        have hN2 := s2 _ _ hN7
        have gd : DGet H2 aN (kV (Sum.inr y : Key)) (some (hv (nmv l y))) := .inl ⟨dk l, (Sum.inr y : Key), .inl hN2, rfl, (nmv_val ym).symm⟩
        have vok : ∀ k, nmv l y = some k → k ∈ sl := fun k hk2 => pm.mem_iff.mpr (List.mem_range.mpr (by
          obtain ⟨p0, hp0, e0⟩ := List.mem_map.mp ym
          obtain ⟨j, hj, ej⟩ := List.getElem_of_mem hp0
          have e1 : nmv l p0.1 = p0.2 := nmv_at (by rw [lw]; exact wnd) (by rw [List.getElem?_eq_getElem hj, ej])
          rw [e0, hk2] at e1
          have := lk p0 hp0
          rw [← e1] at this
          have h3 : k < os.length := this
          omega))
        refine ⟨_, rfl, _, rfl, aN, _, rfl, gd, ?_⟩
        refine ⟨_, rfl, t, _, 0, _, rfl, rfl, SqT.of (s2 _ _ ht), rfl, S, sl, _, rfl, s2 _ _ hS, vok, fun v' hv' => ?_⟩
        have lsl : sl.length = os2.length := by rw [pm.length_eq, List.length_range]
        rw [lsl] at hv'
        have ly : lo.length = i := by
          have := congrArg List.length hk
          rw [List.length_map, List.length_take] at this
          omega
        have yl := pm2.length_eq
        refine ⟨_, rfl, _, rfl, aX, _, rfl, DPut.k (k := (Sum.inr y : Key)) hx2 (by rw [dk_len]; exact small1000 (by omega)), ?_⟩
        have nin : y ∉ lo.map (·.1) := by
          rw [hk]
          intro hm
          obtain ⟨j, hj, ej⟩ := List.getElem_of_mem hm
          rw [List.length_take] at hj
          rw [List.getElem_take] at ej
          have nd : ys.Nodup := pm2.nodup_iff.mpr wnd
          have e1 := nd.idxOf_getElem j (by omega)
          have e2 := nd.idxOf_getElem i hil
          have e3 : ys[i] = y := (List.getElem?_eq_some_iff.mp hy).2
          rw [ej] at e1
          rw [e3] at e2
          omega
        rw [dk_put nin]
        refine ⟨_, lo ++ [(y, v')], rfl, upd_same, (upd_ne Xp2.symm).trans h2, ?_, fun q hq => ?_, fun b o e => (upd_ne (oX7 e)).trans (s2 _ _ e)⟩
        · rw [List.map_append, hk, take_next hy]; rfl
        · rcases List.mem_append.mp hq with hq | hq
          · exact ok2 q hq
          · rw [List.mem_singleton.mp hq]; exact hv'
      · rintro σ H2 ⟨z13, lo, rfl, hx2, h2, hk, ok2, s2⟩
        rw [List.length_map, List.take_length] at hk
        refine ⟨z13, lo, rfl, hx2, ⟨by rw [hk]; exact pm2.nodup_iff.mpr wnd, fun z hz => by rw [hk] at hz; exact pm2.mem_iff.mp hz, ok2, ?_⟩, s2⟩
        have := congrArg List.length hk
        rw [List.length_map, pm2.length_eq] at this
        omega
    rintro σ H8 ⟨z13, lo, rfl, hX8, NK8, s8⟩
    -- the change
    have aFd2 : aF ∉ d2 := fun m => by have := nd2 _ m; rw [hF6] at this; cases this
    have aXd2 : aX ∉ d2 := fun m => by
      obtain ⟨i, hi, e'⟩ := List.getElem_of_mem m
      have hi2 : i < os2.length := by rw [← O7.len]; exact hi
      have := O7.at' i aX os2[i] (by rw [List.getElem?_eq_getElem hi, e']) (List.getElem?_eq_getElem hi2)
      rw [hX] at this
      cases this
    have m200 : os2.length ≤ 200 := by omega
    refine ⟨fun σ H' => ∃ (os3 : List Ob) (l3 : Ob), σ = [some (.ref a), some (.ref p), some (.int z2), some (.int ch), some (.int (os.length : Int)), some (.int (os2.length : Int)), some (.ref aF), some (.ref aW), some (.ref aO), some (.ref aN), some (.ref t), some (.ref D), some (.ref aX), z13, none, none, none, none, none, none] ∧ os3.length = os2.length ∧ ObjsAt H' D d2 fs os2.length os3 ∧ H' aX = some (.dK (dk l3)) ∧ NOk os2.length wds l3 ∧ Pool p c H' ∧ Fr p c H6 H', ?_, ?_⟩
    · refine ⟨_, rfl, _, rfl, _, rfl, _, rfl, _, rfl, p, c, aF, D, aX, ch, fs, d2, os2, lo, wds, rfl, P7.same s8, ⟨Fp, Fc⟩, Dpc, Xpc, oD2, s8 _ _ hF7, fl1, by omega, O7.same s8, m200, hX8, aXd2, NK8, fun os3 l3 H9 len3 O9 hX9 NK9 P9 fr9 => ?_⟩
      refine ⟨os3, l3, rfl, len3, O9, hX9, NK9, P9, fun b o n1 n2 e => fr9 _ _ (s8 _ _ (f7 _ _ n1 n2 e)) n1 n2 (fun m => ?_) (oX7 (f7 _ _ n1 n2 e))⟩
      have := nd2 _ m
      rw [e] at this
      cases this
    rintro σ H9 ⟨os3, l3, rfl, len3, O9, hX9, NK9, P9, f9⟩
    have hF9 := f9 _ _ Fp Fc hF6
    have hT6 : Tabs (TB1 Pt) H6 := TW.Tabs.fr (TW.Tabs.fr (TW.Tabs.fr (TW.Tabs.fr hT2 P2b f3) P3 f4) P4 f5) P5 f6
    have hT9 : Tabs (TB1 Pt) H9 := TW.Tabs.fr hT6 P6 f9
    have O1 := O6.fr ⟨Op, Oc⟩ oD f9
    have hN9 := f9 _ _ Np Nc hN6
    have O2 : ObjsAt H9 D d2 fs os3.length os3 := by rw [len3]; exact O9
    have G2 : Good fs os3 l3 := ⟨fw, fnd, fl1, fl2, by omega, O2.ks, O2.ok, fun z hz => ww z (NK9.sub z hz), NK9.nd, NK9.l6, by rw [len3]; exact NK9.ok⟩
    have NX : aN ≠ aX := oX7 hN7
    -- the second fields
    refine ⟨_, rfl, aF, _, rfl, .inl (SqL.of hF9), fun q hq => ?_⟩
    refine ⟨fun σ H' => ∃ fs2 : List Str, fs2.Perm fs ∧ σ = [some (.ref a), some (.ref p), some (.int z2), some (.int ch), some (.int (os.length : Int)), some (.int (os2.length : Int)), some (.ref aF), some (.ref aW), some (.ref aO), some (.ref aN), some (.ref t), some (.ref D), some (.ref aX), z13, some (.ref q), none, none, none, none, none] ∧ H' q = some (.lst (fs2.map V.str)) ∧ Same H9 H', ?_, ?_⟩
    · have sq : Same H9 (upd H9 q (.lst (fs.map V.str))) := same_new hq
      refine ⟨_, rfl, rfl, _, rfl, ite_dec (fun _ => ?_) (fun _ => ⟨fs, List.Perm.refl _, rfl, upd_same, sq⟩)⟩
      refine ⟨_, rfl, .inl ⟨rfl, _, SqL.of upd_same⟩, q, _, rfl, rfl, upd_same, fs.reverse, List.reverse_perm _, rfl, ?_, fun b o e => (upd_ne (ne_of_none e hq)).trans (sq _ _ e)⟩
      rw [upd_same, List.map_reverse]
    rintro σ Ha ⟨fs2, pf, rfl, hqa, sa⟩
    have f2w : ∀ z ∈ fs2, IsW z := fun z hz => fw z (pf.mem_iff.mp hz)
    have hFa := sa _ _ hF9
    have O1a := O1.same sa
    have O2a := O2.same sa
    have hNa := sa _ _ hN9
    have hXa := sa _ _ hX9
    -- what is due
    refine ⟨fun σ H' => ∃ r : Bool, σ = [some (.ref a), some (.ref p), some (.int z2), some (.int ch), some (.int (os.length : Int)), some (.int (os2.length : Int)), some (.ref aF), some (.ref aW), some (.ref aO), some (.ref aN), some (.ref t), some (.ref D), some (.ref aX), z13, some (.ref q), some (.bl r), none, none, none, none] ∧ Same Ha H' ∧ DueIs fs fs2 os os3 l l3 r, ?_, ?_⟩
    · refine ⟨_, rfl, _, rfl, _, _, .lst (SqL.of hqa) (dp_wordsB fs2), .lst (SqL.of hFa) (dp_wordsB fs), shaped_lstB f2w, shaped_lstB fw, _, rfl, ?_⟩
      have ee : PyData.eqv (.list (fs2.map PyData.str)) (.list (fs.map PyData.str)) = decide (fs2 = fs) := eqv_words_dec fs2 fs
      rw [ee]
      refine ite_dec (fun e => ?_) (fun e => ⟨false, rfl, Same.refl _, ⟨fun z => (nomatch z), fun _ => .inl (of_decide_eq_false e)⟩⟩)
      refine ⟨_, rfl, _, rfl, _, rfl, _, rfl, _, rfl, aF, aO, D, aN, aX, fs, ds, d2, os, os3, l, l3, rfl, hFa, O1a, O2a, hNa, hXa, NX, G, G2, fun H' s' hk hw => ⟨true, rfl, s', ⟨fun _ => ⟨of_decide_eq_true e, hk, hw⟩, fun z => nomatch z⟩⟩, fun H' s' hk => ⟨false, rfl, s', ⟨fun z => (nomatch z), fun _ => .inr hk⟩⟩⟩
    rintro σ Hb ⟨r, rfl, sb, due⟩
    have hFb := sb _ _ hFa
    have hTb' : Tabs (TB1 Pt) Hb := (hT9.ext sa).ext sb
    have hqb := sb _ _ hqa
    have O1b := O1a.same sb
    have O2b := O2a.same sb
    have hNb := sb _ _ hNa
    have hXb := sb _ _ hXa
    have G2' : Good fs2 os3 l3 := ⟨f2w, pf.nodup_iff.mpr fnd, by rw [pf.length_eq]; exact fl1, by rw [pf.length_eq]; exact fl2, G2.o2, fun o ho => (G2.oks o ho).trans pf.symm, G2.ook, G2.lw, G2.ln, G2.l6, G2.lk⟩
    -- one
    refine ⟨fun σ H' => ∃ (x : Addr) (p1 : HP), σ = [some (.ref a), some (.ref p), some (.int z2), some (.int ch), some (.int (os.length : Int)), some (.int (os2.length : Int)), some (.ref aF), some (.ref aW), some (.ref aO), some (.ref aN), some (.ref t), some (.ref D), some (.ref aX), z13, some (.ref q), some (.bl r), some (.ref x), none, none, none] ∧ HeapAt K C H' x fs os l p1 ∧ SamE Hb H' ∧ Tabs (TB1 Pt) H', ?_, ?_⟩
    · refine ⟨_, rfl, copy_objs rfl (fun x => rfl) (fun x => rfl) O1b G.o2 fun E1 ds' Hd sd nE1 nds' Od => ?_⟩
      refine ⟨_, rfl, aN, _, rfl, .inl (sd _ _ hNb), fun qN hqN => ?_⟩
      intro x dx nx ndx nex
      have e1 : ∀ {b : Addr} {o : HO}, Hd b = some o → (upd Hd qN (.dK (dk l))) b = some o := fun {b o} e => (upd_ne (ne_of_none e hqN)).trans e
      have s8' : Same Hd (upd (upd (upd Hd qN (.dK (dk l))) dx (.own x)) x (.ins C dx [])) := fun b o e => by
        rw [upd_ne (ne_of_none (e1 e) nx), upd_ne (ne_of_none (e1 e) ndx)]
        exact e1 e
      have hq8 : (upd (upd (upd Hd qN (.dK (dk l))) dx (.own x)) x (.ins C dx [])) qN = some (.dK (dk l)) := by
        rw [upd_ne (ne_of_none upd_same nx), upd_ne (ne_of_none upd_same ndx)]
        exact upd_same
      refine ⟨x, dx, aF, E1, qN, fs, ds', os, l, rfl, (hTb'.ext sd).ext s8', upd_same, .inl (s8' _ _ (sd _ _ hFb)), Od.same s8', hq8, G, fun pp He keep gone T9 A9 new9 => ⟨rfl, ?_⟩⟩
      have s79 : SamE Hd He := ⟨fun b o e nt => keep b o (s8' _ _ e) nt (ne_of_none (e1 e) nx)⟩
      exact ⟨x, pp, rfl, A9, (toE sd).trans s79, T9⟩
    rintro σ Hc ⟨x, p1, rfl, A1, sc, Tc⟩
    -- two
    refine ⟨fun σ H' => ∃ (y : Addr) (p2 : HP), σ = [some (.ref a), some (.ref p), some (.int z2), some (.int ch), some (.int (os.length : Int)), some (.int (os2.length : Int)), some (.ref aF), some (.ref aW), some (.ref aO), some (.ref aN), some (.ref t), some (.ref D), some (.ref aX), z13, some (.ref q), some (.bl r), some (.ref x), none, some (.ref y), none] ∧ HeapAt K C H' y fs2 os3 l3 p2 ∧ Apart p1 p2 ∧ SamE Hc H', ?_, ?_⟩
    · refine ⟨_, rfl, copy_objs rfl (fun x => rfl) (fun x => rfl) ((objs_ext sc.x O2b).perm pf.symm) G2'.o2 fun E1 ds' Hd sd nE1 nds' Od => ?_⟩
      refine ⟨_, rfl, aX, _, rfl, .inl (sd _ _ (sc.g hXb)), fun qN hqN => ?_⟩
      intro y dx nx ndx nex
      have e1 : ∀ {b : Addr} {o : HO}, Hd b = some o → (upd Hd qN (.dK (dk l3))) b = some o := fun {b o} e => (upd_ne (ne_of_none e hqN)).trans e
      have s8' : Same Hd (upd (upd (upd Hd qN (.dK (dk l3))) dx (.own y)) y (.ins C dx [])) := fun b o e => by
        rw [upd_ne (ne_of_none (e1 e) nx), upd_ne (ne_of_none (e1 e) ndx)]
        exact e1 e
      have hq8 : (upd (upd (upd Hd qN (.dK (dk l3))) dx (.own y)) y (.ins C dx [])) qN = some (.dK (dk l3)) := by
        rw [upd_ne (ne_of_none upd_same nx), upd_ne (ne_of_none upd_same ndx)]
        exact upd_same
      refine ⟨y, dx, q, E1, qN, fs2, ds', os3, l3, rfl, (Tc.ext sd).ext s8', upd_same, .inl (s8' _ _ (sd _ _ (sc.g hqb))), Od.same s8', hq8, G2', fun pp He keep gone T9 A9 new9 => ⟨rfl, ?_⟩⟩
      have s79 : SamE Hd He := ⟨fun b o e nt => keep b o (s8' _ _ e) nt (ne_of_none (e1 e) nx)⟩
      have A1x := (A1.same sd).same s8'
      refine ⟨y, pp, rfl, A9, ⟨?_, ne_of_none A1x.r.ls new9.rD, ne_of_none A1x.m new9.nD, fun u hu v hv' => ?_⟩, (toE sd).trans s79⟩
      · rcases new9.tF with h | h
        · exact ne_of_none A1x.f h
        · rw [h]
          exact ne_of A1x.f (s8' _ _ (sd _ _ (sc.g hqb))) (fun z => nomatch z)
      · obtain ⟨i, hi, e'⟩ := List.getElem_of_mem hu
        have hi2 : i < (p1.ord.map (row os fs p1.ord)).length := by rw [← A1x.r.len]; exact hi
        exact ne_of_none (A1x.r.at' i u _ (by rw [List.getElem?_eq_getElem hi, e']) (List.getElem?_eq_getElem hi2)) (new9.ds2 v hv')
    rintro σ He ⟨y, p2, rfl, A2, ap, se⟩
    have A1e := A1.sameE se
    have fi := due.form G G2' A1e.ordOf A2.ordOf A1e.nd A2.nd
    have fi2 : r = true ↔ FormEq fs2 (p2.ord.map (row os3 fs2 p2.ord)) (renL p2.ord l3) fs (p1.ord.map (row os fs p1.ord)) (renL p1.ord l) := by
      have k1 : ((renL p1.ord l).map (·.1)).Nodup := by rw [renL_keys]; exact G.ln
      have k2 : ((renL p2.ord l3).map (·.1)).Nodup := by rw [renL_keys]; exact G2.ln
      exact fi.trans ⟨formEq_symm k1 k2, formEq_symm k2 k1⟩
    have same_b : ∀ {r1 : Bool} {P : Prop}, (r1 = true ↔ P) → (r = true ↔ P) → r1 = r := fun {r1 P} h1 h2 => Bool.eq_iff_iff.mpr (h1.trans h2.symm)
    -- compared
    refine ⟨fun σ H' => σ = [some (.ref a), some (.ref p), some (.int z2), some (.int ch), some (.int (os.length : Int)), some (.int (os2.length : Int)), some (.ref aF), some (.ref aW), some (.ref aO), some (.ref aN), some (.ref t), some (.ref D), some (.ref aX), z13, some (.ref q), some (.bl r), some (.ref x), none, some (.ref y), none] ∧ H' = He, ?_, ?_⟩
    · refine ⟨_, rfl, _, rfl, x, _, _, _, rfl, A1e.ob, T4.ty T0.cl A2.ob, nf_self, x, _, _, fs, os, l, p1, rfl, A1e, T4.ty T0.cl A2.ob, .inr (.inr ⟨y, fs2, os3, l3, p2, rfl, rfl, A2, ap, fun r1 h1 => ⟨r1, rfl, _, rfl, rfl, _, rfl, ?_⟩⟩)⟩
      have e1 := same_b h1 fi
      subst e1
      rw [decide_eq_true rfl]
      refine iteF ?_
      refine ⟨_, rfl, _, rfl, y, _, _, _, rfl, A2.ob, T4.ty T0.cl A1e.ob, nf_self, y, _, _, fs2, os3, l3, p2, rfl, A2, T4.ty T0.cl A1e.ob, .inr (.inr ⟨x, fs, os, l, p1, rfl, rfl, A1e, ap.symm, fun r2 h2 => ⟨r2, rfl, _, rfl, rfl, _, rfl, ?_⟩⟩)⟩
      have e2 := same_b h2 fi2
      subst e2
      rw [decide_eq_true rfl]
      refine iteF ?_
      refine ⟨_, rfl, _, rfl, x, _, _, _, rfl, A1e.ob, T4.ty T0.cl A1e.ob, nf_self, x, _, _, fs, os, l, p1, rfl, A1e, T4.ty T0.cl A1e.ob, .inr (.inl ⟨rfl, rfl, true, rfl, true, true, rfl, rfl, _, rfl, iteF ⟨rfl, rfl⟩⟩)⟩
    rintro σ H' ⟨rfl, rfl⟩
    have hOb := objs_ext se.x (objs_ext sc.x O1b)
    have hNe := se.g (sc.g hNb)
    refine ⟨_, rfl, _, rfl, (by show 5 ≤ sizeLine; decide), fun L hL => ⟨L, rfl, ⟨_, SqL.of upd_same⟩, ?_⟩⟩
    obtain ⟨xs5, e5⟩ : ∃ xs5, xs5 = [V.non, V.str (Str.ofString "heap"), V.int 0, V.ref aO, V.ref aN] := ⟨_, rfl⟩
    rw [← e5]
    obtain ⟨V4, eV4⟩ : ∃ T : Hp, T = upd H' L (.lst xs5) := ⟨_, rfl⟩
    have v4 : Same H' V4 := by rw [eV4]; exact same_new hL
    have h4 : V4 L = some (.lst xs5) := by rw [eV4]; exact upd_same
    rw [← eV4]
    have A14 := A1e.same v4
    have A24 := A2.same v4
    have nb : ∀ z ∈ xs5, ∃ T, TyX K V4 z (.type T) ∧ PySem.W.subIn K (.type T) (.ref C) = some false := by
      intro z hz
      rw [e5] at hz
      simp only [List.mem_cons, List.not_mem_nil, or_false] at hz
      rcases hz with rfl | rfl | rfl | rfl | rfl
      · exact ⟨_, .base .non, T5.sN⟩
      · exact ⟨_, .base (.str _), T5.sS⟩
      · exact ⟨_, .base (.int _), T5.sI⟩
      · exact ⟨_, .base (.lst (v4 _ _ hOb.ls)), T5.sL⟩
      · exact ⟨_, .base (.dK (v4 _ _ hNe)), T5.sD⟩
    refine for_list (xs := xs5) (fun i σ H => ∃ z19 : Option V, σ = [some (.ref a), some (.ref p), some (.int z2), some (.int ch), some (.int (os.length : Int)), some (.int (os2.length : Int)), some (.ref aF), some (.ref aW), some (.ref aO), some (.ref aN), some (.ref t), some (.ref D), some (.ref aX), z13, some (.ref q), some (.bl r), some (.ref x), none, some (.ref y), z19] ∧ H = V4) ⟨_, rfl, rfl⟩ ?_ ?_ ?_
    · rintro i σ H hi ⟨z19, rfl, rfl⟩
      exact SqL.of h4
    · rintro i z σ H hz ⟨z19, rfl, rfl⟩
      obtain ⟨T, ty, sT⟩ := nb z (List.mem_of_getElem? hz)
      exact ⟨_, rfl, _, rfl, x, _, _, _, rfl, A14.ob, ty, nf_ty sT, x, _, _, fs, os, l, p1, rfl, A14, ty, .inl ⟨kit_ty5 T5 sT, false, rfl, false, false, rfl, rfl, _, rfl, iteF ⟨_, rfl, rfl⟩⟩⟩
    rintro σ H ⟨z19, rfl, rfl⟩
    have s4 : SamE Hb H := (sc.trans se).trans (toE v4)
    -- given back
    refine ⟨_, rfl, x, _, _, rfl, A14.ob, hfl_none p1 (by decide +kernel) (by decide +kernel) (by decide +kernel) (by decide +kernel), x, fs, os, l, p1, rfl, A14, fun D1 e1 Hg sg hD1 hd1 Og => ?_⟩
    refine ⟨_, rfl, dlist_objs5 Og ((objs_ext s4.x O1b).same sg) fnd, fun Hh eh => ⟨_, rfl, iteT ?_⟩⟩
    have sh : Same Hg Hh := eh
    have s5 := (s4.trans (toE sg)).trans (toE sh)
    have A1h := (A14.same sg).same sh
    refine ⟨_, rfl, x, _, _, rfl, A1h.ob, hfl_none p1 (by decide +kernel) (by decide +kernel) (by decide +kernel) (by decide +kernel), x, p1, l, rfl, A1h.ob, A1h.n, fun q1' hq1' => ?_⟩
    have si := same_new (o := .dK (dk l)) hq1'
    refine ⟨_, rfl, q1', aN, _, _, rfl, rfl, upd_same, si _ _ (s5.g hNb), rfl, dk_same _ G.ln, ⟨_, rfl, iteT ?_⟩⟩
    have s6 := s5.trans (toE si)
    have A2h := ((A24.same sg).same sh).same si
    refine ⟨_, rfl, y, _, _, rfl, A2h.ob, hfl_none p2 (by decide +kernel) (by decide +kernel) (by decide +kernel) (by decide +kernel), y, fs2, os3, l3, p2, rfl, A2h, fun D3 e3 Hk sk hD3 hd3 Ok => ?_⟩
    refine ⟨_, rfl, dlist_objs5 Ok ((objs_ext s6.x O2b).same sk) G2'.fn, fun Hm em => ⟨_, rfl, iteT ?_⟩⟩
    have sm : Same Hk Hm := em
    have s7 := (s6.trans (toE sk)).trans (toE sm)
    have A2m := (A2h.same sk).same sm
    refine ⟨_, rfl, y, _, _, rfl, A2m.ob, hfl_none p2 (by decide +kernel) (by decide +kernel) (by decide +kernel) (by decide +kernel), y, p2, l3, rfl, A2m.ob, A2m.n, fun q3 hq3 => ?_⟩
    have sn := same_new (o := .dK (dk l3)) hq3
    exact ⟨_, rfl, q3, aX, _, _, rfl, rfl, upd_same, sn _ _ (s7.g hXb), rfl, dk_same _ G2.ln, k _⟩
end
end TW
set_option Elab.async false
set_option linter.all false
set_option maxRecDepth 100000
namespace TW
open PySem PySem.Spec PyProof.Rows L2 TL LamX NdefX LamQ
/-- the def of a name, its code object and that one's table, which is empty -/
def DefTab (x : Str) (mg : Str → Option Value) (h : Heap) : Prop := ∃ (a : Addr) (o : Obj) (fd : FuncData) (c P : Addr), mg x = some (.ref a) ∧ h.get? a = some o ∧ o.data = .func fd ∧ fd.code = .ref c ∧ h.IsCode c P #[] ∧ h.TableAt c P #[]
theorem walk_ofDef {l : PySem.W.OpenLaw} {n k : Nat} {q : Program} {loose : List Str} {XP : (Str → Option Value) → Heap → Prop} {YP : World → Heap → Prop} {d : DefRec} {K : Params → PySem.W.Frag} {CX : World → CXT} {x y : Str}
    (hn : l.most = some n) (hn2 : n ≤ sizeLine) (hdf : d.params.defaults = []) (hr : Room k callerA) (hrec : ((recsOf q).any fun e => e.name == y) = true) (hY : ∀ (w : World) (h : Heap), YP w h → (K w.params).In h)
    (F : ∀ (w : World) (mg : Str → Option Value) (fa : Addr) (h : Heap), YP w h → (K w.params).In h → h.Ns mainGlobals mg → mg d.name = some (.ref fa) → DefTab y mg h → LawAtS l w (K w.params) (CX w) k n x mg fa h)
    (hCX : ∀ (w : World) (H : Hp) (s : Shared) (e : Value) (s' : Shared), CX w [] H s (fun _ _ _ => False) e s' → False) :
    PySem.W.WalkO q loose XP YP l.row.toRowW d [] (fun f vs => PySem.call f vs) := by
  refine Att.attach_callB hn hdf fun w s₀ s₁ mg mb fa o pm cd doc a vs ns G Y ho hd hcd hmg hobj hints hlen hbits hg => ?_
  have KX := hY w _ Y
  have own : DefTab y mg s₁.heap := by
    obtain ⟨dL, hm, hn1⟩ := List.any_eq_true.mp hrec
    have hn2 : dL.name = y := beq_iff_eq.mp hn1
    obtain ⟨a', o', fd', c', P', h1, h2, h3, h4, h5, h6⟩ := G.T.tab dL hm
    rw [hn2] at h1
    exact ⟨a', o', fd', c', P', h1, h2, h3, h4, h5, h6⟩
  obtain ⟨fd, cs, sp, hT, nT, C, hb, hsp, hF⟩ := F w mg fa _ Y KX G.T.g hmg own
  exact law_callTs KX G.T.g G.T.b G.T.builtins G.T.nolimit hg hT nT C G.T.bmain hobj hints (Nat.le_trans hlen hn2) hr hF hb (fun H hH hS => hsp H a ns hlen hbits hH hS) fun H e s' => hCX w H s₁ e s'
set_option maxHeartbeats 4000000 in
theorem all_mk {l : PySem.W.OpenLaw} {w : World} {K : PySem.W.Frag} {h : Heap} {mg : Str → Option Value} {fa C Cn Pt f0 f1 f2 f3 f4 f5 f6 f7 f8 f9 f10 f11 f12 f13 f14 f15 f16 f17 f18 f19 f20 f21 f22 f23 f24 g0 g1 g2 g3 g4 : Addr} (X : K.In h) (G : h.Ns mainGlobals mg) (hfa : mg "law" = some (.ref fa)) (DT : DefTab "normal_form" mg h)
    {od_f0 an_f0 od_f1 an_f1 od_f2 an_f2 od_f3 an_f3 od_f4 an_f4 od_f5 an_f5 od_f6 an_f6 od_f7 an_f7 od_f8 an_f8 od_f9 an_f9 od_f10 an_f10 od_f11 an_f11 od_f12 an_f12 od_f13 an_f13 od_f14 an_f14 od_f15 an_f15 od_f16 an_f16 od_f17 an_f17 od_f18 an_f18 od_f19 an_f19 od_f20 an_f20 od_f21 an_f21 od_f22 an_f22 od_f23 an_f23 od_f24 an_f24 od_g0 an_g0 od_g1 an_g1 od_g2 an_g2 od_g3 an_g3 od_g4 an_g4 : Option Addr} {sl_f0 sl_f1 sl_f2 sl_f3 sl_f4 sl_f5 sl_f6 sl_f7 sl_f8 sl_f9 sl_f10 sl_f11 sl_f12 sl_f13 sl_f14 sl_f15 sl_f16 sl_f17 sl_f18 sl_f19 sl_f20 sl_f21 sl_f22 sl_f23 sl_f24 sl_g0 sl_g1 sl_g2 sl_g3 sl_g4 : Array (Option Value)} {oc_f0 kV_f0 dc_f0 pm_f0 cd_f0 ct_f0 oc_f1 kV_f1 dc_f1 pm_f1 cd_f1 ct_f1 oc_f2 kV_f2 dc_f2 pm_f2 cd_f2 ct_f2 oc_f3 kV_f3 dc_f3 pm_f3 cd_f3 ct_f3 oc_f4 kV_f4 dc_f4 pm_f4 cd_f4 ct_f4 oc_f5 kV_f5 dc_f5 pm_f5 cd_f5 ct_f5 oc_f6 kV_f6 dc_f6 pm_f6 cd_f6 ct_f6 oc_f7 kV_f7 dc_f7 pm_f7 cd_f7 ct_f7 oc_f8 kV_f8 dc_f8 pm_f8 cd_f8 ct_f8 oc_f9 kV_f9 dc_f9 pm_f9 cd_f9 ct_f9 oc_f10 kV_f10 dc_f10 pm_f10 ct_f10 oc_f11 kV_f11 dc_f11 pm_f11 cd_f11 ct_f11 oc_f12 kV_f12 dc_f12 pm_f12 cd_f12 ct_f12 oc_f13 kV_f13 dc_f13 pm_f13 cd_f13 ct_f13 oc_f14 kV_f14 dc_f14 pm_f14 cd_f14 ct_f14 oc_f15 kV_f15 dc_f15 pm_f15 cd_f15 ct_f15 oc_f16 kV_f16 dc_f16 pm_f16 cd_f16 ct_f16 oc_f17 kV_f17 dc_f17 pm_f17 cd_f17 ct_f17 oc_f18 kV_f18 dc_f18 pm_f18 cd_f18 ct_f18 oc_f19 kV_f19 dc_f19 pm_f19 cd_f19 ct_f19 oc_f20 kV_f20 dc_f20 pm_f20 cd_f20 ct_f20 oc_f21 kV_f21 dc_f21 pm_f21 cd_f21 ct_f21 oc_f22 kV_f22 dc_f22 pm_f22 cd_f22 ct_f22 oc_f23 kV_f23 dc_f23 pm_f23 cd_f23 ct_f23 oc_f24 kV_f24 dc_f24 pm_f24 cd_f24 ct_f24 oc_g0 kV_g0 dc_g0 pm_g0 cd_g0 ct_g0 oc_g1 kV_g1 dc_g1 pm_g1 cd_g1 ct_g1 oc_g2 kV_g2 dc_g2 pm_g2 cd_g2 ct_g2 oc_g3 kV_g3 dc_g3 pm_g3 cd_g3 ct_g3 oc_g4 kV_g4 dc_g4 pm_g4 cd_g4 ct_g4 : Value}
    {ocn : Value} {odn : Option Addr} {vsn : Array Value} {sln : Array (Option Value)}
    {t8 t2 t200 t6 : Tok}
    (aC : PySem.W.nsIn K mainGlobals "Heap" = some (some (.ref C)))
    (a_f0 : PySem.W.nsIn K mainGlobals "is_integer" = some (some (.ref f0)))
    (l_f0 : K.lookup f0 = some ⟨oc_f0, od_f0, .func (PySem.W.fnOf "is_integer" "is_integer" (defArgs S_is_integer) (defBody S_is_integer) (defScope S_is_integer) .none kV_f0 dc_f0 pm_f0 an_f0 cd_f0 ct_f0), sl_f0⟩)
    (c_f0 : PySem.W.codeIn K cd_f0 "is_integer" = true)
    (k_f0 : PySem.W.keepIn K (.ref f0) = true)
    (a_f1 : PySem.W.nsIn K mainGlobals "is_between" = some (some (.ref f1)))
    (l_f1 : K.lookup f1 = some ⟨oc_f1, od_f1, .func (PySem.W.fnOf "is_between" "is_between" (defArgs S_is_between) (defBody S_is_between) (defScope S_is_between) .none kV_f1 dc_f1 pm_f1 an_f1 cd_f1 ct_f1), sl_f1⟩)
    (c_f1 : PySem.W.codeIn K cd_f1 "is_between" = true)
    (k_f1 : PySem.W.keepIn K (.ref f1) = true)
    (a_f2 : PySem.W.nsIn K mainGlobals "is_word" = some (some (.ref f2)))
    (l_f2 : K.lookup f2 = some ⟨oc_f2, od_f2, .func (PySem.W.fnOf "is_word" "is_word" (defArgs S_is_word) (defBody S_is_word) (defScope S_is_word) .none kV_f2 dc_f2 pm_f2 an_f2 cd_f2 ct_f2), sl_f2⟩)
    (c_f2 : PySem.W.codeIn K cd_f2 "is_word" = true)
    (k_f2 : PySem.W.keepIn K (.ref f2) = true)
    (a_f3 : PySem.W.nsIn K mainGlobals "is_one_of" = some (some (.ref f3)))
    (l_f3 : K.lookup f3 = some ⟨oc_f3, od_f3, .func (PySem.W.fnOf "is_one_of" "is_one_of" (defArgs S_is_one_of) (defBody S_is_one_of) (defScope S_is_one_of) .none kV_f3 dc_f3 pm_f3 an_f3 cd_f3 ct_f3), sl_f3⟩)
    (c_f3 : PySem.W.codeIn K cd_f3 "is_one_of" = true)
    (k_f3 : PySem.W.keepIn K (.ref f3) = true)
    (a_f4 : PySem.W.nsIn K mainGlobals "are_words" = some (some (.ref f4)))
    (l_f4 : K.lookup f4 = some ⟨oc_f4, od_f4, .func (PySem.W.fnOf "are_words" "are_words" (defArgs S_are_words) (defBody S_are_words) (defScope S_are_words) .none kV_f4 dc_f4 pm_f4 an_f4 cd_f4 ct_f4), sl_f4⟩)
    (c_f4 : PySem.W.codeIn K cd_f4 "are_words" = true)
    (k_f4 : PySem.W.keepIn K (.ref f4) = true)
    (a_f5 : PySem.W.nsIn K mainGlobals "are_fields" = some (some (.ref f5)))
    (l_f5 : K.lookup f5 = some ⟨oc_f5, od_f5, .func (PySem.W.fnOf "are_fields" "are_fields" (defArgs S_are_fields) (defBody S_are_fields) (defScope S_are_fields) .none kV_f5 dc_f5 pm_f5 an_f5 cd_f5 ct_f5), sl_f5⟩)
    (c_f5 : PySem.W.codeIn K cd_f5 "are_fields" = true)
    (k_f5 : PySem.W.keepIn K (.ref f5) = true)
    (a_f6 : PySem.W.nsIn K mainGlobals "check_objects" = some (some (.ref f6)))
    (l_f6 : K.lookup f6 = some ⟨oc_f6, od_f6, .func (PySem.W.fnOf "check_objects" "check_objects" (defArgs S_check_objects) (defBody S_check_objects) (defScope S_check_objects) .none kV_f6 dc_f6 pm_f6 an_f6 cd_f6 ct_f6), sl_f6⟩)
    (c_f6 : PySem.W.codeIn K cd_f6 "check_objects" = true)
    (k_f6 : PySem.W.keepIn K (.ref f6) = true)
    (a_f7 : PySem.W.nsIn K mainGlobals "check_names" = some (some (.ref f7)))
    (l_f7 : K.lookup f7 = some ⟨oc_f7, od_f7, .func (PySem.W.fnOf "check_names" "check_names" (defArgs S_check_names) (defBody S_check_names) (defScope S_check_names) .none kV_f7 dc_f7 pm_f7 an_f7 cd_f7 ct_f7), sl_f7⟩)
    (c_f7 : PySem.W.codeIn K cd_f7 "check_names" = true)
    (k_f7 : PySem.W.keepIn K (.ref f7) = true)
    (a_f8 : PySem.W.nsIn K mainGlobals "is_object" = some (some (.ref f8)))
    (l_f8 : K.lookup f8 = some ⟨oc_f8, od_f8, .func (PySem.W.fnOf "is_object" "is_object" (defArgs S_is_object) (defBody S_is_object) (defScope S_is_object) .none kV_f8 dc_f8 pm_f8 an_f8 cd_f8 ct_f8), sl_f8⟩)
    (c_f8 : PySem.W.codeIn K cd_f8 "is_object" = true)
    (k_f8 : PySem.W.keepIn K (.ref f8) = true)
    (a_f9 : PySem.W.nsIn K mainGlobals "is_held" = some (some (.ref f9)))
    (l_f9 : K.lookup f9 = some ⟨oc_f9, od_f9, .func (PySem.W.fnOf "is_held" "is_held" (defArgs S_is_held) (defBody S_is_held) (defScope S_is_held) .none kV_f9 dc_f9 pm_f9 an_f9 cd_f9 ct_f9), sl_f9⟩)
    (c_f9 : PySem.W.codeIn K cd_f9 "is_held" = true)
    (k_f9 : PySem.W.keepIn K (.ref f9) = true)
    (a_f10 : PySem.W.nsIn K mainGlobals "normal_form" = some (some (.ref f10)))
    (l_f10 : K.lookup f10 = some ⟨oc_f10, od_f10, .func (PySem.W.fnOf "normal_form" "normal_form" (defArgs S_normal_form) (defBody S_normal_form) (defScope S_normal_form) .none kV_f10 dc_f10 pm_f10 an_f10 (.ref Cn) ct_f10), sl_f10⟩)
    (c_f10 : PySem.W.codeIn K (.ref Cn) "normal_form" = true)
    (k_f10 : PySem.W.keepIn K (.ref f10) = true)
    (a_f11 : PySem.W.nsIn K mainGlobals "new_numbers" = some (some (.ref f11)))
    (l_f11 : K.lookup f11 = some ⟨oc_f11, od_f11, .func (PySem.W.fnOf "new_numbers" "new_numbers" (defArgs S_new_numbers) (defBody S_new_numbers) (defScope S_new_numbers) .none kV_f11 dc_f11 pm_f11 an_f11 cd_f11 ct_f11), sl_f11⟩)
    (c_f11 : PySem.W.codeIn K cd_f11 "new_numbers" = true)
    (k_f11 : PySem.W.keepIn K (.ref f11) = true)
    (a_f12 : PySem.W.nsIn K mainGlobals "_law_draw" = some (some (.ref f12)))
    (l_f12 : K.lookup f12 = some ⟨oc_f12, od_f12, .func (PySem.W.fnOf "_law_draw" "_law_draw" (defArgs S_law_draw) (defBody S_law_draw) (defScope S_law_draw) .none kV_f12 dc_f12 pm_f12 an_f12 cd_f12 ct_f12), sl_f12⟩)
    (c_f12 : PySem.W.codeIn K cd_f12 "_law_draw" = true)
    (k_f12 : PySem.W.keepIn K (.ref f12) = true)
    (a_f13 : PySem.W.nsIn K mainGlobals "_law_pick" = some (some (.ref f13)))
    (l_f13 : K.lookup f13 = some ⟨oc_f13, od_f13, .func (PySem.W.fnOf "_law_pick" "_law_pick" (defArgs S_law_pick) (defBody S_law_pick) (defScope S_law_pick) .none kV_f13 dc_f13 pm_f13 an_f13 cd_f13 ct_f13), sl_f13⟩)
    (c_f13 : PySem.W.codeIn K cd_f13 "_law_pick" = true)
    (k_f13 : PySem.W.keepIn K (.ref f13) = true)
    (a_f14 : PySem.W.nsIn K mainGlobals "_law_word" = some (some (.ref f14)))
    (l_f14 : K.lookup f14 = some ⟨oc_f14, od_f14, .func (PySem.W.fnOf "_law_word" "_law_word" (defArgs S_law_word) (defBody S_law_word) (defScope S_law_word) .none kV_f14 dc_f14 pm_f14 an_f14 cd_f14 ct_f14), sl_f14⟩)
    (c_f14 : PySem.W.codeIn K cd_f14 "_law_word" = true)
    (k_f14 : PySem.W.keepIn K (.ref f14) = true)
    (a_f15 : PySem.W.nsIn K mainGlobals "_law_words" = some (some (.ref f15)))
    (l_f15 : K.lookup f15 = some ⟨oc_f15, od_f15, .func (PySem.W.fnOf "_law_words" "_law_words" (defArgs S_law_words) (defBody S_law_words) (defScope S_law_words) .none kV_f15 dc_f15 pm_f15 an_f15 cd_f15 ct_f15), sl_f15⟩)
    (c_f15 : PySem.W.codeIn K cd_f15 "_law_words" = true)
    (k_f15 : PySem.W.keepIn K (.ref f15) = true)
    (a_f16 : PySem.W.nsIn K mainGlobals "_law_value" = some (some (.ref f16)))
    (l_f16 : K.lookup f16 = some ⟨oc_f16, od_f16, .func (PySem.W.fnOf "_law_value" "_law_value" (defArgs S_law_value) (defBody S_law_value) (defScope S_law_value) .none kV_f16 dc_f16 pm_f16 an_f16 cd_f16 ct_f16), sl_f16⟩)
    (c_f16 : PySem.W.codeIn K cd_f16 "_law_value" = true)
    (k_f16 : PySem.W.keepIn K (.ref f16) = true)
    (a_f17 : PySem.W.nsIn K mainGlobals "_law_objects" = some (some (.ref f17)))
    (l_f17 : K.lookup f17 = some ⟨oc_f17, od_f17, .func (PySem.W.fnOf "_law_objects" "_law_objects" (defArgs S_law_objects) (defBody S_law_objects) (defScope S_law_objects) .none kV_f17 dc_f17 pm_f17 an_f17 cd_f17 ct_f17), sl_f17⟩)
    (c_f17 : PySem.W.codeIn K cd_f17 "_law_objects" = true)
    (k_f17 : PySem.W.keepIn K (.ref f17) = true)
    (a_f18 : PySem.W.nsIn K mainGlobals "_law_names" = some (some (.ref f18)))
    (l_f18 : K.lookup f18 = some ⟨oc_f18, od_f18, .func (PySem.W.fnOf "_law_names" "_law_names" (defArgs S_law_names) (defBody S_law_names) (defScope S_law_names) .none kV_f18 dc_f18 pm_f18 an_f18 cd_f18 ct_f18), sl_f18⟩)
    (c_f18 : PySem.W.codeIn K cd_f18 "_law_names" = true)
    (k_f18 : PySem.W.keepIn K (.ref f18) = true)
    (a_f19 : PySem.W.nsIn K mainGlobals "_law_pair" = some (some (.ref f19)))
    (l_f19 : K.lookup f19 = some ⟨oc_f19, od_f19, .func (PySem.W.fnOf "_law_pair" "_law_pair" (defArgs S_law_pair) (defBody S_law_pair) (defScope S_law_pair) .none kV_f19 dc_f19 pm_f19 an_f19 cd_f19 ct_f19), sl_f19⟩)
    (c_f19 : PySem.W.codeIn K cd_f19 "_law_pair" = true)
    (k_f19 : PySem.W.keepIn K (.ref f19) = true)
    (a_f20 : PySem.W.nsIn K mainGlobals "_law_alike" = some (some (.ref f20)))
    (l_f20 : K.lookup f20 = some ⟨oc_f20, od_f20, .func (PySem.W.fnOf "_law_alike" "_law_alike" (defArgs S_law_alike) (defBody S_law_alike) (defScope S_law_alike) .none kV_f20 dc_f20 pm_f20 an_f20 cd_f20 ct_f20), sl_f20⟩)
    (c_f20 : PySem.W.codeIn K cd_f20 "_law_alike" = true)
    (k_f20 : PySem.W.keepIn K (.ref f20) = true)
    (a_f21 : PySem.W.nsIn K mainGlobals "_law_moved" = some (some (.ref f21)))
    (l_f21 : K.lookup f21 = some ⟨oc_f21, od_f21, .func (PySem.W.fnOf "_law_moved" "_law_moved" (defArgs S_law_moved) (defBody S_law_moved) (defScope S_law_moved) .none kV_f21 dc_f21 pm_f21 an_f21 cd_f21 ct_f21), sl_f21⟩)
    (c_f21 : PySem.W.codeIn K cd_f21 "_law_moved" = true)
    (k_f21 : PySem.W.keepIn K (.ref f21) = true)
    (a_f22 : PySem.W.nsIn K mainGlobals "_law_second" = some (some (.ref f22)))
    (l_f22 : K.lookup f22 = some ⟨oc_f22, od_f22, .func (PySem.W.fnOf "_law_second" "_law_second" (defArgs S_law_second) (defBody S_law_second) (defScope S_law_second) .none kV_f22 dc_f22 pm_f22 an_f22 cd_f22 ct_f22), sl_f22⟩)
    (c_f22 : PySem.W.codeIn K cd_f22 "_law_second" = true)
    (k_f22 : PySem.W.keepIn K (.ref f22) = true)
    (a_f23 : PySem.W.nsIn K mainGlobals "_law_change" = some (some (.ref f23)))
    (l_f23 : K.lookup f23 = some ⟨oc_f23, od_f23, .func (PySem.W.fnOf "_law_change" "_law_change" (defArgs S_law_change) (defBody S_law_change) (defScope S_law_change) .none kV_f23 dc_f23 pm_f23 an_f23 cd_f23 ct_f23), sl_f23⟩)
    (c_f23 : PySem.W.codeIn K cd_f23 "_law_change" = true)
    (k_f23 : PySem.W.keepIn K (.ref f23) = true)
    (a_f24 : PySem.W.nsIn K mainGlobals "law" = some (some (.ref f24)))
    (l_f24 : K.lookup f24 = some ⟨oc_f24, od_f24, .func (PySem.W.fnOf "law" "law" (defArgs S_law) (defBody S_law) (defScope S_law) .none kV_f24 dc_f24 pm_f24 an_f24 cd_f24 ct_f24), sl_f24⟩)
    (c_f24 : PySem.W.codeIn K cd_f24 "law" = true)
    (k_f24 : PySem.W.keepIn K (.ref f24) = true)
    (a_g0 : PySem.W.findIn K (.ref C) "__init__" = some (some (.ref g0)))
    (i_g0 : PySem.W.isFn K (.ref g0) = true)
    (l_g0 : K.lookup g0 = some ⟨oc_g0, od_g0, .func (PySem.W.fnOf "__init__" "Heap.__init__" (defArgs S_Heap___init__) (defBody S_Heap___init__) (defScope S_Heap___init__) .none kV_g0 dc_g0 pm_g0 an_g0 cd_g0 ct_g0), sl_g0⟩)
    (c_g0 : PySem.W.codeIn K cd_g0 "Heap.__init__" = true)
    (k_g0 : PySem.W.keepIn K (.ref g0) = true)
    (a_g1 : PySem.W.findIn K (.ref C) "__contains__" = some (some (.ref g1)))
    (i_g1 : PySem.W.isFn K (.ref g1) = true)
    (l_g1 : K.lookup g1 = some ⟨oc_g1, od_g1, .func (PySem.W.fnOf "__contains__" "Heap.__contains__" (defArgs S_Heap___contains__) (defBody S_Heap___contains__) (defScope S_Heap___contains__) .none kV_g1 dc_g1 pm_g1 an_g1 cd_g1 ct_g1), sl_g1⟩)
    (c_g1 : PySem.W.codeIn K cd_g1 "Heap.__contains__" = true)
    (k_g1 : PySem.W.keepIn K (.ref g1) = true)
    (a_g2 : PySem.W.findIn K (.ref C) "__eq__" = some (some (.ref g2)))
    (i_g2 : PySem.W.isFn K (.ref g2) = true)
    (l_g2 : K.lookup g2 = some ⟨oc_g2, od_g2, .func (PySem.W.fnOf "__eq__" "Heap.__eq__" (defArgs S_Heap___eq__) (defBody S_Heap___eq__) (defScope S_Heap___eq__) .none kV_g2 dc_g2 pm_g2 an_g2 cd_g2 ct_g2), sl_g2⟩)
    (c_g2 : PySem.W.codeIn K cd_g2 "Heap.__eq__" = true)
    (k_g2 : PySem.W.keepIn K (.ref g2) = true)
    (a_g3 : PySem.W.findIn K (.ref C) "objects" = some (some (.ref g3)))
    (i_g3 : PySem.W.isFn K (.ref g3) = true)
    (l_g3 : K.lookup g3 = some ⟨oc_g3, od_g3, .func (PySem.W.fnOf "objects" "Heap.objects" (defArgs S_Heap_objects) (defBody S_Heap_objects) (defScope S_Heap_objects) .none kV_g3 dc_g3 pm_g3 an_g3 cd_g3 ct_g3), sl_g3⟩)
    (c_g3 : PySem.W.codeIn K cd_g3 "Heap.objects" = true)
    (k_g3 : PySem.W.keepIn K (.ref g3) = true)
    (a_g4 : PySem.W.findIn K (.ref C) "names" = some (some (.ref g4)))
    (i_g4 : PySem.W.isFn K (.ref g4) = true)
    (l_g4 : K.lookup g4 = some ⟨oc_g4, od_g4, .func (PySem.W.fnOf "names" "Heap.names" (defArgs S_Heap_names) (defBody S_Heap_names) (defScope S_Heap_names) .none kV_g4 dc_g4 pm_g4 an_g4 cd_g4 ct_g4), sl_g4⟩)
    (c_g4 : PySem.W.codeIn K cd_g4 "Heap.names" = true)
    (k_g4 : PySem.W.keepIn K (.ref g4) = true)
    (pg : PySem.W.plainGet K C Str.empty = true)
    (hd : PySem.W.hasDictIn K C = true)
    (po : PySem.W.plainOver K C = true)
    (sa : PySem.W.findIn K (.ref C) "__setattr__" = some (some (.builtin "object.__setattr__")))
    (mk : PySem.W.makesIn K C = true)
    (kc : PySem.W.keepIn K (.ref C) = true)
    (nF : PySem.W.findIn K (.ref C) "fields" = some none)
    (nO : PySem.W.findIn K (.ref C) "_objects" = some none)
    (nN : PySem.W.findIn K (.ref C) "_names" = some none)
    (nM : PySem.W.findIn K (.ref C) "_form" = some none)
    (z_len : PySem.W.nsIn K mainGlobals "len" = some none)
    (z_int : PySem.W.nsIn K mainGlobals "int" = some none)
    (z_list : PySem.W.nsIn K mainGlobals "list" = some none)
    (z_tuple : PySem.W.nsIn K mainGlobals "tuple" = some none)
    (z_dict : PySem.W.nsIn K mainGlobals "dict" = some none)
    (z_set : PySem.W.nsIn K mainGlobals "set" = some none)
    (z_all : PySem.W.nsIn K mainGlobals "all" = some none)
    (z_range : PySem.W.nsIn K mainGlobals "range" = some none)
    (z_enumerate : PySem.W.nsIn K mainGlobals "enumerate" = some none)
    (z_sorted : PySem.W.nsIn K mainGlobals "sorted" = some none)
    (z_min : PySem.W.nsIn K mainGlobals "min" = some none)
    (z_isinstance : PySem.W.nsIn K mainGlobals "isinstance" = some none)
    (z_bool : PySem.W.nsIn K mainGlobals "bool" = some none)
    (z_str : PySem.W.nsIn K mainGlobals "str" = some none)
    (z_zip : PySem.W.nsIn K mainGlobals "zip" = some none)
    (z_ValueError : PySem.W.nsIn K mainGlobals "ValueError" = some none)
    (z_super : PySem.W.nsIn K mainGlobals "super" = some none)
    (z_repr : PySem.W.nsIn K mainGlobals "repr" = some none)
    (v_MOST_LETTERS : PySem.W.nsIn K mainGlobals "MOST_LETTERS" = some (some (.int 8 t8)))
    (v_MOST_FIELDS : PySem.W.nsIn K mainGlobals "MOST_FIELDS" = some (some (.int 2 t2)))
    (v_MOST_OBJECTS : PySem.W.nsIn K mainGlobals "MOST_OBJECTS" = some (some (.int 200 t200)))
    (v_MOST_NAMES : PySem.W.nsIn K mainGlobals "MOST_NAMES" = some (some (.int 6 t6)))
    (c_ha : PySem.W.findIn K (.ref C) "__class__" = some (some (.builtin "object.__class__")))
    (c_hn : PySem.W.specialIn K (.builtin "object.__class__") "__get__" = some (some (.builtin "getset_descriptor.__get__")))
    (c_ht : PySem.W.takesIn K (.builtin "object.__class__") = some true)
    (c_hm : PySem.W.mroIn K C (.type "object") = some true)
    (c_ic : PySem.W.isClsIn K C = true)
    (c_tc : PySem.W.typeIn K (.ref C) = some (.type "type"))
    (c_s0 : PySem.W.subIn K (.type "NoneType") (.ref C) = some false)
    (c_s1 : PySem.W.subIn K (.type "str") (.ref C) = some false)
    (c_s2 : PySem.W.subIn K (.type "int") (.ref C) = some false)
    (c_s3 : PySem.W.subIn K (.type "list") (.ref C) = some false)
    (c_s4 : PySem.W.subIn K (.type "dict") (.ref C) = some false)
    (l_cn : K.lookup Cn = some ⟨ocn, odn, .fields vsn, sln⟩)
    (e_cn : vsn[11]? = some (.ref Pt))
    (n_pt : K.lookup Pt = none) :
    LawAtS l w K CX0 8 63 "_law_script" mg fa h := by
  have e := hfa.symm.trans (PySem.W.mg_of X G a_f24)
  cases e
  obtain ⟨a', o', fd', c', P', h1, h2, h3, h4, h5, h6⟩ := DT
  have e1 := h1.symm.trans (PySem.W.mg_of X G a_f10)
  cases e1
  have e2 := h2.symm.trans (X _ _ l_f10)
  cases e2
  cases h3
  cases h4
  have hCo : PySem.W.CodeHd h Cn P' := PySem.W.CodeHd.of h5 h6
  obtain ⟨⟨oc', vc', u1, _, u3, u4⟩, hP⟩ := h6
  have e3 := u1.symm.trans (X _ _ l_cn)
  cases e3
  cases u3
  have e4 := u4.symm.trans e_cn
  cases e4
  have B : Bl mg := ⟨PySem.W.mg_none_of X G z_len, PySem.W.mg_none_of X G z_int, PySem.W.mg_none_of X G z_list, PySem.W.mg_none_of X G z_tuple, PySem.W.mg_none_of X G z_dict, PySem.W.mg_none_of X G z_set, PySem.W.mg_none_of X G z_all, PySem.W.mg_none_of X G z_range, PySem.W.mg_none_of X G z_enumerate, PySem.W.mg_none_of X G z_sorted, PySem.W.mg_none_of X G z_min, PySem.W.mg_none_of X G z_isinstance, PySem.W.mg_none_of X G z_bool, PySem.W.mg_none_of X G z_str, PySem.W.mg_none_of X G z_zip, PySem.W.mg_none_of X G z_ValueError, PySem.W.mg_none_of X G z_super, PySem.W.mg_none_of X G z_repr⟩
  have T0 : HC K mg C := ⟨⟨pg, hd, po, sa⟩, nF, nO, nN, nM, PySem.W.mg_of X G aC⟩
  have T2 : HC2 K C g1 := ⟨a_g1, i_g1⟩
  have T4 : HC4 K C g2 := ⟨c_ha, c_hn, c_ht, c_hm, a_g2, i_g2⟩
  have T5 : HC5 K C := ⟨c_ic, c_tc, c_s0, c_s1, c_s2, c_s3, c_s4⟩
  have F_f0 := fun_mk (st := S_is_integer) l_f0 c_f0 k_f0
  have b_f0 := F_f0.binds (ps := P_is_integer) fun _ _ _ _ _ _ us hl => match us, hl with | [_], _ => rfl
  have d_f0 : Df K mg "is_integer" S_is_integer f0 _ P_is_integer := ⟨F_f0, PySem.W.mg_of X G a_f0, b_f0⟩
  have F_f1 := fun_mk (st := S_is_between) l_f1 c_f1 k_f1
  have b_f1 := F_f1.binds (ps := P_is_between) fun _ _ _ _ _ _ us hl => match us, hl with | [_, _, _], _ => rfl
  have d_f1 : Df K mg "is_between" S_is_between f1 _ P_is_between := ⟨F_f1, PySem.W.mg_of X G a_f1, b_f1⟩
  have F_f2 := fun_mk (st := S_is_word) l_f2 c_f2 k_f2
  have b_f2 := F_f2.binds (ps := P_is_word) fun _ _ _ _ _ _ us hl => match us, hl with | [_], _ => rfl
  have d_f2 : Df K mg "is_word" S_is_word f2 _ P_is_word := ⟨F_f2, PySem.W.mg_of X G a_f2, b_f2⟩
  have F_f3 := fun_mk (st := S_is_one_of) l_f3 c_f3 k_f3
  have b_f3 := F_f3.binds (ps := P_is_one_of) fun _ _ _ _ _ _ us hl => match us, hl with | [_, _], _ => rfl
  have d_f3 : Df K mg "is_one_of" S_is_one_of f3 _ P_is_one_of := ⟨F_f3, PySem.W.mg_of X G a_f3, b_f3⟩
  have F_f4 := fun_mk (st := S_are_words) l_f4 c_f4 k_f4
  have b_f4 := F_f4.binds (ps := P_are_words) fun _ _ _ _ _ _ us hl => match us, hl with | [_, _, _], _ => rfl
  have d_f4 : Df K mg "are_words" S_are_words f4 _ P_are_words := ⟨F_f4, PySem.W.mg_of X G a_f4, b_f4⟩
  have F_f5 := fun_mk (st := S_are_fields) l_f5 c_f5 k_f5
  have b_f5 := F_f5.binds (ps := P_are_fields) fun _ _ _ _ _ _ us hl => match us, hl with | [_], _ => rfl
  have d_f5 : Df K mg "are_fields" S_are_fields f5 _ P_are_fields := ⟨F_f5, PySem.W.mg_of X G a_f5, b_f5⟩
  have F_f6 := fun_mk (st := S_check_objects) l_f6 c_f6 k_f6
  have b_f6 := F_f6.binds (ps := P_check_objects) fun _ _ _ _ _ _ us hl => match us, hl with | [_, _], _ => rfl
  have d_f6 : Df K mg "check_objects" S_check_objects f6 _ P_check_objects := ⟨F_f6, PySem.W.mg_of X G a_f6, b_f6⟩
  have F_f7 := fun_mk (st := S_check_names) l_f7 c_f7 k_f7
  have b_f7 := F_f7.binds (ps := P_check_names) fun _ _ _ _ _ _ us hl => match us, hl with | [_, _], _ => rfl
  have d_f7 : Df K mg "check_names" S_check_names f7 _ P_check_names := ⟨F_f7, PySem.W.mg_of X G a_f7, b_f7⟩
  have F_f8 := fun_mk (st := S_is_object) l_f8 c_f8 k_f8
  have b_f8 := F_f8.binds (ps := P_is_object) fun _ _ _ _ _ _ us hl => match us, hl with | [_, _, _], _ => rfl
  have d_f8 : Df K mg "is_object" S_is_object f8 _ P_is_object := ⟨F_f8, PySem.W.mg_of X G a_f8, b_f8⟩
  have F_f9 := fun_mk (st := S_is_held) l_f9 c_f9 k_f9
  have b_f9 := F_f9.binds (ps := P_is_held) fun _ _ _ _ _ _ us hl => match us, hl with | [_, _], _ => rfl
  have d_f9 : Df K mg "is_held" S_is_held f9 _ P_is_held := ⟨F_f9, PySem.W.mg_of X G a_f9, b_f9⟩
  have F_f10 := fun_mk (st := S_normal_form) l_f10 c_f10 k_f10
  have b_f10 := F_f10.binds (ps := P_normal_form) fun _ _ _ _ _ _ us hl => match us, hl with | [_, _, _], _ => rfl
  have d_f10 : Df K mg "normal_form" S_normal_form f10 _ P_normal_form := ⟨F_f10, PySem.W.mg_of X G a_f10, b_f10⟩
  have F_f11 := fun_mk (st := S_new_numbers) l_f11 c_f11 k_f11
  have b_f11 := F_f11.binds (ps := P_new_numbers) fun _ _ _ _ _ _ us hl => match us, hl with | [_, _], _ => rfl
  have d_f11 : Df K mg "new_numbers" S_new_numbers f11 _ P_new_numbers := ⟨F_f11, PySem.W.mg_of X G a_f11, b_f11⟩
  have F_f12 := fun_mk (st := S_law_draw) l_f12 c_f12 k_f12
  have b_f12 := F_f12.binds (ps := P_law_draw) fun _ _ _ _ _ _ us hl => match us, hl with | [_, _], _ => rfl
  have d_f12 : Df K mg "_law_draw" S_law_draw f12 _ P_law_draw := ⟨F_f12, PySem.W.mg_of X G a_f12, b_f12⟩
  have F_f13 := fun_mk (st := S_law_pick) l_f13 c_f13 k_f13
  have b_f13 := F_f13.binds (ps := P_law_pick) fun _ _ _ _ _ _ us hl => match us, hl with | [_, _], _ => rfl
  have d_f13 : Df K mg "_law_pick" S_law_pick f13 _ P_law_pick := ⟨F_f13, PySem.W.mg_of X G a_f13, b_f13⟩
  have F_f14 := fun_mk (st := S_law_word) l_f14 c_f14 k_f14
  have b_f14 := F_f14.binds (ps := P_law_word) fun _ _ _ _ _ _ us hl => match us, hl with | [_, _], _ => rfl
  have d_f14 : Df K mg "_law_word" S_law_word f14 _ P_law_word := ⟨F_f14, PySem.W.mg_of X G a_f14, b_f14⟩
  have F_f15 := fun_mk (st := S_law_words) l_f15 c_f15 k_f15
  have b_f15 := F_f15.binds (ps := P_law_words) fun _ _ _ _ _ _ us hl => match us, hl with | [_, _, _], _ => rfl
  have d_f15 : Df K mg "_law_words" S_law_words f15 _ P_law_words := ⟨F_f15, PySem.W.mg_of X G a_f15, b_f15⟩
  have F_f16 := fun_mk (st := S_law_value) l_f16 c_f16 k_f16
  have b_f16 := F_f16.binds (ps := P_law_value) fun _ _ _ _ _ _ us hl => match us, hl with | [_, _], _ => rfl
  have d_f16 : Df K mg "_law_value" S_law_value f16 _ P_law_value := ⟨F_f16, PySem.W.mg_of X G a_f16, b_f16⟩
  have F_f17 := fun_mk (st := S_law_objects) l_f17 c_f17 k_f17
  have b_f17 := F_f17.binds (ps := P_law_objects) fun _ _ _ _ _ _ us hl => match us, hl with | [_, _, _], _ => rfl
  have d_f17 : Df K mg "_law_objects" S_law_objects f17 _ P_law_objects := ⟨F_f17, PySem.W.mg_of X G a_f17, b_f17⟩
  have F_f18 := fun_mk (st := S_law_names) l_f18 c_f18 k_f18
  have b_f18 := F_f18.binds (ps := P_law_names) fun _ _ _ _ _ _ us hl => match us, hl with | [_, _, _], _ => rfl
  have d_f18 : Df K mg "_law_names" S_law_names f18 _ P_law_names := ⟨F_f18, PySem.W.mg_of X G a_f18, b_f18⟩
  have F_f19 := fun_mk (st := S_law_pair) l_f19 c_f19 k_f19
  have b_f19 := F_f19.binds (ps := P_law_pair) fun _ _ _ _ _ _ us hl => match us, hl with | [_, _, _, _, _], _ => rfl
  have d_f19 : Df K mg "_law_pair" S_law_pair f19 _ P_law_pair := ⟨F_f19, PySem.W.mg_of X G a_f19, b_f19⟩
  have F_f20 := fun_mk (st := S_law_alike) l_f20 c_f20 k_f20
  have b_f20 := F_f20.binds (ps := P_law_alike) fun _ _ _ _ _ _ us hl => match us, hl with | [_, _, _, _, _], _ => rfl
  have d_f20 : Df K mg "_law_alike" S_law_alike f20 _ P_law_alike := ⟨F_f20, PySem.W.mg_of X G a_f20, b_f20⟩
  have F_f21 := fun_mk (st := S_law_moved) l_f21 c_f21 k_f21
  have b_f21 := F_f21.binds (ps := P_law_moved) fun _ _ _ _ _ _ us hl => match us, hl with | [_, _], _ => rfl
  have d_f21 : Df K mg "_law_moved" S_law_moved f21 _ P_law_moved := ⟨F_f21, PySem.W.mg_of X G a_f21, b_f21⟩
  have F_f22 := fun_mk (st := S_law_second) l_f22 c_f22 k_f22
  have b_f22 := F_f22.binds (ps := P_law_second) fun _ _ _ _ _ _ us hl => match us, hl with | [_, _, _, _, _], _ => rfl
  have d_f22 : Df K mg "_law_second" S_law_second f22 _ P_law_second := ⟨F_f22, PySem.W.mg_of X G a_f22, b_f22⟩
  have F_f23 := fun_mk (st := S_law_change) l_f23 c_f23 k_f23
  have b_f23 := F_f23.binds (ps := P_law_change) fun _ _ _ _ _ _ us hl => match us, hl with | [_, _, _, _, _], _ => rfl
  have d_f23 : Df K mg "_law_change" S_law_change f23 _ P_law_change := ⟨F_f23, PySem.W.mg_of X G a_f23, b_f23⟩
  have F_f24 := fun_mk (st := S_law) l_f24 c_f24 k_f24
  have b_f24 := F_f24.binds (ps := P_law) fun _ _ _ _ _ _ us hl => match us, hl with | [_], _ => rfl
  have F_g0 := fun_mk (st := S_Heap___init__) l_g0 c_g0 k_g0
  have b_g0 := F_g0.binds (ps := P_Heap___init__) fun _ _ _ _ _ _ us hl => match us, hl with | [_, _, _, _], _ => rfl
  have F_g1 := fun_mk (st := S_Heap___contains__) l_g1 c_g1 k_g1
  have b_g1 := F_g1.binds (ps := P_Heap___contains__) fun _ _ _ _ _ _ us hl => match us, hl with | [_, _], _ => rfl
  have F_g2 := fun_mk (st := S_Heap___eq__) l_g2 c_g2 k_g2
  have b_g2 := F_g2.binds (ps := P_Heap___eq__) fun _ _ _ _ _ _ us hl => match us, hl with | [_, _], _ => rfl
  have F_g3 := fun_mk (st := S_Heap_objects) l_g3 c_g3 k_g3
  have b_g3 := F_g3.binds (ps := P_Heap_objects) fun _ _ _ _ _ _ us hl => match us, hl with | [_], _ => rfl
  have F_g4 := fun_mk (st := S_Heap_names) l_g4 c_g4 k_g4
  have b_g4 := F_g4.binds (ps := P_Heap_names) fun _ _ _ _ _ _ us hl => match us, hl with | [_], _ => rfl
  exact ⟨PySem.W.fnOf "law" "law" (defArgs S_law) (defBody S_law) (defScope S_law) .none kV_f24 dc_f24 pm_f24 an_f24 cd_f24 ct_f24, [(Cn, Pt)], spLaw K Pt, fun p hp => by rw [List.mem_singleton.mp hp]; exact hP, fun p hp => by rw [List.mem_singleton.mp hp]; exact n_pt, fun p hp => by rw [List.mem_singleton.mp hp]; exact hCo, fun s v => .of_eq rfl, fun H a ns hl _ hH hS => ⟨a, ns, rfl, (fun p hp => by rw [List.mem_singleton.mp hp]; exact TabS.nil (hH (Cn, Pt) (List.mem_singleton.mpr rfl))), hS, hl, fun _ => rfl⟩, fun base _ _ hTB => by
    have TB : TabB base mg Cn Pt := hTB (Cn, Pt) (List.mem_singleton.mpr rfl)
    have FC : FunC K "normal_form" "normal_form" S_normal_form f10 _ Cn := ⟨⟨_, _, _, _, _, _, _, _, rfl, l_f10, c_f10⟩⟩
    have G_f0 : FnOk l.prog w K mg base CX0 1 f0 _ P_is_integer (spIsInt K) := ok_is_integer F_f0 B
    have G_f1 : FnOk l.prog w K mg base CX0 2 f1 _ P_is_between (spBtw K) := ok_is_between F_f1 B d_f0 G_f0
    have G_f2 : FnOk l.prog w K mg base CX0 1 f2 _ P_is_word (spIsW K) := ok_is_word F_f2 B (PySem.W.mg_of X G v_MOST_LETTERS)
    have G_f3 : FnOk l.prog w K mg base CX0 1 f3 _ P_is_one_of (spOneOf K) := ok_is_one_of F_f3 B
    have G_f4 : FnOk l.prog w K mg base CX0 2 f4 _ P_are_words (spAreW K) := ok_are_words F_f4 B d_f2 G_f2
    have G_f5 : FnOk l.prog w K mg base CX0 3 f5 _ P_are_fields (spAreF K) := ok_are_fields F_f5 (PySem.W.mg_of X G v_MOST_FIELDS) d_f4 G_f4
    have G_f9 : FnOk l.prog w K mg base CX0 3 f9 _ P_is_held (spHeld K) := ok_is_held F_f9 d_f1 G_f1
    have G_f8 : FnOk l.prog w K mg base CX0 4 f8 _ P_is_object (spObj K) := ok_is_object F_f8 B d_f9 G_f9
    have G_f6 : FnOk l.prog w K mg base CX0 5 f6 _ P_check_objects (spChkO K) := ok_check_objects F_f6 B (PySem.W.mg_of X G v_MOST_OBJECTS) d_f8 G_f8
    have G_f7 : FnOk l.prog w K mg base CX0 4 f7 _ P_check_names (spChkN K) := ok_check_names F_f7 B (PySem.W.mg_of X G v_MOST_NAMES) d_f9 G_f9 d_f2 G_f2
    have G_f10 : FnOk l.prog w K mg base CX0 3 f10 _ P_normal_form (spNF K Pt) := ok_normal_form FC TB B d_f11
    have G_g0 : FnOk l.prog w K mg base CX0 6 g0 _ P_Heap___init__ (spInit K C Pt) := ok_init F_g0 B T0 d_f5 G_f5 d_f6 G_f6 d_f7 G_f7 d_f10 G_f10
    have G_g1 : FnOk l.prog w K mg base CX0 2 g1 _ P_Heap___contains__ (spHas K C) := ok_has F_g1 T0 d_f3 G_f3
    have G_f12 : FnOk l.prog w K mg base CX0 1 f12 _ P_law_draw spDraw := ok_draw F_f12 B
    have G_f14 : FnOk l.prog w K mg base CX0 2 f14 _ P_law_word spWord := ok_word F_f14 B d_f12 G_f12
    have G_f15 : FnOk l.prog w K mg base CX0 3 f15 _ P_law_words spWords := ok_words F_f15 B d_f12 G_f12 d_f14 G_f14
    have G_f16 : FnOk l.prog w K mg base CX0 2 f16 _ P_law_value spValue := ok_value F_f16 B d_f12 G_f12
    have G_f17 : FnOk l.prog w K mg base CX0 3 f17 _ P_law_objects spObjects := ok_objects F_f17 B d_f16 G_f16
    have G_f18 : FnOk l.prog w K mg base CX0 2 f18 _ P_law_names spNames := ok_names F_f18 B d_f12 G_f12
    have G_f13 : FnOk l.prog w K mg base CX0 2 f13 _ P_law_pick spPick := ok_pick F_f13 B d_f12 G_f12
    have G_g4 : FnOk l.prog w K mg base CX0 1 g4 _ P_Heap_names (spNms K C) := ok_nms F_g4 B T0
    have G_g3 : FnOk l.prog w K mg base CX0 1 g3 _ P_Heap_objects (spObs K C) := ok_obs F_g3 B T0
    have G_g2 : FnOk l.prog w K mg base CX0 4 g2 _ P_Heap___eq__ (spEqK K C) := ok_eqK F_g2 B T0 T4
    have G_f19 : FnOk l.prog w K mg base CX0 1 f19 _ P_law_pair spPair := ok_pair F_f19
    have G_f20 : FnOk l.prog w K mg base CX0 2 f20 _ P_law_alike (spAlike K) := ok_alike F_f20 B d_f19 G_f19
    have G_f21 : FnOk l.prog w K mg base CX0 1 f21 _ P_law_moved spMoved := ok_moved F_f21
    have G_f22 : FnOk l.prog w K mg base CX0 3 f22 _ P_law_second spSecond := ok_second F_f22 B d_f12 G_f12 d_f16 G_f16 d_f21 G_f21
    have G_f23 : FnOk l.prog w K mg base CX0 3 f23 _ P_law_change spChange := ok_change F_f23 B d_f12 G_f12 d_f16 G_f16 d_f13 G_f13
    exact ok_law F_f24 B T0 d_f12 G_f12 d_f15 G_f15 d_f17 G_f17 d_f18 G_f18 (⟨mk, a_g0, i_g0, kc⟩ : Mk K C g0) b_g0 G_g0 (⟨a_g3, i_g3, k_g3⟩ : Meth K C "objects" g3) G_g3 b_g3 (⟨a_g4, i_g4, k_g4⟩ : Meth K C "names" g4) G_g4 b_g4 T4 T5 G_g2 b_g2 d_f22 G_f22 d_f21 G_f21 d_f23 G_f23 d_f20 G_f20⟩
theorem walk {l : PySem.W.OpenLaw} {q : Program} {loose : List Str} {XP : (Str → Option Value) → Heap → Prop} {YP : World → Heap → Prop} {d : DefRec} {K : Params → PySem.W.Frag} (hn : l.most = some 63) (hdf : d.params.defaults = []) (hrec : ((recsOf q).any fun e => e.name == "normal_form") = true)
    (hY : ∀ (w : World) (h : Heap), YP w h → (K w.params).In h)
    (F : ∀ (w : World) (mg : Str → Option Value) (fa : Addr) (h : Heap), (K w.params).In h → h.Ns mainGlobals mg → mg d.name = some (.ref fa) → DefTab "normal_form" mg h → LawAtS l w (K w.params) CX0 8 63 "_law_script" mg fa h) :
    PySem.W.WalkO q loose XP YP l.row.toRowW d [] (fun f vs => PySem.call f vs) :=
  walk_ofDef (k := 8) (x := "_law_script") (y := "normal_form") (CX := fun _ => CX0) hn (by decide) hdf ⟨rfl, by decide, by decide⟩ hrec hY (fun w mg fa h _ => F w mg fa h) fun _ _ _ _ _ z => z
end TW
set_option Elab.async false
set_option linter.all false
open PySem PySem.W PyProof.Rows
set_option maxRecDepth 100000 in
set_option maxHeartbeats 0 in
theorem PySem.Challenge.cw_thawedwrites_k05_whole_equal_heaps_holds : PySem.Challenge.rw_thawedwrites_k05_whole_equal_heaps.Holds := by
  w_on; o_law; k_head; (case hw => w_witness2)
  k_fill
  refine TW.walk (l := PySem.Challenge.rw_thawedwrites_k05_whole_equal_heaps) rfl rfl (by decide +kernel) (fun w h Y => PySem.W.km_in_of Y) ?F
  case F =>
    intro w mg fa h KX G hmg DT
    refine' TW.all_mk KX G hmg DT ?aC ?a_f0 ?l_f0 ?c_f0 ?k_f0 ?a_f1 ?l_f1 ?c_f1 ?k_f1 ?a_f2 ?l_f2 ?c_f2 ?k_f2 ?a_f3 ?l_f3 ?c_f3 ?k_f3 ?a_f4 ?l_f4 ?c_f4 ?k_f4 ?a_f5 ?l_f5 ?c_f5 ?k_f5 ?a_f6 ?l_f6 ?c_f6 ?k_f6 ?a_f7 ?l_f7 ?c_f7 ?k_f7 ?a_f8 ?l_f8 ?c_f8 ?k_f8 ?a_f9 ?l_f9 ?c_f9 ?k_f9 ?a_f10 ?l_f10 ?c_f10 ?k_f10 ?a_f11 ?l_f11 ?c_f11 ?k_f11 ?a_f12 ?l_f12 ?c_f12 ?k_f12 ?a_f13 ?l_f13 ?c_f13 ?k_f13 ?a_f14 ?l_f14 ?c_f14 ?k_f14 ?a_f15 ?l_f15 ?c_f15 ?k_f15 ?a_f16 ?l_f16 ?c_f16 ?k_f16 ?a_f17 ?l_f17 ?c_f17 ?k_f17 ?a_f18 ?l_f18 ?c_f18 ?k_f18 ?a_f19 ?l_f19 ?c_f19 ?k_f19 ?a_f20 ?l_f20 ?c_f20 ?k_f20 ?a_f21 ?l_f21 ?c_f21 ?k_f21 ?a_f22 ?l_f22 ?c_f22 ?k_f22 ?a_f23 ?l_f23 ?c_f23 ?k_f23 ?a_f24 ?l_f24 ?c_f24 ?k_f24 ?a_g0 ?i_g0 ?l_g0 ?c_g0 ?k_g0 ?a_g1 ?i_g1 ?l_g1 ?c_g1 ?k_g1 ?a_g2 ?i_g2 ?l_g2 ?c_g2 ?k_g2 ?a_g3 ?i_g3 ?l_g3 ?c_g3 ?k_g3 ?a_g4 ?i_g4 ?l_g4 ?c_g4 ?k_g4 ?pg ?hd ?po ?sa ?mk ?kc ?nF ?nO ?nN ?nM ?z_len ?z_int ?z_list ?z_tuple ?z_dict ?z_set ?z_all ?z_range ?z_enumerate ?z_sorted ?z_min ?z_isinstance ?z_bool ?z_str ?z_zip ?z_ValueError ?z_super ?z_repr ?v_MOST_LETTERS ?v_MOST_FIELDS ?v_MOST_OBJECTS ?v_MOST_NAMES ?c_ha ?c_hn ?c_ht ?c_hm ?c_ic ?c_tc ?c_s0 ?c_s1 ?c_s2 ?c_s3 ?c_s4 ?l_cn ?e_cn ?n_pt
    (case aC => first | k_is | rfl | decide +kernel)
    (case a_f0 => first | k_is | rfl | decide +kernel)
    (case l_f0 => first | k_is | rfl | decide +kernel)
    (case c_f0 => first | k_is | rfl | decide +kernel)
    (case k_f0 => first | k_is | rfl | decide +kernel)
    (case a_f1 => first | k_is | rfl | decide +kernel)
    (case l_f1 => first | k_is | rfl | decide +kernel)
    (case c_f1 => first | k_is | rfl | decide +kernel)
    (case k_f1 => first | k_is | rfl | decide +kernel)
    (case a_f2 => first | k_is | rfl | decide +kernel)
    (case l_f2 => first | k_is | rfl | decide +kernel)
    (case c_f2 => first | k_is | rfl | decide +kernel)
    (case k_f2 => first | k_is | rfl | decide +kernel)
    (case a_f3 => first | k_is | rfl | decide +kernel)
    (case l_f3 => first | k_is | rfl | decide +kernel)
    (case c_f3 => first | k_is | rfl | decide +kernel)
    (case k_f3 => first | k_is | rfl | decide +kernel)
    (case a_f4 => first | k_is | rfl | decide +kernel)
    (case l_f4 => first | k_is | rfl | decide +kernel)
    (case c_f4 => first | k_is | rfl | decide +kernel)
    (case k_f4 => first | k_is | rfl | decide +kernel)
    (case a_f5 => first | k_is | rfl | decide +kernel)
    (case l_f5 => first | k_is | rfl | decide +kernel)
    (case c_f5 => first | k_is | rfl | decide +kernel)
    (case k_f5 => first | k_is | rfl | decide +kernel)
    (case a_f6 => first | k_is | rfl | decide +kernel)
    (case l_f6 => first | k_is | rfl | decide +kernel)
    (case c_f6 => first | k_is | rfl | decide +kernel)
    (case k_f6 => first | k_is | rfl | decide +kernel)
    (case a_f7 => first | k_is | rfl | decide +kernel)
    (case l_f7 => first | k_is | rfl | decide +kernel)
    (case c_f7 => first | k_is | rfl | decide +kernel)
    (case k_f7 => first | k_is | rfl | decide +kernel)
    (case a_f8 => first | k_is | rfl | decide +kernel)
    (case l_f8 => first | k_is | rfl | decide +kernel)
    (case c_f8 => first | k_is | rfl | decide +kernel)
    (case k_f8 => first | k_is | rfl | decide +kernel)
    (case a_f9 => first | k_is | rfl | decide +kernel)
    (case l_f9 => first | k_is | rfl | decide +kernel)
    (case c_f9 => first | k_is | rfl | decide +kernel)
    (case k_f9 => first | k_is | rfl | decide +kernel)
    (case a_f10 => first | k_is | rfl | decide +kernel)
    (case l_f10 => first | k_is | rfl | decide +kernel)
    (case c_f10 => first | k_is | rfl | decide +kernel)
    (case k_f10 => first | k_is | rfl | decide +kernel)
    (case a_f11 => first | k_is | rfl | decide +kernel)
    (case l_f11 => first | k_is | rfl | decide +kernel)
    (case c_f11 => first | k_is | rfl | decide +kernel)
    (case k_f11 => first | k_is | rfl | decide +kernel)
    (case a_f12 => first | k_is | rfl | decide +kernel)
    (case l_f12 => first | k_is | rfl | decide +kernel)
    (case c_f12 => first | k_is | rfl | decide +kernel)
    (case k_f12 => first | k_is | rfl | decide +kernel)
    (case a_f13 => first | k_is | rfl | decide +kernel)
    (case l_f13 => first | k_is | rfl | decide +kernel)
    (case c_f13 => first | k_is | rfl | decide +kernel)
    (case k_f13 => first | k_is | rfl | decide +kernel)
    (case a_f14 => first | k_is | rfl | decide +kernel)
    (case l_f14 => first | k_is | rfl | decide +kernel)
    (case c_f14 => first | k_is | rfl | decide +kernel)
    (case k_f14 => first | k_is | rfl | decide +kernel)
    (case a_f15 => first | k_is | rfl | decide +kernel)
    (case l_f15 => first | k_is | rfl | decide +kernel)
    (case c_f15 => first | k_is | rfl | decide +kernel)
    (case k_f15 => first | k_is | rfl | decide +kernel)
    (case a_f16 => first | k_is | rfl | decide +kernel)
    (case l_f16 => first | k_is | rfl | decide +kernel)
    (case c_f16 => first | k_is | rfl | decide +kernel)
    (case k_f16 => first | k_is | rfl | decide +kernel)
    (case a_f17 => first | k_is | rfl | decide +kernel)
    (case l_f17 => first | k_is | rfl | decide +kernel)
    (case c_f17 => first | k_is | rfl | decide +kernel)
    (case k_f17 => first | k_is | rfl | decide +kernel)
    (case a_f18 => first | k_is | rfl | decide +kernel)
    (case l_f18 => first | k_is | rfl | decide +kernel)
    (case c_f18 => first | k_is | rfl | decide +kernel)
    (case k_f18 => first | k_is | rfl | decide +kernel)
    (case a_f19 => first | k_is | rfl | decide +kernel)
    (case l_f19 => first | k_is | rfl | decide +kernel)
    (case c_f19 => first | k_is | rfl | decide +kernel)
    (case k_f19 => first | k_is | rfl | decide +kernel)
    (case a_f20 => first | k_is | rfl | decide +kernel)
    (case l_f20 => first | k_is | rfl | decide +kernel)
    (case c_f20 => first | k_is | rfl | decide +kernel)
    (case k_f20 => first | k_is | rfl | decide +kernel)
    (case a_f21 => first | k_is | rfl | decide +kernel)
    (case l_f21 => first | k_is | rfl | decide +kernel)
    (case c_f21 => first | k_is | rfl | decide +kernel)
    (case k_f21 => first | k_is | rfl | decide +kernel)
    (case a_f22 => first | k_is | rfl | decide +kernel)
    (case l_f22 => first | k_is | rfl | decide +kernel)
    (case c_f22 => first | k_is | rfl | decide +kernel)
    (case k_f22 => first | k_is | rfl | decide +kernel)
    (case a_f23 => first | k_is | rfl | decide +kernel)
    (case l_f23 => first | k_is | rfl | decide +kernel)
    (case c_f23 => first | k_is | rfl | decide +kernel)
    (case k_f23 => first | k_is | rfl | decide +kernel)
    (case a_f24 => first | k_is | rfl | decide +kernel)
    (case l_f24 => first | k_is | rfl | decide +kernel)
    (case c_f24 => first | k_is | rfl | decide +kernel)
    (case k_f24 => first | k_is | rfl | decide +kernel)
    (case a_g0 => first | k_is | rfl | decide +kernel)
    (case i_g0 => first | k_is | rfl | decide +kernel)
    (case l_g0 => first | k_is | rfl | decide +kernel)
    (case c_g0 => first | k_is | rfl | decide +kernel)
    (case k_g0 => first | k_is | rfl | decide +kernel)
    (case a_g1 => first | k_is | rfl | decide +kernel)
    (case i_g1 => first | k_is | rfl | decide +kernel)
    (case l_g1 => first | k_is | rfl | decide +kernel)
    (case c_g1 => first | k_is | rfl | decide +kernel)
    (case k_g1 => first | k_is | rfl | decide +kernel)
    (case a_g2 => first | k_is | rfl | decide +kernel)
    (case i_g2 => first | k_is | rfl | decide +kernel)
    (case l_g2 => first | k_is | rfl | decide +kernel)
    (case c_g2 => first | k_is | rfl | decide +kernel)
    (case k_g2 => first | k_is | rfl | decide +kernel)
    (case a_g3 => first | k_is | rfl | decide +kernel)
    (case i_g3 => first | k_is | rfl | decide +kernel)
    (case l_g3 => first | k_is | rfl | decide +kernel)
    (case c_g3 => first | k_is | rfl | decide +kernel)
    (case k_g3 => first | k_is | rfl | decide +kernel)
    (case a_g4 => first | k_is | rfl | decide +kernel)
    (case i_g4 => first | k_is | rfl | decide +kernel)
    (case l_g4 => first | k_is | rfl | decide +kernel)
    (case c_g4 => first | k_is | rfl | decide +kernel)
    (case k_g4 => first | k_is | rfl | decide +kernel)
    (case pg => first | k_is | rfl | decide +kernel)
    (case hd => first | k_is | rfl | decide +kernel)
    (case po => first | k_is | rfl | decide +kernel)
    (case sa => first | k_is | rfl | decide +kernel)
    (case mk => first | k_is | rfl | decide +kernel)
    (case kc => first | k_is | rfl | decide +kernel)
    (case nF => first | k_is | rfl | decide +kernel)
    (case nO => first | k_is | rfl | decide +kernel)
    (case nN => first | k_is | rfl | decide +kernel)
    (case nM => first | k_is | rfl | decide +kernel)
    (case z_len => first | k_is | rfl | decide +kernel)
    (case z_int => first | k_is | rfl | decide +kernel)
    (case z_list => first | k_is | rfl | decide +kernel)
    (case z_tuple => first | k_is | rfl | decide +kernel)
    (case z_dict => first | k_is | rfl | decide +kernel)
    (case z_set => first | k_is | rfl | decide +kernel)
    (case z_all => first | k_is | rfl | decide +kernel)
    (case z_range => first | k_is | rfl | decide +kernel)
    (case z_enumerate => first | k_is | rfl | decide +kernel)
    (case z_sorted => first | k_is | rfl | decide +kernel)
    (case z_min => first | k_is | rfl | decide +kernel)
    (case z_isinstance => first | k_is | rfl | decide +kernel)
    (case z_bool => first | k_is | rfl | decide +kernel)
    (case z_str => first | k_is | rfl | decide +kernel)
    (case z_zip => first | k_is | rfl | decide +kernel)
    (case z_ValueError => first | k_is | rfl | decide +kernel)
    (case z_super => first | k_is | rfl | decide +kernel)
    (case z_repr => first | k_is | rfl | decide +kernel)
    (case v_MOST_LETTERS => first | k_is | rfl | decide +kernel)
    (case v_MOST_FIELDS => first | k_is | rfl | decide +kernel)
    (case v_MOST_OBJECTS => first | k_is | rfl | decide +kernel)
    (case v_MOST_NAMES => first | k_is | rfl | decide +kernel)
    (case c_ha => first | k_is | rfl | decide +kernel)
    (case c_hn => first | k_is | rfl | decide +kernel)
    (case c_ht => first | k_is | rfl | decide +kernel)
    (case c_hm => first | k_is | rfl | decide +kernel)
    (case c_ic => first | k_is | rfl | decide +kernel)
    (case c_tc => first | k_is | rfl | decide +kernel)
    (case c_s0 => first | k_is | rfl | decide +kernel)
    (case c_s1 => first | k_is | rfl | decide +kernel)
    (case c_s2 => first | k_is | rfl | decide +kernel)
    (case c_s3 => first | k_is | rfl | decide +kernel)
    (case c_s4 => first | k_is | rfl | decide +kernel)
    (case l_cn => first | k_is | rfl | decide +kernel)
    (case e_cn => first | k_is | rfl | decide +kernel)
    (case n_pt => first | k_is | rfl | decide +kernel)
#print axioms PySem.Challenge.cw_thawedwrites_k05_whole_equal_heaps_holds
