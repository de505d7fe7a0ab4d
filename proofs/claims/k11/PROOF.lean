import PyProof.Rows.All
import Wide.All
import OpenK.AllK
import Wide.FinOn
import HandS.ForMost
import HandS.ForExc
import HandS.Wide
import HandS.Defaults
import HandS.IsInst
import HandS.FStr
import PySem.Challenge.RW_nestlaid_k11_wrapped_line_by_line
set_option Elab.async false
set_option linter.all false
set_option maxRecDepth 100000
set_option maxHeartbeats 4000000

namespace K11
open PySem PySem.Spec PyProof.Rows L2
def topS (i : Nat) : Stmt := PySem.Challenge.pw_nestlaid_k11_wrapped_line_by_line.main.body.getD i (.Pass ⟨0, 0, 0, 0⟩)
abbrev s_p_is_whole : Stmt := topS 5
abbrev s_p_is_count : Stmt := topS 6
abbrev s_p_wrapped : Stmt := topS 8
abbrev s_p_refuse_no_text : Stmt := topS 9
abbrev s_p_parts_of : Stmt := topS 10
abbrev s_p_lines_of : Stmt := topS 11
abbrev s_cell_at : Stmt := topS 13
abbrev s_mixed : Stmt := topS 14
abbrev s_source : Stmt := topS 15
abbrev s_next : Stmt := topS 16
abbrev s_word : Stmt := topS 17
abbrev s_text : Stmt := topS 18
abbrev s_words : Stmt := topS 19
abbrev s_width : Stmt := topS 20
abbrev s_line_right : Stmt := topS 21
abbrev s_part_right : Stmt := topS 22
abbrev s_law : Stmt := topS 23
abbrev n_p_is_whole : List Str := ["thing"]
theorem sc_p_is_whole : FnScope n_p_is_whole ["thing"] (defScope s_p_is_whole) := ⟨rfl, rfl, rfl, by decide +kernel, rfl, by decide +kernel, by decide +kernel⟩
abbrev n_p_is_count : List Str := ["thing"]
theorem sc_p_is_count : FnScope n_p_is_count ["thing"] (defScope s_p_is_count) := ⟨rfl, rfl, rfl, by decide +kernel, rfl, by decide +kernel, by decide +kernel⟩
abbrev n_p_wrapped : List Str := ["text", "wide", "lines", "words"]
theorem sc_p_wrapped : FnScope n_p_wrapped ["text", "wide"] (defScope s_p_wrapped) := ⟨rfl, rfl, rfl, by decide +kernel, rfl, by decide +kernel, by decide +kernel⟩
abbrev n_p_refuse_no_text : List Str := ["thing"]
theorem sc_p_refuse_no_text : FnScope n_p_refuse_no_text ["thing"] (defScope s_p_refuse_no_text) := ⟨rfl, rfl, rfl, by decide +kernel, rfl, by decide +kernel, by decide +kernel⟩
abbrev n_p_parts_of : List Str := ["text", "word", "part"]
theorem sc_p_parts_of : FnScope n_p_parts_of ["text"] (defScope s_p_parts_of) := ⟨rfl, rfl, rfl, by decide +kernel, rfl, by decide +kernel, by decide +kernel⟩
abbrev n_p_lines_of : List Str := ["words", "wide", "lines", "word", "longer"]
theorem sc_p_lines_of : FnScope n_p_lines_of ["words", "wide"] (defScope s_p_lines_of) := ⟨rfl, rfl, rfl, by decide +kernel, rfl, by decide +kernel, by decide +kernel⟩
abbrev n_cell_at : List Str := ["_law_script", "_law_k"]
theorem sc_cell_at : FnScope n_cell_at ["_law_script", "_law_k"] (defScope s_cell_at) := ⟨rfl, rfl, rfl, by decide +kernel, rfl, by decide +kernel, by decide +kernel⟩
abbrev n_mixed : List Str := ["_law_cell", "_law_k", "_law_low"]
theorem sc_mixed : FnScope n_mixed ["_law_cell", "_law_k"] (defScope s_mixed) := ⟨rfl, rfl, rfl, by decide +kernel, rfl, by decide +kernel, by decide +kernel⟩
abbrev n_source : List Str := ["_law_cell"]
theorem sc_source : FnScope n_source ["_law_cell"] (defScope s_source) := ⟨rfl, rfl, rfl, by decide +kernel, rfl, by decide +kernel, by decide +kernel⟩
abbrev n_next : List Str := ["_law_source_here", "_law_many", "_law_found"]
theorem sc_next : FnScope n_next ["_law_source_here", "_law_many"] (defScope s_next) := ⟨rfl, rfl, rfl, by decide +kernel, rfl, by decide +kernel, by decide +kernel⟩
abbrev n_word : List Str := ["_law_source_here", "_law_some", "_law_many", "_law_first", "_law_step", "_law_k"]
theorem sc_word : FnScope n_word ["_law_source_here"] (defScope s_word) := ⟨rfl, rfl, rfl, by decide +kernel, rfl, by decide +kernel, by decide +kernel⟩
abbrev n_text : List Str := ["_law_source_here", "_law_most", "_law_found", "_law_k", "_law_way"]
theorem sc_text : FnScope n_text ["_law_source_here", "_law_most"] (defScope s_text) := ⟨rfl, rfl, rfl, by decide +kernel, rfl, by decide +kernel, by decide +kernel⟩
abbrev n_words : List Str := ["_law_text_here", "_law_found", "_law_word_here", "_law_sign"]
theorem sc_words : FnScope n_words ["_law_text_here"] (defScope s_words) := ⟨rfl, rfl, rfl, by decide +kernel, rfl, by decide +kernel, by decide +kernel⟩
abbrev n_width : List Str := ["_law_source_here", "_law_parts", "_law_long", "_law_word_here", "_law_words_here", "_law_wish", "_law_some"]
theorem sc_width : FnScope n_width ["_law_source_here", "_law_parts"] (defScope s_width) := ⟨rfl, rfl, rfl, by decide +kernel, rfl, by decide +kernel, by decide +kernel⟩
abbrev n_line_right : List Str := ["_law_line", "_law_words_here", "_law_wide", "_law_many"]
theorem sc_line_right : FnScope n_line_right ["_law_line", "_law_words_here", "_law_wide"] (defScope s_line_right) := ⟨rfl, rfl, rfl, by decide +kernel, rfl, by decide +kernel, by decide +kernel⟩
abbrev n_part_right : List Str := ["_law_lines", "_law_at", "_law_words_here", "_law_wide", "_law_left", "_law_many"]
theorem sc_part_right : FnScope n_part_right ["_law_lines", "_law_at", "_law_words_here", "_law_wide"] (defScope s_part_right) := ⟨rfl, rfl, rfl, by decide +kernel, rfl, by decide +kernel, by decide +kernel⟩
abbrev n_law : List Str := ["_law_script", "_law_cell", "_law_source_here", "_law_text_here", "_law_parts", "_law_wide", "_law_lines", "_law_line", "_law_at", "_law_words_here", "_law_kept"]
theorem sc_law : FnScope n_law ["_law_script"] (defScope s_law) := ⟨rfl, rfl, rfl, by decide +kernel, rfl, by decide +kernel, by decide +kernel⟩
/-! ### what is known of a def of the top, and of a def that keeps its promise -/
structure Has (K : PySem.W.Frag) (mg : Str → Option Value) (x : Str) (st : Stmt) (ps : List Str) : Prop where
  ex : ∃ f fd, Fun K x x st f fd ∧ mg x = some (.ref f) ∧ Binds K fd ps []
structure Ok (P : Program) (w : World) (K : PySem.W.Frag) (mg : Str → Option Value) (base : Heap) (C : CXT) (x : Str) (st : Stmt) (k : Nat) (ps : List Str) (sp : Sp) : Prop where
  ex : ∃ f fd, Fun K x x st f fd ∧ FnOk P w K mg base C k f fd ps sp ∧ mg x = some (.ref f) ∧ Binds K fd ps []
section
variable {P : Program} {w : World} {K : PySem.W.Frag} {mg : Str → Option Value} {base : Heap} {x : Str} {st : Stmt} {ps N : List Str} {k : Nat} {sp : Sp}
theorem has_mk {f : Addr} {fd : FuncData} (F : Fun K x x st f fd) (g : mg x = some (.ref f))
    (h : ∀ (kV doc pm : Value) (an : Option Addr) (cdv ct : Value) (us : List Value), us.length = ps.length → bindArgs (PySem.W.fnOf x x (defArgs st) (defBody st) (defScope st) .none kV doc pm an cdv ct) ⟨us, []⟩ = pure (ps.zip us)) : Has K mg x st ps :=
  ⟨f, fd, F, g, F.binds h⟩
theorem Has.ok (D : Has K mg x st ps) (S : FnScope N ps (defScope st)) (len : ∀ vs H Q E, sp vs H Q E → vs.length = ps.length)
    (hbody : ∀ (f : Addr) (cdv : Value) (A : Around) (outer : List Env) (s : Shared) (H : Hp) (vs : List V) (Q : VK) (E : XK), Room k (A.deeper (envOfC x (defScope st) s.heap.objs.size f cdv)) → sp vs H Q E →
      ∃ t, PSs (cxOf CX0 P w K mg base N x (defScope st) f cdv A outer s H E).nox (defBody st) t ∧ t { nx := fun _ H' => Q .non H', rt := Q } (start N vs) H) : Ok P w K mg base CX0 x st (k + 1) ps sp := by
  obtain ⟨f, fd, F, g, b⟩ := D
  exact ⟨f, fd, F, F.ok S len (hbody f), g, b⟩
end
section
variable {X : Cx} {x : Str} {st : Stmt} {ps ks : List Str} {k : Nat} {sp : Sp} {e : Expr} {es : List Expr} {kws : List Keyword} {t tk : TA} {p pos : Pos} {g : List Value → List Value → List Value} {gV : List V → List V → List V}
theorem callO (O : Ok X.prog X.w X.K X.mg X.base CX0 x st k ps sp) (hr : Room k X.A) (hg : Gl X x) (ha : PA X (e :: es) t) (hdb : (x == ("__debug__" : Str)) = false := by decide) (he : starEach (e :: es) X.env = (false, eval e X.env) :: starEach es X.env := by rfl) (hpl : (backTo pos (starEach es X.env)).any (·.1) = false := by rfl) :
    PE X (.Call (.Name x p) (e :: es) [] pos) (tCall sp [] E0 t) := by
  obtain ⟨f, fd, F, G, m, b⟩ := O
  exact pe_call G hr hg m F.kp b .nil pass0 ha hdb he hpl
/-- how a call by keywords alone binds -/
def KwB (x : Str) (st : Stmt) (ps ks : List Str) (g : List Value → List Value → List Value) : Prop :=
  ∀ (kV doc pm : Value) (an : Option Addr) (cdv ct : Value) (ws : List Value), ws.length = ks.length → bindArgs (PySem.W.fnOf x x (defArgs st) (defBody st) (defScope st) .none kV doc pm an cdv ct) ⟨[], ks.zip ws⟩ = pure (ps.zip (g [] ws))
theorem kbn_of {K : PySem.W.Frag} {f : Addr} {fd : FuncData} (F : Fun K x x st f fd) (h : KwB x st ps ks g) (rel : ∀ {vs : List V} {us : List Value} {zs : List V} {ws : List Value}, Vals vs us → Vals zs ws → Vals (gV vs zs) (g us ws)) : KBn K fd ps 0 ks g gV := by
  obtain ⟨oc, od, kV, doc, pm, an, cdv, ct, osl, rfl, lk, hcd⟩ := F.ex
  refine ⟨fun s us ws _ h1 h2 => ?_, rel⟩
  obtain rfl : us = [] := List.eq_nil_of_length_eq_zero h1
  exact .of_eq (h kV doc pm an cdv ct ws h2)
/-- f(k = v, ..) -/
theorem callO_kw (O : Ok X.prog X.w X.K X.mg X.base CX0 x st k ps sp) (h : KwB x st ps ks g) (rel : ∀ {vs : List V} {us : List Value} {zs : List V} {ws : List Value}, Vals vs us → Vals zs ws → Vals (gV vs zs) (g us ws)) (hr : Room k X.A) (hg : Gl X x) (hkw : PK X kws tk)
    (hall : (backToKw pos (keywordEach kws X.env)).all (·.1.isSome) = true := by rfl) (hks : (backToKw pos (keywordEach kws X.env)).filterMap (·.1) = ks := by rfl) (hdb : (x == ("__debug__" : Str)) = false := by decide)
    (hpl : ((backTo pos (starEach [] X.env)).any (·.1) || (backToKw pos (keywordEach kws X.env)).any (·.1.isNone)) = false := by rfl) :
    PE X (.Call (.Name x p) [] kws pos) (tCallN 0 ks.length sp gV E0 tNil tk) := by
  obtain ⟨f, fd, F, G, m, b⟩ := O
  refine ⟨fun pins s σ H Q I h0 => ?_⟩
  refine wpAny_Call_Name_kw (ld_glob I hg m ?_ hdb)
  refine PySem.W.callWith_KW0 (h₀ := X.base) I.ok.mod.kin F.kp hall ?_ hpl
  refine thn (hkw.run pos pins s σ H _ I h0) fun ws s2 ⟨zs, H2, I2, rz, l1, l2, q2⟩ => ⟨I2.kIn, ?_⟩
  rw [hks]
  exact run_fnN (us := []) (vs := []) G hr (kbn_of F h rel) pass0 I2 .nil rz rfl l2 q2
end
/-! ### heaps -/
/-- all but p is as it was -/
def Off (p : Addr) (H H' : Hp) : Prop := ∀ b o, H b = some o → b ≠ p → H' b = some o
theorem Off.refl {p : Addr} {H : Hp} : Off p H H := fun _ _ h _ => h
theorem Off.trans {p : Addr} {H H1 H2 : Hp} (a : Off p H H1) (b : Off p H1 H2) : Off p H H2 := fun c o h n => b c o (a c o h n) n
theorem Off.of {p : Addr} {H H' : Hp} (s : Same H H') : Off p H H' := fun b o h _ => s b o h
theorem off_upd {p : Addr} {H : Hp} {o : HO} : Off p H (upd H p o) := fun b o' h n => by rw [upd_ne n]; exact h
theorem same_upd {H : Hp} {p : Addr} {o : HO} (h : H p = none) : Same H (upd H p o) := fun b x e => by
  rw [upd_ne (ne_of_none e h)]
  exact e
theorem off_new {p q : Addr} {H : Hp} {o : HO} (h : H q = none) : Off p H (upd H q o) := .of (same_upd h)
theorem Off.seq {K : PySem.W.Frag} {p : Addr} {H H' : Hp} {a : Addr} {xs : List V} (e : Off p H H') (n : a ≠ p) (h : SqL K H a xs) : SqL K H' a xs := by
  rcases h with (h | ⟨o, h⟩) | h
  · exact .inl (.inl (e _ _ h n))
  · exact .inl (.inr ⟨o, e _ _ h n⟩)
  · exact .inr h
theorem Off.ne {p a : Addr} {H H' : Hp} {o o' : HO} (h : H a = some o) (n : H p = none) : a ≠ p := ne_of_none h n
theorem atI_mem {α : Type} {xs : List α} {i : Int} (h0 : 0 ≤ i) (h1 : i < (xs.length : Int)) : ∃ v, v ∈ xs ∧ atI xs i = some v := by
  have h2 : i.toNat < xs.length := by omega
  refine ⟨xs[i.toNat], List.getElem_mem h2, ?_⟩
  have h3 := atI_nat (xs := xs) (j := i.toNat) (v := xs[i.toNat]) (List.getElem?_eq_getElem h2)
  rw [show ((i.toNat : Nat) : Int) = i by omega] at h3
  exact h3
theorem atI_at {α : Type} {xs : List α} {i : Int} (h0 : 0 ≤ i) (h1 : i < (xs.length : Int)) : ∃ (j : Nat) (v : α), (j : Int) = i ∧ xs[j]? = some v ∧ atI xs i = some v := by
  have h2 : i.toNat < xs.length := by omega
  have h3 := atI_nat (xs := xs) (j := i.toNat) (v := xs[i.toNat]) (List.getElem?_eq_getElem h2)
  rw [show ((i.toNat : Nat) : Int) = i by omega] at h3
  exact ⟨i.toNat, _, by omega, List.getElem?_eq_getElem h2, h3⟩
theorem int_at {ns : List Int} {i : Nat} {y : V} (h : (ns.map V.int)[i]? = some y) : ∃ z, y = V.int z ∧ ns[i]? = some z := by
  rw [List.getElem?_map] at h
  cases e : ns[i]? with
  | none =>
    rw [e] at h
    cases h
  | some z =>
    rw [e] at h
    exact ⟨z, (Option.some.inj h).symm, rfl⟩
theorem cut_ints (ns : List Int) (lo hi : Option Int) : ∃ ms : List Int, ms.length ≤ ns.length ∧ cutV (ns.map V.int) lo hi = ms.map V.int := by
  unfold cutV
  rw [← List.map_drop, ← List.map_take]
  exact ⟨_, by rw [List.length_take, List.length_drop]; omega, rfl⟩
theorem yes_if {σ : L2.St} {H : Hp} {A B : Hp → Prop} (h : A H) : tYes σ H (fun b H3 => if b = true then A H3 else B H3) := by
  show if true = true then A H else B H
  exact iteT h

structure Txt (K : PySem.W.Frag) (mg : Str → Option Value) : Prop where
  h_p_is_whole : Has K mg "is_whole" s_p_is_whole ["thing"]
  h_p_is_count : Has K mg "is_count" s_p_is_count ["thing"]
  h_p_wrapped : Has K mg "wrapped" s_p_wrapped ["text", "wide"]
  h_p_refuse_no_text : Has K mg "refuse_no_text" s_p_refuse_no_text ["thing"]
  h_p_parts_of : Has K mg "parts_of" s_p_parts_of ["text"]
  h_p_lines_of : Has K mg "lines_of" s_p_lines_of ["words", "wide"]
  h_cell_at : Has K mg "_law_cell_at" s_cell_at ["_law_script", "_law_k"]
  h_mixed : Has K mg "_law_mixed" s_mixed ["_law_cell", "_law_k"]
  h_source : Has K mg "_law_source" s_source ["_law_cell"]
  h_next : Has K mg "_law_next" s_next ["_law_source_here", "_law_many"]
  h_word : Has K mg "_law_word" s_word ["_law_source_here"]
  h_text : Has K mg "_law_text" s_text ["_law_source_here", "_law_most"]
  h_words : Has K mg "_law_words" s_words ["_law_text_here"]
  h_width : Has K mg "_law_width" s_width ["_law_source_here", "_law_parts"]
  h_line_right : Has K mg "_law_line_right" s_line_right ["_law_line", "_law_words_here", "_law_wide"]
  h_part_right : Has K mg "_law_part_right" s_part_right ["_law_lines", "_law_at", "_law_words_here", "_law_wide"]
  m_isinstance : mg "isinstance" = none
  m_int : mg "int" = none
  m_bool : mg "bool" = none
  m_str : mg "str" = none
  m_len : mg "len" = none
  m_range : mg "range" = none
  m_max : mg "max" = none
  m_list : mg "list" = none
  m_all : mg "all" = none
/-! ### the source of draws: a list of three numbers -/
def Src (H : Hp) (p : Addr) : Prop := ∃ a b c : Int, H p = some (.lst [.int a, .int b, .int c])
theorem Src.ne_new {H : Hp} {p q : Addr} (h : Src H p) (n : H q = none) : q ≠ p := by
  obtain ⟨a, b, c, e⟩ := h
  exact (ne_of_none e n).symm
theorem Src.keep {H : Hp} {p q : Addr} {o : HO} (h : Src H p) (n : H q = none) : Src (upd H q o) p := by
  obtain ⟨a, b, c, e⟩ := h
  exact ⟨a, b, c, by rw [upd_ne (ne_of_none e n)]; exact e⟩
theorem Src.same {H H' : Hp} {p : Addr} (h : Src H p) (s : Same H H') : Src H' p := by
  obtain ⟨a, b, c, e⟩ := h
  exact ⟨a, b, c, s _ _ e⟩
def spCellAt (K : PySem.W.Frag) : Sp := fun vs H Q _ => ∃ (l : Addr) (ns : List Int) (j : Nat), vs = [.ref l, .int (j : Int)] ∧ SqL K H l (ns.map V.int) ∧ ∀ z : Int, Q (.int z) H
def spMixed : Sp := fun vs H Q _ => ∃ c k : Int, vs = [.int c, .int k] ∧ ∀ r : Int, Q (.int r) H
def spSource : Sp := fun vs H Q _ => ∃ c : Int, vs = [.int c] ∧ ∀ p H', H p = none → Src H' p → Same H H' → Q (.ref p) H'
def spNext : Sp := fun vs H Q _ => ∃ (p : Addr) (m : Int), vs = [.ref p, .int m] ∧ 0 < m ∧ m < 2 ^ 100 ∧ Src H p ∧ ∀ (r : Int) H', 0 ≤ r → r < m → Src H' p → Off p H H' → Q (.int r) H'
section
variable {P : Program} {w : World} {K : PySem.W.Frag} {mg : Str → Option Value} {base : Heap}
theorem ok_cell_at (T : Txt K mg) : Ok P w K mg base CX0 "_law_cell_at" s_cell_at 1 ["_law_script", "_law_k"] (spCellAt K) := by
  refine T.h_cell_at.ok sc_cell_at (fun vs H Q E h => ?_) (fun f cdv A outer s H vs Q E hr h => ?_)
  · obtain ⟨l, ns, j, rfl, _⟩ := h; rfl
  obtain ⟨l, ns, j, rfl, hs, q⟩ := h
  refine ⟨_, (pss_cons (ps_if (pt_cmpR op_lt (pv 1) (pe_callB call_len (by rfl) T.m_len (by decide +kernel) (pa_cons (pv 0) pa_nil)) (nomark _))
      (pss_one (ps_ret (pe_ix ix_list (pv 0) (pv 1) (fun _ _ => rfl))))
      pss_nil)
      (pss_one (ps_ret pe_int))), ?_⟩
  refine ⟨_, rfl, _, rfl, _, _, rfl, .inl ⟨_, hs, rfl⟩, _, _, rfl, rfl, _, rfl, ite2 (fun e => ?_) (fun e => ?_)⟩
  · have e1 := of_decide_eq_true e
    obtain ⟨v, hv, ha⟩ := atI_mem (xs := ns.map V.int) (i := (j : Int)) (by omega) e1
    obtain ⟨z, _, rfl⟩ := List.mem_map.mp hv
    exact ⟨_, rfl, _, rfl, _, _, _, _, rfl, rfl, hs, ha, q z⟩
  · exact q 0
theorem ok_mixed (T : Txt K mg) : Ok P w K mg base CX0 "_law_mixed" s_mixed 1 ["_law_cell", "_law_k"] spMixed := by
  refine T.h_mixed.ok sc_mixed (fun vs H Q E h => ?_) (fun f cdv A outer s H vs Q E hr h => ?_)
  · obtain ⟨l, j, rfl, _⟩ := h; rfl
  obtain ⟨c, k, rfl, q⟩ := h
  refine ⟨_, (pss_cons (ps_set (i := 2) sc_mixed.nd rfl (by first | exact Or.inl rfl | exact Or.inr rfl) (pe_op op_add (pe_op op_mod (pv 0) pe_int) (pe_op op_mul (pe_op op_fdivW (pv 0) pe_int) pe_int)))
      (pss_cons (ps_set (i := 2) sc_mixed.nd rfl (by first | exact Or.inl rfl | exact Or.inr rfl) (pe_op op_mod (pe_op op_mul (pe_op op_add (pe_op op_add (pv 2) (pe_op op_mul pe_int (pv 1))) pe_int) pe_int) pe_int))
      (pss_cons (ps_set (i := 2) sc_mixed.nd rfl (by first | exact Or.inl rfl | exact Or.inr rfl) (pe_op op_mod (pe_op op_mul (pv 2) (pe_op op_add (pe_op op_add (pe_op op_fdiv (pv 2) pe_int) pe_int) (pv 1))) pe_int))
      (pss_one (ps_ret (pe_op op_mod (pe_op op_mul (pv 2) (pe_op op_add (pe_op op_fdiv (pv 2) pe_int) pe_int)) pe_int)))))), ?_⟩
  refine ⟨_, rfl, _, _, rfl, rfl, (by show (0 : Int) < 2147483563; decide), _, rfl, _, _, rfl, rfl, wide_div (b := 40) (by decide) (by decide) (by decide) (by decide), _, _, rfl, rfl, .inr ⟨by decide, by decide⟩, _, _, rfl, rfl, ?_⟩
  refine ⟨_, rfl, _, rfl, _, _, rfl, rfl, .inl ⟨by decide, by decide⟩, _, _, rfl, rfl, _, _, rfl, rfl, _, _, rfl, rfl, .inr ⟨by decide, by decide⟩, _, _, rfl, rfl, (by show (0 : Int) < 2147483563; decide), ?_⟩
  have m1 : ∀ a : Int, (0 : Int) ≤ a % 2147483563 ∧ a % 2147483563 < 2147483563 := fun a => ⟨Int.emod_nonneg a (by decide), Int.emod_lt_of_pos a (by decide)⟩
  have m2 : ∀ a : Int, (0 : Int) ≤ a % 2147483549 ∧ a % 2147483549 < 2147483549 := fun a => ⟨Int.emod_nonneg a (by decide), Int.emod_lt_of_pos a (by decide)⟩
  generalize hx : ((c % 2147483563 + c / 2147483563 * 40009 + 52711 * k + 1) * 39373) % 2147483563 = x
  have b1 := m1 ((c % 2147483563 + c / 2147483563 * 40009 + 52711 * k + 1) * 39373)
  rw [hx] at b1
  refine ⟨_, rfl, _, rfl, _, _, rfl, rfl, ⟨by decide, by decide⟩, _, _, rfl, rfl, _, rfl, _, _, rfl, rfl, _, _, rfl, rfl, .inl ⟨by omega, by omega⟩, _, _, rfl, rfl, (by show (0 : Int) < 2147483549; decide), ?_⟩
  generalize hy : (x * (x / 1019 + 20011 + k)) % 2147483549 = y
  have b2 := m2 (x * (x / 1019 + 20011 + k))
  rw [hy] at b2
  refine ⟨_, rfl, _, rfl, _, _, rfl, rfl, ⟨by decide, by decide⟩, _, _, rfl, rfl, _, _, rfl, rfl, .inl ⟨by omega, by omega⟩, _, _, rfl, rfl, (by show (0 : Int) < 2147483497; decide), ?_⟩
  exact q _
theorem ok_source (T : Txt K mg) : Ok P w K mg base CX0 "_law_source" s_source 1 ["_law_cell"] spSource := by
  refine T.h_source.ok sc_source (fun vs H Q E h => ?_) (fun f cdv A outer s H vs Q E hr h => ?_)
  · obtain ⟨c, rfl, _⟩ := h; rfl
  obtain ⟨c, rfl, q⟩ := h
  refine ⟨_, (pss_one (ps_ret (pe_lst (pa_cons (pv 0) (pa_cons (pv 0) (pa_cons pe_int pa_nil)))))), ?_⟩
  refine ⟨_, rfl, _, rfl, (by show 3 ≤ sizeLine; decide), fun p np => ?_⟩
  exact q p _ np ⟨c, c, 0, upd_same⟩ (same_upd np)
theorem ok_next (T : Txt K mg) : Ok P w K mg base CX0 "_law_next" s_next 2 ["_law_source_here", "_law_many"] spNext := by
  have O_mixed := ok_mixed (P := P) (w := w) (base := base) T
  refine T.h_next.ok sc_next (fun vs H Q E h => ?_) (fun f cdv A outer s H vs Q E hr h => ?_)
  · obtain ⟨p, m, rfl, _⟩ := h; rfl
  obtain ⟨p, m, rfl, m0, m1, ⟨a, b, c, hp⟩, q⟩ := h
  have sq : SqL K H p [.int a, .int b, .int c] := .of hp
  have a0 : atI [V.int a, V.int b, V.int c] 0 = some (.int a) := atI_nat (j := 0) rfl
  have a1 : atI [V.int a, V.int b, V.int c] 1 = some (.int b) := atI_nat (j := 1) rfl
  have a2 : atI [V.int a, V.int b, V.int c] 2 = some (.int c) := atI_nat (j := 2) rfl
  have hm : CDivW a m := wide_div (b := 100) m0 (by omega) (by decide) (by decide)
  refine ⟨_, (pss_cons (ps_if (pt_cmpR op_ge (pe_ix ix_list (pv 0) pe_int (fun _ _ => rfl)) (pe_op op_pow pe_int pe_int) (nomark _))
      (pss_cons (ps_set (i := 2) sc_next.nd rfl (by first | exact Or.inl rfl | exact Or.inr rfl) (pe_op op_mod (pe_ix ix_list (pv 0) pe_int (fun _ _ => rfl)) (pv 1)))
      (pss_cons (ps_asg (pe_op op_fdivW (pe_ix ix_list (pv 0) pe_int (fun _ _ => rfl)) (pv 1)) (pg_sub (pv 0) pe_int set_list))
      (pss_one (ps_ret (pv 2)))))
      pss_nil)
      (pss_cons (ps_asg (pe_op op_add (pe_ix ix_list (pv 0) pe_int (fun _ _ => rfl)) pe_int) (pg_sub (pv 0) pe_int set_list))
      (pss_one (ps_ret (pe_op op_mod (callO O_mixed (hr.mono (by decide)) (by rfl) (pa_cons (pe_ix ix_list (pv 0) pe_int (fun _ _ => rfl)) (pa_cons (pe_ix ix_list (pv 0) pe_int (fun _ _ => rfl)) pa_nil))) (pv 1)))))), ?_⟩
  refine ⟨_, rfl, _, _, _, _, rfl, rfl, sq, a0, _, _, rfl, rfl, ⟨by decide, by decide, by decide⟩, _, _, rfl, rfl, _, rfl, ite2 (fun _ => ?_) (fun _ => ?_)⟩
  · refine ⟨_, rfl, _, _, _, _, rfl, rfl, sq, a0, _, rfl, _, _, rfl, rfl, m0, _, rfl, _, _, _, _, rfl, rfl, sq, a0, _, rfl, _, _, rfl, rfl, hm, _, rfl, _, _, _, 0, rfl, rfl, hp, rfl, _, rfl, ?_⟩
    exact q _ _ (Int.emod_nonneg _ (by omega)) (Int.emod_lt_of_pos _ m0) ⟨_, _, _, upd_same⟩ off_upd
  · refine ⟨_, rfl, _, _, _, _, rfl, rfl, sq, a2, _, _, rfl, rfl, _, rfl, _, _, _, 2, rfl, rfl, hp, rfl, ?_⟩
    have hp2 : (upd H p (.lst [.int a, .int b, .int (c + 1)])) p = some (.lst [.int a, .int b, .int (c + 1)]) := upd_same
    have sq2 : SqL K (upd H p (.lst [.int a, .int b, .int (c + 1)])) p [.int a, .int b, .int (c + 1)] := .of hp2
    refine ⟨_, rfl, _, _, _, _, rfl, rfl, sq2, atI_nat (j := 1) rfl, _, rfl, _, _, _, _, rfl, rfl, sq2, atI_nat (j := 2) rfl, _, _, rfl, fun r => ?_⟩
    refine ⟨_, rfl, _, _, rfl, rfl, m0, ?_⟩
    exact q _ _ (Int.emod_nonneg _ (by omega)) (Int.emod_lt_of_pos _ m0) ⟨_, _, _, upd_same⟩ off_upd
end

/-! ### texts by their codes: cut at one sign -/
def consHead (c : Nat) : List (List Nat) → List (List Nat)
  | [] => [[c]]
  | h :: t => (c :: h) :: t
def cutC (s : Nat) : List Nat → List (List Nat)
  | [] => [[]]
  | c :: r => if c = s then [] :: cutC s r else consHead c (cutC s r)
theorem cutC_ne (s : Nat) : ∀ l, cutC s l ≠ []
  | [] => by simp [cutC]
  | c :: r => by
    unfold cutC
    split
    · simp
    · cases cutC s r <;> simp [consHead]
def appHead (a : List Nat) : List (List Nat) → List (List Nat)
  | [] => [a]
  | h :: t => (a ++ h) :: t
theorem appHead_cons (a : List Nat) (c : Nat) (l : List (List Nat)) : appHead (a ++ [c]) l = appHead a (consHead c l) := by
  cases l with
  | nil => rfl
  | cons h t => simp [appHead, consHead]
theorem appHead_nil {l : List (List Nat)} (h : l ≠ []) : appHead [] l = l := by
  cases l with
  | nil => exact absurd rfl h
  | cons h t => rfl
theorem spl_cut (s : Nat) : ∀ (l acc : List Nat), TL.spl [s] 0 acc l = appHead acc (cutC s l)
  | [], acc => by simp [TL.spl_nil, cutC, appHead]
  | c :: r, acc => by
    by_cases h : c = s
    · have hp : TL.pre [s] (c :: r) = true := by simp [TL.pre, h]
      rw [TL.spl_hit hp]
      show acc :: TL.spl [s] 0 [] r = _
      rw [spl_cut s r [], appHead_nil (cutC_ne s r)]
      simp [cutC, h, appHead]
    · have hp : TL.pre [s] (c :: r) = false := by simp [TL.pre, h]
      rw [TL.spl_miss hp, spl_cut s r (acc ++ [c]), appHead_cons]
      simp [cutC, h]
theorem split_cut {y : Str} {s : Nat} (ey : TL.tl y = [s]) (hk : s < 256) (x : Str) : (Txt.split x y).map TL.tl = cutC s (TL.tl x) := by
  have hk2 : y.cps.all (· < 256) = true := by
    rw [← Array.all_toList]
    show (TL.tl y).all _ = true
    rw [ey]
    simp [hk]
  rw [TL.split_spl x y (by rw [ey]; simp) (TL.kind_ok hk2), ey, spl_cut, appHead_nil (cutC_ne s _)]
theorem cutC_len (s : Nat) : ∀ (l : List Nat), ∀ p ∈ cutC s l, p.length ≤ l.length
  | [], p, h => by simp [cutC] at h; simp [h]
  | c :: r, p, h => by
    unfold cutC at h
    split at h
    · rcases List.mem_cons.mp h with e | h
      · simp [e]
      · have := cutC_len s r p h; simp; omega
    · cases e : cutC s r with
      | nil => exact absurd e (cutC_ne s r)
      | cons a t =>
        rw [e] at h
        rcases List.mem_cons.mp h with h | h
        · have := cutC_len s r a (by rw [e]; exact List.mem_cons_self); rw [h]; simp; omega
        · have := cutC_len s r p (by rw [e]; exact List.mem_cons_of_mem _ h); simp; omega
theorem cutC_count (s : Nat) : ∀ (l : List Nat), (cutC s l).length ≤ l.length + 1
  | [] => by simp [cutC]
  | c :: r => by
    have ih := cutC_count s r
    unfold cutC
    split
    · simp; omega
    · cases e : cutC s r with
      | nil => exact absurd e (cutC_ne s r)
      | cons a t => rw [e] at ih; simp [consHead] at ih ⊢; omega
theorem cutC_free (s : Nat) : ∀ (l : List Nat), ∀ p ∈ cutC s l, s ∉ p
  | [], p, h => by simp [cutC] at h; simp [h]
  | c :: r, p, h => by
    unfold cutC at h
    split at h
    · rcases List.mem_cons.mp h with e | h
      · simp [e]
      · exact cutC_free s r p h
    · rename_i hc
      cases e : cutC s r with
      | nil => exact absurd e (cutC_ne s r)
      | cons a t =>
        rw [e] at h
        rcases List.mem_cons.mp h with h | h
        · have := cutC_free s r a (by rw [e]; exact List.mem_cons_self)
          rw [h]
          simp only [List.mem_cons, not_or]
          exact ⟨fun q => hc q.symm, this⟩
        · exact cutC_free s r p (by rw [e]; exact List.mem_cons_of_mem _ h)
/-- the words of a part, the parts of a text -/
def wordsC (p : List Nat) : List (List Nat) := (cutC 32 p).filter fun w => !w.isEmpty
def partsC (t : List Nat) : List (List (List Nat)) := (cutC 10 t).map wordsC
def keepW (w : Str) : Bool := !decide (V.str w = V.str (Str.ofString ""))
def wordsS (p : Str) : List Str := (Txt.split p (Str.ofString " ")).filter keepW
def partsS (x : Str) : List (List Str) := (Txt.split x (Str.ofString "\n")).map wordsS
theorem tl_blank : TL.tl (Str.ofString " ") = [32] := by decide +kernel
theorem tl_feed : TL.tl (Str.ofString "\n") = [10] := by decide +kernel
theorem tl_none : TL.tl (Str.ofString "") = [] := by decide +kernel
theorem keepW_tl (w : Str) : keepW w = !(TL.tl w).isEmpty := by
  unfold keepW
  by_cases h : w = Str.ofString ""
  · subst h; rw [tl_none]; simp
  · have h2 : TL.tl w ≠ [] := fun e => h (TL.ext_tl (e.trans tl_none.symm))
    have h3 : ¬ V.str w = V.str (Str.ofString "") := fun e => h (V.str.inj e)
    rw [decide_eq_false h3]
    cases e : TL.tl w with
    | nil => exact absurd e h2
    | cons a b => rfl
theorem map_filter_keep (l : List Str) : (l.filter keepW).map TL.tl = (l.map TL.tl).filter fun w => !w.isEmpty := by
  rw [List.filter_map]
  congr 1
  apply List.filter_congr
  intro a _
  exact keepW_tl a
theorem wordsS_tl (p : Str) : (wordsS p).map TL.tl = wordsC (TL.tl p) := by
  unfold wordsS wordsC
  rw [map_filter_keep, split_cut tl_blank (by decide)]
theorem partsS_tl (x : Str) : (partsS x).map (·.map TL.tl) = partsC (TL.tl x) := by
  unfold partsS partsC
  rw [List.map_map, ← split_cut tl_feed (by decide) x, List.map_map]
  apply List.map_congr_left
  intro p _
  exact wordsS_tl p
theorem len_tl' (x : Str) : x.length = (TL.tl x).length := TL.len_tl x
theorem split_small {x y : Str} {s : Nat} (ey : TL.tl y = [s]) (hk : s < 256) : (Txt.split x y).length ≤ x.length + 1 ∧ ∀ p ∈ Txt.split x y, p.length ≤ x.length := by
  have e := split_cut ey hk x
  constructor
  · have h := congrArg List.length e
    rw [List.length_map] at h
    rw [h, TL.len_tl x]
    exact cutC_count s _
  · intro p hp
    rw [TL.len_tl p, TL.len_tl x]
    exact cutC_len s _ _ (by rw [← e]; exact List.mem_map.mpr ⟨p, hp, rfl⟩)
/-! ### lines of a part -/
def gapS (a b : Str) : Str := a ++ Str.ofString " " ++ b
def linesGo (wide : Int) : Str → List Str → List Str
  | cur, [] => [cur]
  | cur, w :: r => if ((gapS cur w).length : Int) ≤ wide then linesGo wide (gapS cur w) r else cur :: linesGo wide w r
def linesS (wide : Int) : List Str → List Str
  | [] => [Str.ofString ""]
  | w :: r => linesGo wide w r
def wrappedS (x : Str) (wide : Int) : List Str := ((partsS x).map (linesS wide)).flatten
theorem len_append (a b : Str) : (a ++ b).length = a.length + b.length := by
  rw [TL.len_tl, TL.tl_append, List.length_append, ← TL.len_tl, ← TL.len_tl]
theorem len_gap (a b : Str) : (gapS a b).length = a.length + 1 + b.length := by
  unfold gapS
  rw [len_append, len_append]
  congr 1

/-! ### the program's words and lines -/
theorem big {n : Nat} (h : n ≤ 16000000) : n < sizeLine := Nat.lt_of_le_of_lt h (by decide)
theorem bigl {n : Nat} (h : n ≤ 16000000) : n ≤ sizeLine := Nat.le_of_lt (big h)
def strsAt (H : Hp) (a : Addr) (ws : List Str) : Prop := H a = some (.lst (ws.map V.str))
def spNoText : Sp := fun vs H Q _ => ∃ x : Str, vs = [.str x] ∧ Q .non H
def spWholeI : Sp := fun vs H Q _ => ∃ i : Int, vs = [.int i] ∧ Q (.bl true) H
def spCountI : Sp := fun vs H Q _ => ∃ i : Int, vs = [.int i] ∧ 0 ≤ i ∧ Q (.bl true) H
def spParts : Sp := fun vs H Q _ => ∃ x : Str, vs = [.str x] ∧ x.length ≤ 2000 ∧ ∀ (p : Addr) (as : List Addr) (H' : Hp), Same H H' → H p = none → H' p = some (.lst (as.map V.ref)) →
  Paired (fun a ws => H a = none ∧ a ≠ p ∧ strsAt H' a ws) as (partsS x) → Q (.ref p) H'
def spLines (K : PySem.W.Frag) : Sp := fun vs H Q _ => ∃ (a : Addr) (ws : List Str) (wide : Int), vs = [.ref a, .int wide] ∧ SqL K H a (ws.map V.str) ∧ ws.length ≤ 2001 ∧ (∀ w ∈ ws, w.length ≤ 2000) ∧
  ∀ (p : Addr) (H' : Hp), Same H H' → H p = none → strsAt H' p (linesS wide ws) → Q (.ref p) H'
def spWrapped : Sp := fun vs H Q _ => ∃ (x : Str) (wide : Int), vs = [.str x, .int wide] ∧ x.length ≤ 2000 ∧ 0 ≤ wide ∧
  ∀ (p : Addr) (H' : Hp), Same H H' → H p = none → strsAt H' p (wrappedS x wide) → Q (.ref p) H'
theorem wordsS_small {p : Str} (h : p.length ≤ 2000) : (wordsS p).length ≤ 2001 ∧ ∀ w ∈ wordsS p, w.length ≤ 2000 := by
  obtain ⟨h1, h2⟩ := split_small (x := p) tl_blank (by decide)
  constructor
  · exact Nat.le_trans (List.length_filter_le _ _) (by omega)
  · intro w hw
    exact Nat.le_trans (h2 w (List.mem_filter.mp hw).1) h
theorem partsS_small {x : Str} (h : x.length ≤ 2000) : (partsS x).length ≤ 2001 ∧ ∀ ws ∈ partsS x, ws.length ≤ 2001 ∧ ∀ w ∈ ws, w.length ≤ 2000 := by
  obtain ⟨h1, h2⟩ := split_small (x := x) tl_feed (by decide)
  constructor
  · unfold partsS
    rw [List.length_map]
    omega
  · intro ws hws
    obtain ⟨p, hp, rfl⟩ := List.mem_map.mp hws
    exact wordsS_small (Nat.le_trans (h2 p hp) h)
theorem linesGo_len (wide : Int) : ∀ (ws : List Str) (cur : Str), (linesGo wide cur ws).length ≤ ws.length + 1
  | [], cur => by simp [linesGo]
  | w :: r, cur => by
    unfold linesGo
    split
    · have := linesGo_len wide r (gapS cur w); simp; omega
    · have := linesGo_len wide r w; simp; omega
theorem linesS_len (wide : Int) (ws : List Str) : (linesS wide ws).length ≤ ws.length + 1 := by
  cases ws with
  | nil => simp [linesS]
  | cons w r => have := linesGo_len wide r w; simp [linesS]; omega
theorem flat_take_succ {α β : Type} (f : α → List β) (l : List α) (i : Nat) (a : α) (h : l[i]? = some a) : ((l.take (i + 1)).map f).flatten = ((l.take i).map f).flatten ++ f a := by
  rw [List.take_add_one, h, List.map_append, List.flatten_append]
  simp
theorem flat_len {α β : Type} (f : α → List β) (b : Nat) : ∀ (l : List α), (∀ a ∈ l, (f a).length ≤ b) → ((l.map f).flatten).length ≤ l.length * b
  | [], _ => by simp
  | a :: r, h => by
    have h1 := h a List.mem_cons_self
    have h2 := flat_len f b r fun x hx => h x (List.mem_cons_of_mem _ hx)
    simp only [List.map_cons, List.flatten_cons, List.length_append, List.length_cons, Nat.add_mul, Nat.one_mul]
    omega
theorem wrapped_len {x : Str} {wide : Int} (hx : x.length ≤ 2000) : (wrappedS x wide).length ≤ 2001 * 2002 := by
  obtain ⟨c1, c2⟩ := partsS_small hx
  refine Nat.le_trans (flat_len (linesS wide) 2002 _ fun ws' h' => ?_) (Nat.mul_le_mul_right _ c1)
  have z1 := (c2 ws' h').1
  have z2 := linesS_len wide ws'
  omega
theorem str_at {ws : List Str} {i : Nat} {y : V} (h : (ws.map V.str)[i]? = some y) : ∃ z, y = V.str z ∧ ws[i]? = some z := by
  rw [List.getElem?_map] at h
  cases e : ws[i]? with
  | none => rw [e] at h; cases h
  | some z => rw [e] at h; exact ⟨z, (Option.some.inj h).symm, rfl⟩
theorem ref_at {as : List Addr} {i : Nat} {y : V} (h : (as.map V.ref)[i]? = some y) : ∃ z, y = V.ref z ∧ as[i]? = some z := by
  rw [List.getElem?_map] at h
  cases e : as[i]? with
  | none => rw [e] at h; cases h
  | some z => rw [e] at h; exact ⟨z, (Option.some.inj h).symm, rfl⟩
theorem filter_take_succ {α : Type} (f : α → Bool) (l : List α) (i : Nat) (a : α) (h : l[i]? = some a) : (l.take (i + 1)).filter f = (l.take i).filter f ++ (if f a = true then [a] else []) := by
  rw [List.take_add_one, h, List.filter_append]
  congr 1
  simp [List.filter_cons]
theorem paired_same {G G' : Addr → List Str → Prop} (h : ∀ a ws, G a ws → G' a ws) : ∀ {l : List Addr} {m : List (List Str)}, Paired G l m → Paired G' l m
  | _, _, .nil => .nil
  | _, _, .cons a r => .cons (h _ _ a) (paired_same h r)
section
variable {P : Program} {w : World} {K : PySem.W.Frag} {mg : Str → Option Value} {base : Heap}
theorem ok_no_text (T : Txt K mg) : Ok P w K mg base CX0 "refuse_no_text" s_p_refuse_no_text 1 ["thing"] spNoText := by
  refine T.h_p_refuse_no_text.ok sc_p_refuse_no_text (fun vs H Q E h => ?_) (fun f cdv A outer s H vs Q E hr h => ?_)
  · obtain ⟨x, rfl, _⟩ := h; rfl
  obtain ⟨x, rfl, q⟩ := h
  refine ⟨_, (pss_one (ps_if (pt_not (pt_val (pe_callB call_isi (by rfl) T.m_isinstance (by decide +kernel) (pa_cons (pv 0) (pa_cons (pe_bltn (v := .ty "str") (by rfl) T.m_str (by decide +kernel) rfl) pa_nil)))))
      (pss_one ps_never)
      pss_nil)), ?_⟩
  exact ⟨_, rfl, _, _, _, _, true, rfl, .ty _, .base (.str x), kit_ty (by decide +kernel), true, rfl, iteF q⟩
theorem ok_wholeI (T : Txt K mg) : Ok P w K mg base CX0 "is_whole" s_p_is_whole 1 ["thing"] spWholeI := by
  refine T.h_p_is_whole.ok sc_p_is_whole (fun vs H Q E h => ?_) (fun f cdv A outer s H vs Q E hr h => ?_)
  · obtain ⟨x, rfl, _⟩ := h; rfl
  obtain ⟨i, rfl, q⟩ := h
  refine ⟨_, (pss_one (ps_ret (pe_and (pe_callB call_isi (by rfl) T.m_isinstance (by decide +kernel) (pa_cons (pv 0) (pa_cons (pe_bltn (v := .ty "int") (by rfl) T.m_int (by decide +kernel) rfl) pa_nil))) (pe_one (pe_not (pe_callB call_isi (by rfl) T.m_isinstance (by decide +kernel) (pa_cons (pv 0) (pa_cons (pe_bltn (v := .ty "bool") (by rfl) T.m_bool (by decide +kernel) rfl) pa_nil)))))))), ?_⟩
  refine ⟨_, rfl, _, _, _, _, true, rfl, .ty _, .base (.int i), kit_ty (by decide +kernel), true, rfl, iteT ?_⟩
  exact ⟨_, rfl, _, _, _, _, false, rfl, .ty _, .base (.int i), kit_ty (by decide +kernel), false, rfl, q⟩
theorem ok_countI (T : Txt K mg) : Ok P w K mg base CX0 "is_count" s_p_is_count 2 ["thing"] spCountI := by
  have O_p_is_whole := ok_wholeI (P := P) (w := w) (base := base) T
  refine T.h_p_is_count.ok sc_p_is_count (fun vs H Q E h => ?_) (fun f cdv A outer s H vs Q E hr h => ?_)
  · obtain ⟨x, rfl, _⟩ := h; rfl
  obtain ⟨i, rfl, i0, q⟩ := h
  refine ⟨_, (pss_one (ps_ret (pe_and (callO O_p_is_whole (hr.mono (by decide)) (by rfl) (pa_cons (pv 0) pa_nil)) (pe_one (pe_cmpR op_ge (pv 0) pe_int (nomark _)))))), ?_⟩
  refine ⟨_, rfl, i, rfl, true, rfl, iteT ?_⟩
  refine ⟨_, rfl, _, _, rfl, rfl, ?_⟩
  show Q (.bl (decide (0 ≤ i))) H
  rw [decide_eq_true i0]
  exact q
theorem ok_parts (T : Txt K mg) : Ok P w K mg base CX0 "parts_of" s_p_parts_of 1 ["text"] spParts := by
  refine T.h_p_parts_of.ok sc_p_parts_of (fun vs H Q E h => ?_) (fun f cdv A outer s H vs Q E hr h => ?_)
  · obtain ⟨x, rfl, _⟩ := h; rfl
  obtain ⟨x, rfl, hx, q⟩ := h
  obtain ⟨c1, c2⟩ := split_small (x := x) tl_feed (by decide)
  refine ⟨_, (pss_one (ps_ret (pe_lc (own := [("part", 2)]) (te := (tLc (iList K (tM1 _ (tVar 2) _)) _ (tTest (tOp _ (tVar 1) _)) (tVar 1) [1])) (by rfl) sc_p_parts_of.nd (pi_list (pe_split (pv 0) pe_str)) (blkOk_by (own := [("part", 2)]) (N := n_p_parts_of) (sc := defScope s_p_parts_of) (by decide +kernel)) (fun _ _ _ _ _ => (pg_name (i := 2) sc_p_parts_of.nd rfl (by first | exact Or.inl rfl | exact Or.inr rfl))) (fun _ _ _ _ _ => pts_nil) (fun _ _ _ _ _ => (pe_lc (own := [("word", 1)]) (by rfl) sc_p_parts_of.nd (pi_list (pe_split (pv 2) pe_str)) (blkOk_by (own := [("word", 1)]) (N := n_p_parts_of) (sc := relS _ (defScope s_p_parts_of)) (by decide +kernel)) (fun _ _ _ _ _ => (pg_name (i := 1) sc_p_parts_of.nd rfl (by first | exact Or.inl rfl | exact Or.inr rfl))) (fun _ _ _ _ _ => (pts_one (pt_cmpR op_ne (pv 1) pe_str (nomark _)))) (fun _ _ _ _ _ => (pv 1))))))), ?_⟩
  refine ⟨_, rfl, ⟨_, rfl⟩, _, _, rfl, rfl, (by decide +kernel), bigl (by omega), fun p0 n0 => ⟨p0, rfl, ⟨_, .of upd_same⟩, fun D nD => ?_⟩⟩
  have h0 := same_upd (o := .lst ((Txt.split x (Str.ofString "\n")).map V.str)) n0
  have e0 : (upd H p0 (.lst ((Txt.split x (Str.ofString "\n")).map V.str))) p0 = some (.lst ((Txt.split x (Str.ofString "\n")).map V.str)) := upd_same
  generalize upd H p0 (.lst ((Txt.split x (Str.ofString "\n")).map V.str)) = H0 at h0 e0 nD ⊢
  refine lc_list (K := K) (a := p0) (xs := (Txt.split x (Str.ofString "\n")).map V.str) (fun i H' => ∃ as : List Addr, H' D = some (.lst (as.map V.ref)) ∧ Same H0 H' ∧ Paired (fun a ws => H a = none ∧ a ≠ D ∧ strsAt H' a ws) as ((partsS x).take i))
    ⟨[], upd_same, same_upd nD, by rw [List.take_zero]; exact .nil⟩ (fun i H' _ ⟨as, _, sm, _⟩ => .of (sm _ _ e0)) ?_ ?_
  · rintro i y H' hi ⟨as, eD, sm, pr⟩
    obtain ⟨p, rfl, hp⟩ := str_at hi
    have hpl : p.length ≤ 2000 := Nat.le_trans (c2 p (List.mem_of_getElem? hp)) hx
    obtain ⟨d1, d2⟩ := split_small (x := p) tl_blank (by decide)
    refine ⟨rfl, yes_if ?_⟩
    refine ⟨_, rfl, ⟨_, rfl⟩, _, _, rfl, rfl, (by decide +kernel), bigl (by omega), fun p1 n1 => ⟨p1, rfl, ⟨_, .of upd_same⟩, fun D1 nD1 => ?_⟩⟩
    have h1 := same_upd (o := .lst ((Txt.split p (Str.ofString " ")).map V.str)) n1
    have e1 : (upd H' p1 (.lst ((Txt.split p (Str.ofString " ")).map V.str))) p1 = some (.lst ((Txt.split p (Str.ofString " ")).map V.str)) := upd_same
    generalize upd H' p1 (.lst ((Txt.split p (Str.ofString " ")).map V.str)) = H1 at h1 e1 nD1 ⊢
    refine lc_list (K := K) (a := p1) (xs := (Txt.split p (Str.ofString " ")).map V.str) (fun j H'' => strsAt H'' D1 (((Txt.split p (Str.ofString " ")).take j).filter keepW) ∧ Same H1 H'')
      ⟨upd_same, same_upd nD1⟩ (fun j H'' _ h2 => .of (h2.2 _ _ e1)) ?_ ?_
    · rintro j y H'' hj ⟨eD1, sm1⟩
      obtain ⟨wd, rfl, hwd⟩ := str_at hj
      have hf := filter_take_succ keepW (Txt.split p (Str.ofString " ")) j wd hwd
      have hjl : j < (Txt.split p (Str.ofString " ")).length := (List.getElem?_eq_some_iff.mp hwd).1
      refine ⟨rfl, _, rfl, rfl, _, rfl, ite2 (fun hk => ?_) (fun hk => ?_)⟩
      · have hk : keepW wd = true := hk
        refine ⟨_, rfl, _, eD1, ?_, ?_, ?_⟩
        · rw [List.length_map]
          refine big (Nat.le_trans (List.length_filter_le _ _) ?_)
          rw [List.length_take]
          omega
        · show (upd H'' D1 _) D1 = _
          rw [upd_same, hf, if_pos hk, List.map_append]
          rfl
        · intro b o hb
          have hb2 := sm1 _ _ hb
          have nb : b ≠ D1 := ne_of_none hb nD1
          rw [upd_ne nb]
          exact hb2
      · have hk : ¬ keepW wd = true := hk
        have hk2 : keepW wd = false := by simpa using hk
        refine ⟨?_, sm1⟩
        rw [hf, hk2]
        simpa using eD1
    · rintro H'' ⟨eD1, sm1⟩
      rw [List.length_map, List.take_length] at eD1
      have eD2 : H'' D = some (.lst (as.map V.ref)) := sm1 _ _ (h1 _ _ eD)
      have nDD : D1 ≠ D := fun e => by
        rw [e] at nD1
        rw [h1 _ _ eD] at nD1
        cases nD1
      have fr : H D1 = none := by
        have z1 : H1 D1 = none := nD1
        exact h0.free (sm.free (h1.free z1))
      have hil : i < (Txt.split x (Str.ofString "\n")).length := (List.getElem?_eq_some_iff.mp hp).1
      have pl := pr.length
      have hpi : (partsS x)[i]? = some (wordsS p) := by
        unfold partsS
        rw [List.getElem?_map, hp]
        rfl
      refine ⟨_, eD2, ?_, as ++ [D1], ?_, ?_, ?_⟩
      · rw [List.length_map, pl, List.length_take]
        exact big (by omega)
      · rw [upd_same, List.map_append]
        rfl
      · intro b o hb
        have nb : b ≠ D := ne_of_none hb nD
        rw [upd_ne nb]
        exact sm1 _ _ (h1 _ _ (sm _ _ hb))
      · rw [List.take_add_one, hpi]
        refine Paired.snoc (paired_same ?_ pr) ⟨fr, nDD, ?_⟩
        · rintro a ws ⟨z1, z2, z3⟩
          refine ⟨z1, z2, ?_⟩
          show (upd H'' D _) a = _
          rw [upd_ne z2]
          exact sm1 _ _ (h1 _ _ z3)
        · show (upd H'' D _) D1 = _
          rw [upd_ne nDD]
          exact eD1
  · rintro H' ⟨as, eD, sm, pr⟩
    have e : (partsS x).take ((Txt.split x (Str.ofString "\n")).map V.str).length = partsS x := by
      apply List.take_of_length_le
      unfold partsS
      rw [List.length_map, List.length_map]
      exact Nat.le_refl _
    rw [e] at pr
    exact q D as H' (h0.trans sm) (h0.free nD) eD pr
theorem join3 (a b : Str) : Str.empty ++ a ++ Str.ofString " " ++ b = gapS a b := by
  have e : Str.empty ++ a = a := TL.ext_tl (by rw [TL.tl_append]; rfl)
  rw [e]
  rfl
theorem ixN_last {n : Nat} : ixN (n + 1) (-1) = some n := by
  unfold ixN
  rw [if_neg (by decide), if_pos (by omega)]
  congr 1
  omega
theorem ok_lines (T : Txt K mg) : Ok P w K mg base CX0 "lines_of" s_p_lines_of 1 ["words", "wide"] (spLines K) := by
  refine T.h_p_lines_of.ok sc_p_lines_of (fun vs H Q E h => ?_) (fun f cdv A outer s H vs Q E hr h => ?_)
  · obtain ⟨a, ws, wide, rfl, _⟩ := h; rfl
  obtain ⟨a, ws, wide, rfl, hs, hl, hw, q⟩ := h
  refine ⟨_, (pss_cons (ps_if (pt_cmpR op_eq (pe_callB call_len (by rfl) T.m_len (by decide +kernel) (pa_cons (pv 0) pa_nil)) pe_int (nomark _))
      (pss_one (ps_ret (pe_lst (pa_cons pe_str pa_nil))))
      pss_nil)
      (pss_cons (ps_set (i := 2) sc_p_lines_of.nd rfl (by first | exact Or.inl rfl | exact Or.inr rfl) (pe_lst (pa_cons (pe_ix ix_list (pv 0) pe_int (fun _ _ => rfl)) pa_nil)))
      (pss_cons (ps_for PassesOwn.never rfl (pi_list (pe_slice sl_list (pv 0) (po_some pe_int) po_none)) (pg_name (i := 3) sc_p_lines_of.nd rfl (by first | exact Or.inl rfl | exact Or.inr rfl))
      (pss_cons (ps_set (i := 4) sc_p_lines_of.nd rfl (by first | exact Or.inl rfl | exact Or.inr rfl) (pe_joined (PJ.cons (pe_fmt (pe_ix ix_list (pv 2) (pe_un un_neg pe_int) (fun _ _ => rfl))) (PJ.cons pe_str (PJ.cons (pe_fmt (pv 3)) PJ.nil)))))
      (pss_one (ps_if (pt_cmpR op_le (pe_callB call_len_str (by rfl) T.m_len (by decide +kernel) (pa_cons (pv 4) pa_nil)) (pv 1) (nomark _))
      (pss_one (ps_asg (pv 4) (pg_sub (pv 2) (pe_un un_neg pe_int) set_list)))
      (pss_one (ps_expr (pe_bm PySem.F.plainAttrs_list PySem.F.slot_list_append PySem.F.type_list_append mt_append (pv 2) (pa_cons (pv 3) pa_nil))))))))
      (pss_one (ps_ret (pv 2)))))), ?_⟩
  refine ⟨_, rfl, _, _, rfl, .inl ⟨_, hs, rfl⟩, rfl, _, rfl, ?_⟩
  cases ws with
  | nil =>
    refine iteT ?_
    refine ⟨(by show 1 ≤ sizeLine; decide), fun p np => ?_⟩
    exact q p _ (same_upd np) np upd_same
  | cons w0 r =>
    refine ite2 (fun e => ?_) (fun _ => ?_)
    · have e1 := V.int.inj (of_decide_eq_true e)
      simp at e1
      omega
    refine ⟨_, rfl, _, _, _, _, rfl, rfl, hs, atI_nat (j := 0) rfl, (by show 1 ≤ sizeLine; decide), fun L nL => ?_⟩
    refine ⟨_, rfl, 1, rfl, a, _, rfl, (same_upd nL).seq hs, fun S nS => ?_⟩
    have ec : cutV ((w0 :: r).map V.str) (some 1) none = r.map V.str := by
      unfold cutV
      rw [show HT.sIx ((w0 :: r).map V.str).length 0 (some 1) = min 1 ((w0 :: r).map V.str).length from HT.sIx_nat _ 0 1, HT.sIx_none]
      simp
      exact List.take_of_length_le (by simp)
    rw [ec]
    have eL : (upd (upd H L (.lst [.str w0])) S (.lst (r.map V.str))) L = some (.lst [.str w0]) := by
      rw [upd_ne (ne_of_none upd_same nS)]
      exact upd_same
    have eS : (upd (upd H L (.lst [.str w0])) S (.lst (r.map V.str))) S = some (.lst (r.map V.str)) := upd_same
    have sH : Same H (upd (upd H L (.lst [.str w0])) S (.lst (r.map V.str))) := (same_upd nL).trans (same_upd nS)
    have nSL : S ≠ L := (ne_of_none upd_same nS).symm
    generalize upd (upd H L (.lst [.str w0])) S (.lst (r.map V.str)) = HB at eL eS sH ⊢
    refine ⟨S, rfl, ⟨_, .of eS⟩, for_list (K := K) (a := S) (xs := r.map V.str) (fun i σ H2 => (∃ v3 v4, σ = [some (.ref a), some (.int wide), some (.ref L), v3, v4]) ∧ Off L HB H2 ∧
        ∃ (dn : List Str) (cur : Str), strsAt H2 L (dn ++ [cur]) ∧ dn.length ≤ i ∧ cur.length ≤ (i + 1) * 2001 ∧ dn ++ linesGo wide cur (r.drop i) = linesGo wide w0 r)
      ⟨⟨_, _, rfl⟩, .refl, [], w0, eL, Nat.le_refl _, Nat.le_trans (hw w0 List.mem_cons_self) (by omega), rfl⟩ (fun i σ H2 _ h2 => .of (h2.2.1 _ _ eS nSL)) ?_ ?_⟩
    · rintro i y σ H2 hi ⟨⟨v3, v4, rfl⟩, o2, dn, cur, e2, hd, hc, hg⟩
      obtain ⟨wd, rfl, hwd⟩ := str_at hi
      have hil : i < r.length := (List.getElem?_eq_some_iff.mp hwd).1
      have hrl : r.length ≤ 2000 := by simp at hl; omega
      have hwl : wd.length ≤ 2000 := hw wd (List.mem_cons_of_mem _ (List.mem_of_getElem? hwd))
      have hdr : r.drop i = wd :: r.drop (i + 1) := by
        obtain ⟨h1, h2⟩ := List.getElem?_eq_some_iff.mp hwd
        rw [List.drop_eq_getElem_cons h1, h2]
      have al : atI ((dn ++ [cur]).map V.str) (-1) = some (.str cur) := by
        rw [List.map_append]
        exact atI_last _ _
      have hcb : cur.length ≤ 4004001 := Nat.le_trans hc (Nat.le_trans (Nat.mul_le_mul_right 2001 (show i + 1 ≤ 2001 by omega)) (by decide))
      have b1 : (Str.empty ++ cur).length = cur.length := by rw [len_append]; exact Nat.zero_add _
      have b2 : (Str.empty ++ cur ++ Str.ofString " ").length = cur.length + 1 := by rw [len_append, b1]; rfl
      have b3 : (Str.empty ++ cur ++ Str.ofString " " ++ wd).length = cur.length + 1 + wd.length := by rw [len_append, b2]
      refine ⟨_, rfl, 1, rfl, _, _, _, _, rfl, rfl, .of e2, al, .inl ⟨cur, rfl, bigl (by omega), cur, rfl, bigl (by omega), ?_⟩⟩
      refine ⟨_, rfl, bigl (by omega), _, rfl, .inl ⟨wd, rfl, bigl (by omega), wd, rfl, bigl (by omega), ?_⟩⟩
      show tJs [] (Str.empty ++ cur ++ Str.ofString " " ++ wd) _ _ _
      rw [join3] at b3 ⊢
      refine ⟨_, rfl, _, rfl, bigl (by omega), _, rfl, _, _, rfl, rfl, _, rfl, ite2 (fun e => ?_) (fun e => ?_)⟩
      · have e1 : ((gapS cur wd).length : Int) ≤ wide := of_decide_eq_true e
        refine ⟨_, rfl, _, rfl, 1, rfl, _, _, _, dn.length, rfl, rfl, e2, ?_, ?_⟩
        · rw [List.length_map, List.length_append]
          exact ixN_last
        · have es : ((dn ++ [cur]).map V.str).set dn.length (.str (gapS cur wd)) = (dn ++ [gapS cur wd]).map V.str := by
            rw [List.map_append, List.set_append_right _ _ (by simp)]
            simp
          rw [es]
          refine ⟨⟨_, _, rfl⟩, o2.trans off_upd, dn, gapS cur wd, upd_same, by omega, ?_, ?_⟩
          · rw [len_gap]
            have : (i + 1 + 1) * 2001 = (i + 1) * 2001 + 2001 := by omega
            omega
          · rw [← hg, hdr]
            show _ = dn ++ (if ((gapS cur wd).length : Int) ≤ wide then _ else _)
            rw [if_pos e1]
      · have e1 : ¬ ((gapS cur wd).length : Int) ≤ wide := fun z => e (decide_eq_true z)
        refine ⟨_, rfl, .inl ⟨rfl, _, .of e2⟩, _, rfl, _, _, _, rfl, rfl, e2, ?_, ?_⟩
        · rw [List.length_map, List.length_append]
          simp
          exact big (by omega)
        · refine ⟨⟨_, _, rfl⟩, o2.trans off_upd, dn ++ [cur], wd, ?_, ?_, ?_, ?_⟩
          · show (upd H2 L _) L = _
            rw [upd_same, List.map_append (l₁ := dn ++ [cur])]
            rfl
          · simp; omega
          · have : (i + 1 + 1) * 2001 = (i + 1) * 2001 + 2001 := by omega
            omega
          · rw [← hg, hdr, List.append_assoc]
            show _ = dn ++ (if ((gapS cur wd).length : Int) ≤ wide then _ else _)
            rw [if_neg e1]
            rfl
    · rintro σ H2 ⟨⟨v3, v4, rfl⟩, o2, dn, cur, e2, hd, hc, hg⟩
      rw [List.length_map, List.drop_length] at hg
      have hg2 : dn ++ [cur] = linesS wide (w0 :: r) := hg
      rw [hg2] at e2
      refine ⟨_, rfl, ?_⟩
      refine q L H2 (fun b o hb => ?_) nL e2
      exact o2 _ _ (sH _ _ hb) (ne_of_none hb nL)
theorem ok_wrapped (T : Txt K mg) : Ok P w K mg base CX0 "wrapped" s_p_wrapped 3 ["text", "wide"] spWrapped := by
  have O_p_refuse_no_text := ok_no_text (P := P) (w := w) (base := base) T
  have O_p_is_count := ok_countI (P := P) (w := w) (base := base) T
  have O_p_parts_of := ok_parts (P := P) (w := w) (base := base) T
  have O_p_lines_of := ok_lines (P := P) (w := w) (base := base) T
  refine T.h_p_wrapped.ok sc_p_wrapped (fun vs H Q E h => ?_) (fun f cdv A outer s H vs Q E hr h => ?_)
  · obtain ⟨x, wide, rfl, _⟩ := h; rfl
  obtain ⟨x, wide, rfl, hx, hw, q⟩ := h
  obtain ⟨c1, c2⟩ := partsS_small hx
  refine ⟨_, (pss_cons (ps_expr (callO O_p_refuse_no_text (hr.mono (by decide)) (by rfl) (pa_cons (pv 0) pa_nil)))
      (pss_cons (ps_if (pt_not (pt_val (callO O_p_is_count (hr.mono (by decide)) (by rfl) (pa_cons (pv 1) pa_nil))))
      (pss_one ps_never)
      pss_nil)
      (pss_cons (ps_set (i := 2) sc_p_wrapped.nd rfl (by first | exact Or.inl rfl | exact Or.inr rfl) (pe_lst pa_nil))
      (pss_cons (ps_for PassesOwn.never rfl (pi_list (callO O_p_parts_of (hr.mono (by decide)) (by rfl) (pa_cons (pv 0) pa_nil))) (pg_name (i := 3) sc_p_wrapped.nd rfl (by first | exact Or.inl rfl | exact Or.inr rfl))
      (pss_one (ps_expr (pe_bm PySem.F.plainAttrs_list PySem.F.slot_list_extend PySem.F.type_list_extend mt_extend (pv 2) (pa_cons (callO O_p_lines_of (hr.mono (by decide)) (by rfl) (pa_cons (pv 3) (pa_cons (pv 1) pa_nil))) pa_nil)))))
      (pss_one (ps_ret (pv 2))))))), ?_⟩
  refine ⟨_, rfl, x, rfl, ?_⟩
  refine ⟨_, rfl, wide, rfl, hw, true, rfl, iteF ?_⟩
  refine ⟨(by show 0 ≤ sizeLine; decide), fun L nL => ?_⟩
  refine ⟨_, rfl, x, rfl, hx, fun p as HB sB nP eP pr => ?_⟩
  have eL : HB L = some (.lst []) := sB _ _ upd_same
  have nPL : p ≠ L := fun e => by
    rw [e, upd_same] at nP
    cases nP
  refine ⟨p, rfl, ⟨_, .of eP⟩, for_list (K := K) (a := p) (xs := as.map V.ref) (fun i σ H2 => (∃ v3, σ = [some (.str x), some (.int wide), some (.ref L), v3]) ∧ Off L HB H2 ∧ strsAt H2 L ((((partsS x).take i).map (linesS wide)).flatten))
    ⟨⟨_, rfl⟩, .refl, by rw [List.take_zero]; exact eL⟩ (fun i σ H2 _ h2 => .of (h2.2.1 _ _ eP nPL)) ?_ ?_⟩
  · rintro i y σ H2 hi ⟨⟨v3, rfl⟩, o2, e2⟩
    obtain ⟨a, rfl, ha⟩ := ref_at hi
    obtain ⟨ws, hws, fa, nap, ea⟩ := paired_get pr ha
    have naL : a ≠ L := fun e => by
      rw [e, upd_same] at fa
      cases fa
    have ea2 : H2 a = some (.lst (ws.map V.str)) := o2 _ _ ea naL
    obtain ⟨d1, d2⟩ := c2 ws (List.mem_of_getElem? hws)
    have hil : i < (partsS x).length := (List.getElem?_eq_some_iff.mp hws).1
    refine ⟨_, rfl, .inl ⟨rfl, _, .of e2⟩, _, rfl, _, rfl, a, ws, wide, rfl, .of ea2, d1, d2, fun b H3 s3 nb eb => ?_⟩
    have e3 : H3 L = _ := s3 _ _ e2
    have nbL : b ≠ L := fun e => by
      rw [e, e2] at nb
      cases nb
    have ln : ((((partsS x).take i).map (linesS wide)).flatten).length ≤ 2001 * 2002 := by
      refine Nat.le_trans (flat_len (linesS wide) 2002 _ fun ws' h' => ?_) (Nat.mul_le_mul_right _ ?_)
      · have z1 := (c2 ws' (List.mem_of_mem_take h')).1
        have z2 := linesS_len wide ws'
        omega
      · rw [List.length_take]
        omega
    have l2 : (linesS wide ws).length ≤ 2002 := by
      have z2 := linesS_len wide ws
      omega
    refine ⟨L, b, _, _, rfl, rfl, e3, eb, ?_, ?_⟩
    · rw [List.length_map, List.length_map]
      exact bigl (by omega)
    · refine ⟨⟨_, rfl⟩, ?_, ?_⟩
      · exact (o2.trans (.of s3)).trans off_upd
      · show (upd H3 L _) L = _
        rw [upd_same, flat_take_succ (linesS wide) _ _ _ hws, List.map_append]
  · rintro σ H2 ⟨⟨v3, rfl⟩, o2, e2⟩
    have e : (partsS x).take (as.map V.ref).length = partsS x := by
      apply List.take_of_length_le
      rw [List.length_map, pr.length]
      exact Nat.le_refl _
    rw [e] at e2
    refine ⟨_, rfl, q L H2 (fun b o hb => ?_) nL e2⟩
    exact o2 _ _ (sB _ _ (same_upd nL _ _ hb)) (ne_of_none hb nL)
end

/-! ### signs that may stand -/
def okS (z : Str) : Prop := ∀ c ∈ TL.tl z, c < 128
theorem okS.app {a b : Str} (ha : okS a) (hb : okS b) : okS (a ++ b) := fun c hc => by
  rw [TL.tl_append] at hc
  rcases List.mem_append.mp hc with h | h
  · exact ha c h
  · exact hb c h
theorem okS.none : okS (Str.ofString "") := fun c hc => by rw [tl_none] at hc; cases hc
theorem okS.blank : okS (Str.ofString " ") := fun c hc => by
  rw [tl_blank] at hc
  simp at hc
  omega
theorem okS.feed : okS (Str.ofString "\n") := fun c hc => by
  rw [tl_feed] at hc
  simp at hc
  omega
theorem okS.cut {z : Str} (h : okS z) (lo hi : Option Int) : okS (cutS z lo hi) := fun c hc => by
  have h1 : c ∈ (z.cps.toList.drop (HT.sIx z.length 0 lo)).take (HT.sIx z.length z.length hi - HT.sIx z.length 0 lo) := hc
  exact h c (List.mem_of_mem_drop (List.mem_of_mem_take h1))
theorem okS.ok {z : Str} (h : okS z) : PyData.strOk z = true := by
  unfold PyData.strOk
  rw [← Array.all_toList, List.all_eq_true]
  intro c hc
  have := h c hc
  simp
  omega
theorem cutC_sub (s : Nat) : ∀ (l : List Nat), ∀ p ∈ cutC s l, ∀ c ∈ p, c ∈ l
  | [], p, h, c, hc => by simp [cutC] at h; rw [h] at hc; cases hc
  | d :: r, p, h, c, hc => by
    unfold cutC at h
    split at h
    · rcases List.mem_cons.mp h with e | h
      · rw [e] at hc; cases hc
      · exact List.mem_cons_of_mem _ (cutC_sub s r p h c hc)
    · cases e : cutC s r with
      | nil => exact absurd e (cutC_ne s r)
      | cons a t =>
        rw [e] at h
        rcases List.mem_cons.mp h with h | h
        · rw [h] at hc
          rcases List.mem_cons.mp hc with h2 | h2
          · rw [h2]; exact List.mem_cons_self
          · exact List.mem_cons_of_mem _ (cutC_sub s r a (by rw [e]; exact List.mem_cons_self) c h2)
        · exact List.mem_cons_of_mem _ (cutC_sub s r p (by rw [e]; exact List.mem_cons_of_mem _ h) c hc)
theorem okS.split {x y : Str} {s : Nat} (ey : TL.tl y = [s]) (hk : s < 256) (h : okS x) : ∀ p ∈ Txt.split x y, okS p := fun p hp c hc =>
  h c (cutC_sub s (TL.tl x) (TL.tl p) (by rw [← split_cut ey hk]; exact List.mem_map.mpr ⟨p, hp, rfl⟩) c hc)
theorem okS.parts {x : Str} (h : okS x) : ∀ ws ∈ partsS x, ∀ w ∈ ws, okS w := fun ws hws w hw => by
  obtain ⟨p, hp, rfl⟩ := List.mem_map.mp hws
  exact okS.split tl_blank (by decide) (okS.split tl_feed (by decide) h p hp) w (List.mem_filter.mp hw).1
theorem okS_linesGo {wide : Int} : ∀ {ws : List Str} {cur : Str}, okS cur → (∀ w ∈ ws, okS w) → ∀ l ∈ linesGo wide cur ws, okS l
  | [], cur, hc, _, l, hl => by
    rw [List.mem_singleton.mp (show l ∈ [cur] from hl)]
    exact hc
  | w :: r, cur, hc, hw, l, hl => by
    unfold linesGo at hl
    have hw0 := hw w List.mem_cons_self
    have hwr : ∀ v ∈ r, okS v := fun v hv => hw v (List.mem_cons_of_mem _ hv)
    split at hl
    · exact okS_linesGo ((hc.app okS.blank).app hw0) hwr l hl
    · rcases List.mem_cons.mp hl with e | hl
      · rw [e]; exact hc
      · exact okS_linesGo hw0 hwr l hl
theorem okS.lines {wide : Int} {ws : List Str} (hw : ∀ w ∈ ws, okS w) : ∀ l ∈ linesS wide ws, okS l := fun l hl => by
  cases ws with
  | nil =>
    rw [List.mem_singleton.mp (show l ∈ [Str.ofString ""] from hl)]
    exact okS.none
  | cons w r => exact okS_linesGo (hw w List.mem_cons_self) (fun v hv => hw v (List.mem_cons_of_mem _ hv)) l hl
theorem okS.wrapped {x : Str} {wide : Int} (h : okS x) : ∀ l ∈ wrappedS x wide, okS l := fun l hl => by
  obtain ⟨ls, h1, h2⟩ := List.mem_flatten.mp hl
  obtain ⟨ws, h3, rfl⟩ := List.mem_map.mp h1
  exact okS.lines (h.parts ws h3) l h2
/-! ### lists of texts as data -/
def dat (ws : List Str) : PyData := .list (ws.map PyData.str)
theorem dp_all {K : PySem.W.Frag} {H : Hp} : ∀ ws : List Str, DpAll K H (ws.map V.str) (ws.map PyData.str)
  | [] => .nil
  | w :: r => .cons (.str w) (dp_all r)
theorem dp_strs {K : PySem.W.Frag} {H : Hp} {a : Addr} {ws : List Str} (h : SqL K H a (ws.map V.str)) : Dp K H (.ref a) (dat ws) := .lst h (dp_all ws)
theorem can_strs : ∀ ws : List Str, (∀ w ∈ ws, okS w) → PyData.canLayAll0 (ws.map PyData.str) = true
  | [], _ => rfl
  | w :: r, h => by
    show (PyData.strOk w && PyData.canLayAll0 (r.map PyData.str)) = true
    rw [(h w List.mem_cons_self).ok, can_strs r fun v hv => h v (List.mem_cons_of_mem _ hv)]
    rfl
theorem depth_strs : ∀ ws : List Str, PyData.depthAll (ws.map PyData.str) = 0
  | [] => rfl
  | w :: r => by
    show max 0 (PyData.depthAll (r.map PyData.str)) = 0
    rw [depth_strs r]
    rfl
theorem shaped_strs {ws : List Str} (h : ∀ w ∈ ws, okS w) : SeqAt.shaped (dat ws) = true := by
  unfold SeqAt.shaped dat
  rw [Bool.and_eq_true]
  refine ⟨can_strs ws h, ?_⟩
  show decide (PyData.depthAll (ws.map PyData.str) + 1 ≤ 64) = true
  rw [depth_strs]
  rfl
theorem eqv_dat : ∀ ws vs : List Str, PyData.eqv (dat ws) (dat vs) = decide (ws = vs) := by
  have key : ∀ ws vs : List Str, PyData.eqvAll (ws.map PyData.str) (vs.map PyData.str) = decide (ws = vs) := by
    intro ws
    induction ws with
    | nil =>
      intro vs
      cases vs with
      | nil => rfl
      | cons v r => simp [PyData.eqvAll]
    | cons w r ih =>
      intro vs
      cases vs with
      | nil => simp [PyData.eqvAll]
      | cons v q =>
        show (PyData.eqv (.str w) (.str v) && PyData.eqvAll (r.map PyData.str) (q.map PyData.str)) = _
        rw [ih q]
        show ((w == v) && decide (r = q)) = _
        by_cases h1 : w = v
        · by_cases h2 : r = q
          · simp [h1, h2]
          · simp [h1, h2]
        · simp [h1]
  intro ws vs
  exact key ws vs

/-! ### texts that are drawn -/
section
variable {X : Cx}
theorem op_rep_str : OpR X (binaryOp .Mult) (fun x y H Q => ∃ (c : Nat) (n : Int), x = .str ⟨#[c]⟩ ∧ y = .int n ∧ 0 ≤ n ∧ n ≤ 1000 ∧ ∀ out : Str, TL.tl out = List.replicate n.toNat c → Q (.str out) H) := by
  intro pins s σ H x y v u Q I rx ry h
  obtain ⟨c, n, rfl, rfl, n0, n1, q⟩ := h
  obtain ⟨t, rfl⟩ := rx
  obtain ⟨t2, rfl⟩ := ry
  have hz : (⟨#[c]⟩ : Str).length = 1 := rfl
  refine PySem.SB.mul ⟨?_, fun h1 _ => ?_, fun _ _ => ?_⟩ fun t' k => ⟨.str _, H, I.tok k, ⟨t', rfl⟩, q _ (PyProof.Rows.mul_one_list c n)⟩
  · rw [decide_eq_false (by omega), decide_eq_false (by omega)]
    rfl
  · have h2 : (2 ^ 63 - 1) / n ≥ (2 ^ 63 - 1) / 1000 := by
      have h3 : (2 ^ 63 - 1 : Int) / 1000 * n ≤ (2 ^ 63 - 1) / 1000 * 1000 := Int.mul_le_mul_of_nonneg_left n1 (by decide)
      exact Int.le_ediv_of_mul_le (by omega) (Int.le_trans h3 (by decide))
    have h4 : (2 ^ 63 - 1 : Int) / 1000 > 1000 := by decide
    rw [hz]
    omega
  · unfold Builtin.Str.tooLong
    rw [sizeLine_eq, hz]
    simp
    omega
end
theorem v_feed : V.str (Str.ofString "\n") = V.str ⟨#[10]⟩ := congrArg V.str (TL.ext_tl tl_feed)
theorem v_blank : V.str (Str.ofString " ") = V.str ⟨#[32]⟩ := congrArg V.str (TL.ext_tl tl_blank)
theorem okS_rep {out : Str} {n c : Nat} (h : TL.tl out = List.replicate n c) (hc : c < 128) : okS out ∧ out.length = n := by
  constructor
  · intro d hd
    rw [h] at hd
    rw [List.eq_of_mem_replicate hd]
    exact hc
  · rw [TL.len_tl, h, List.length_replicate]
theorem for_str {x : Str} {g : TG} {tb : TS} {D : Ends} {σ : L2.St} {H : Hp} (Pv : Nat → L2.St → Hp → Prop) (h0 : Pv 0 σ H)
    (hs : ∀ i c σ H, (TL.tl x)[i]? = some c → Pv i σ H → g (.str ⟨#[c]⟩) σ H fun σ2 H2 => tb { D with nx := Pv (i + 1), ct := Pv (i + 1), bk := D.nx } σ2 H2) (hd : ∀ σ H, Pv (TL.tl x).length σ H → D.nx σ H) :
    ∃ W : Nat → Nat → L2.St → Hp → Prop, (∃ m, W 0 m σ H) ∧ ∀ i m σ H, W i m σ H →
      ((Its x).stop i H ∧ D.nx σ H) ∨ ((Its x).go i H ∧ ∃ N : L2.St → Hp → Prop, (∀ σ' H', N σ' H' → ∃ m', m' < m ∧ W (i + 1) m' σ' H') ∧ ∀ y H', (Its x).yld i H y H' → g y σ H' fun σ2 H2 => tb { D with nx := N, ct := N, bk := D.nx } σ2 H2) := by
  have ex : x.cps.size = (TL.tl x).length := by simp [TL.tl]
  refine ⟨fun i m σ H => m = (TL.tl x).length - i ∧ i ≤ (TL.tl x).length ∧ Pv i σ H, ⟨_, rfl, Nat.zero_le _, h0⟩, ?_⟩
  rintro i m σ H ⟨rfl, hi, p⟩
  by_cases hl : i < (TL.tl x).length
  · refine .inr ⟨by show i < x.cps.size; omega, Pv (i + 1), fun σ' H' p' => ⟨_, by omega, rfl, hl, p'⟩, ?_⟩
    rintro y H' ⟨rfl, c, hc, rfl⟩
    refine hs i c _ _ ?_ p
    simpa [TL.tl] using hc
  · have e : i = (TL.tl x).length := by omega
    subst e
    exact .inl ⟨by show x.cps.size ≤ _; omega, hd _ _ p⟩
def spWord : Sp := fun vs H Q _ => ∃ p : Addr, vs = [.ref p] ∧ Src H p ∧ ∀ (z : Str) H', z.length ≤ 40 → okS z → Src H' p → Off p H H' → Q (.str z) H'
def spText : Sp := fun vs H Q _ => ∃ (p : Addr) (most : Nat), vs = [.ref p, .int (most : Int)] ∧ Src H p ∧ ∀ (z : Str) H', z.length ≤ most → okS z → Src H' p → Off p H H' → Q (.str z) H'
theorem joinL_nil_len : ∀ l : List (List Nat), (∀ w ∈ l, w.length ≤ 1) → (TL.joinL [] l).length ≤ l.length
  | [], _ => Nat.le_refl _
  | [w], h => by
    have := h w List.mem_cons_self
    show w.length ≤ 1
    exact this
  | w :: v :: r, h => by
    have h1 := h w List.mem_cons_self
    have h2 := joinL_nil_len (v :: r) fun z hz => h z (List.mem_cons_of_mem _ hz)
    show (w ++ ([] ++ TL.joinL [] (v :: r))).length ≤ _
    simp only [List.nil_append, List.length_append, List.length_cons] at h2 ⊢
    omega
theorem join_none_len {ys : List Str} (h : ∀ y ∈ ys, y.length ≤ 1) : (Txt.join (Str.ofString "") ys).length ≤ ys.length := by
  rw [TL.join_eq, TL.len_tl, TL.tl_join, tl_none]
  refine Nat.le_trans (joinL_nil_len _ ?_) (by rw [List.length_map]; exact Nat.le_refl _)
  intro w hw
  obtain ⟨y, hy, rfl⟩ := List.mem_map.mp hw
  rw [← TL.len_tl]
  exact h y hy
theorem joinL_nil_ok : ∀ l : List (List Nat), (∀ w ∈ l, ∀ c ∈ w, c < 128) → ∀ c ∈ TL.joinL [] l, c < 128
  | [], _, c, hc => by cases hc
  | [w], h, c, hc => h w List.mem_cons_self c hc
  | w :: v :: r, h, c, hc => by
    rcases List.mem_append.mp (show c ∈ w ++ ([] ++ TL.joinL [] (v :: r)) from hc) with h1 | h1
    · exact h w List.mem_cons_self c h1
    · exact joinL_nil_ok (v :: r) (fun z hz => h z (List.mem_cons_of_mem _ hz)) c h1
theorem join_none_ok {ys : List Str} (h : ∀ y ∈ ys, okS y) : okS (Txt.join (Str.ofString "") ys) := fun c hc => by
  rw [TL.join_eq, TL.tl_join, tl_none] at hc
  refine joinL_nil_ok _ ?_ c hc
  intro w hw
  obtain ⟨y, hy, rfl⟩ := List.mem_map.mp hw
  exact h y hy
theorem lit_ok : ∀ c ∈ TL.tl (Str.ofString "!\"#$&'()*+,-./0123456789:;<=>?@ABCDEFGHIJKLMNOPQRSTUVWXYZ[\\]^_`abcdefghijklmnopqrstuvwxyz{}~"), c < 128 := by decide +kernel
theorem sum_ones : ∀ (ys : List Str), (∀ y ∈ ys, y.length ≤ 1) → (ys.map (·.length)).sum ≤ ys.length
  | [], _ => by simp
  | y :: r, h => by
    have h1 := h y List.mem_cons_self
    have h2 := sum_ones r fun z hz => h z (List.mem_cons_of_mem _ hz)
    simp
    omega
theorem cut_most (z : Str) (most : Nat) : (cutS z none (some (most : Int))).length ≤ most := by
  show (((z.cps.toList.drop (HT.sIx z.length 0 none)).take (HT.sIx z.length z.length (some (most : Int)) - HT.sIx z.length 0 none)).toArray).size ≤ most
  rw [List.size_toArray, List.length_take, HT.sIx_none, show HT.sIx z.length z.length (some (most : Int)) = min most z.length from HT.sIx_nat _ _ most]
  omega
section
variable {P : Program} {w : World} {K : PySem.W.Frag} {mg : Str → Option Value} {base : Heap}
theorem ok_word (T : Txt K mg) : Ok P w K mg base CX0 "_law_word" s_word 3 ["_law_source_here"] spWord := by
  have O_next := ok_next (P := P) (w := w) (base := base) T
  refine T.h_word.ok sc_word (fun vs H Q E h => ?_) (fun f cdv A outer s H vs Q E hr h => ?_)
  · obtain ⟨p, rfl, _⟩ := h; rfl
  obtain ⟨p, rfl, hs, q⟩ := h
  refine ⟨_, (pss_cons (ps_set (i := 1) sc_word.nd rfl (by first | exact Or.inl rfl | exact Or.inr rfl) pe_str)
      (pss_cons (ps_set (i := 2) sc_word.nd rfl (by first | exact Or.inl rfl | exact Or.inr rfl) (pe_op op_add pe_int (callO O_next (hr.mono (by decide)) (by rfl) (pa_cons (pv 0) (pa_cons (pe_ix ix_list (pe_lst (pa_cons pe_int (pa_cons pe_int (pa_cons pe_int (pa_cons pe_int pa_nil))))) (callO O_next (hr.mono (by decide)) (by rfl) (pa_cons (pv 0) (pa_cons pe_int pa_nil))) (fun _ _ => rfl)) pa_nil)))))
      (pss_cons (ps_set (i := 3) sc_word.nd rfl (by first | exact Or.inl rfl | exact Or.inr rfl) (callO O_next (hr.mono (by decide)) (by rfl) (pa_cons (pv 0) (pa_cons pe_int pa_nil))))
      (pss_cons (ps_set (i := 4) sc_word.nd rfl (by first | exact Or.inl rfl | exact Or.inr rfl) (callO O_next (hr.mono (by decide)) (by rfl) (pa_cons (pv 0) (pa_cons pe_int pa_nil))))
      (pss_one (ps_ret (pe_join pe_str (pe_lc (own := [("_law_k", 5)]) (by rfl) sc_word.nd (pi_range1 (by rfl) T.m_range (pa_cons (pv 2) pa_nil)) (blkOk_by (own := [("_law_k", 5)]) (N := n_word) (sc := defScope s_word) (by decide +kernel)) (fun _ _ _ _ _ => (pg_name (i := 5) sc_word.nd rfl (by first | exact Or.inl rfl | exact Or.inr rfl))) (fun _ _ _ _ _ => pts_nil) (fun _ _ _ _ _ => (pe_ix ix_str (pv 1) (pe_op op_mod (pe_op op_add (pv 3) (pe_op op_mul (pv 4) (pv 5))) pe_int) (fun _ _ => rfl))))))))))), ?_⟩
  refine ⟨_, rfl, (by show 4 ≤ sizeLine; decide), fun l1 n1 => ?_⟩
  refine ⟨_, rfl, p, 4, rfl, by decide, by decide, hs.keep n1, fun r1 H1 a1 b1 s1 o1 => ?_⟩
  obtain ⟨m, ha, m0, m1⟩ : ∃ m : Int, atI [V.int 2, V.int 5, V.int 9, V.int 40] r1 = some (.int m) ∧ 0 < m ∧ m ≤ 40 := by
    rcases (show r1 = 0 ∨ r1 = 1 ∨ r1 = 2 ∨ r1 = 3 by omega) with rfl | rfl | rfl | rfl
    · exact ⟨2, rfl, by decide, by decide⟩
    · exact ⟨5, rfl, by decide, by decide⟩
    · exact ⟨9, rfl, by decide, by decide⟩
    · exact ⟨40, rfl, by decide, by decide⟩
  refine ⟨l1, _, _, _, rfl, rfl, .of (o1 _ _ upd_same (hs.ne_new n1)), ha, ?_⟩
  refine ⟨p, m, rfl, m0, by omega, s1, fun r2 H2 a2 b2 s2 o2 => ⟨_, _, rfl, rfl, ?_⟩⟩
  refine ⟨_, rfl, p, 92, rfl, by decide, by decide, s2, fun r3 H3 a3 b3 s3 o3 => ?_⟩
  refine ⟨_, rfl, p, 92, rfl, by decide, by decide, s3, fun r4 H4 a4 b4 s4 o4 => ?_⟩
  refine ⟨⟨_, rfl⟩, _, rfl, _, rfl, by omega, by omega, fun D nD => ?_⟩
  refine lc_range (lo := 0) (n := (1 + r2).toNat) (fun i H' => ∃ ys : List Str, strsAt H' D ys ∧ ys.length = i ∧ (∀ y ∈ ys, y.length ≤ 1 ∧ okS y) ∧ Same H4 H')
    ⟨[], upd_same, rfl, (fun y hy => by cases hy), same_upd nD⟩ ?_ ?_
  · rintro i H' hi ⟨ys, eD, el, hy, sm⟩
    refine ⟨rfl, yes_if ?_⟩
    have hk : (0 : Int) ≤ (r3 + r4 * (0 + i)) % 92 ∧ (r3 + r4 * (0 + i)) % 92 < 92 := ⟨Int.emod_nonneg _ (by decide), Int.emod_lt_of_pos _ (by decide)⟩
    refine ⟨_, rfl, _, rfl, _, rfl, _, rfl, _, _, rfl, rfl, .inl ⟨by omega, by omega⟩, _, _, rfl, rfl, _, _, rfl, rfl, (by show (0 : Int) < 92; decide), ?_⟩
    obtain ⟨c, hcm, hc⟩ := atI_mem (xs := (TL.tl (Str.ofString "!\"#$&'()*+,-./0123456789:;<=>?@ABCDEFGHIJKLMNOPQRSTUVWXYZ[\\]^_`abcdefghijklmnopqrstuvwxyz{}~"))) (i := (r3 + r4 * (0 + i)) % 92) hk.1 (by
      rw [show (TL.tl (Str.ofString "!\"#$&'()*+,-./0123456789:;<=>?@ABCDEFGHIJKLMNOPQRSTUVWXYZ[\\]^_`abcdefghijklmnopqrstuvwxyz{}~")).length = 92 by decide +kernel]
      exact hk.2)
    refine ⟨_, _, c, rfl, rfl, bigl (by decide +kernel), hc, _, eD, ?_, ys ++ [⟨#[c]⟩], ?_, ?_, ?_, ?_⟩
    · rw [List.length_map]
      exact big (by omega)
    · show (upd H' D _) D = _
      rw [upd_same, List.map_append]
      rfl
    · simp [el]
    · intro y hy2
      rcases List.mem_append.mp hy2 with h | h
      · exact hy y h
      · rw [List.mem_singleton.mp h]
        refine ⟨Nat.le_refl _, fun d hd => ?_⟩
        have e : d = c := List.mem_singleton.mp (show d ∈ [c] from hd)
        rw [e]
        exact lit_ok c hcm
    · intro b o hb
      have nb : b ≠ D := ne_of_none hb nD
      rw [upd_ne nb]
      exact sm _ _ hb
  · rintro H' ⟨ys, eD, el, hy, sm⟩
    have hl : ys.length ≤ 40 := by omega
    have hsum := sum_ones ys fun y h => (hy y h).1
    refine ⟨_, _, ys, rfl, rfl, .inl (.of eD), ?_, ?_⟩
    · have : ys.length * (Str.ofString "").length = 0 := by
        rw [show (Str.ofString "").length = 0 from rfl]
        exact Nat.mul_zero _
      omega
    · refine q _ H' (Nat.le_trans (join_none_len fun y h => (hy y h).1) hl) (join_none_ok fun y h => (hy y h).2) (s4.same sm) ?_
      exact (off_new n1).trans (o1.trans (o2.trans (o3.trans (o4.trans (.of sm)))))
theorem ok_text (T : Txt K mg) : Ok P w K mg base CX0 "_law_text" s_text 4 ["_law_source_here", "_law_most"] spText := by
  have O_next := ok_next (P := P) (w := w) (base := base) T
  have O_word := ok_word (P := P) (w := w) (base := base) T
  refine T.h_text.ok sc_text (fun vs H Q E h => ?_) (fun f cdv A outer s H vs Q E hr h => ?_)
  · obtain ⟨p, most, rfl, _⟩ := h; rfl
  obtain ⟨p, most, rfl, hs, q⟩ := h
  refine ⟨_, (pss_cons (ps_set (i := 2) sc_text.nd rfl (by first | exact Or.inl rfl | exact Or.inr rfl) pe_str)
      (pss_cons (ps_for PassesOwn.never rfl (pi_range1 (by rfl) T.m_range (pa_cons (callO O_next (hr.mono (by decide)) (by rfl) (pa_cons (pv 0) (pa_cons (pe_ix ix_list (pe_lst (pa_cons pe_int (pa_cons pe_int (pa_cons pe_int pa_nil)))) (callO O_next (hr.mono (by decide)) (by rfl) (pa_cons (pv 0) (pa_cons pe_int pa_nil))) (fun _ _ => rfl)) pa_nil))) pa_nil)) (pg_name (i := 3) sc_text.nd rfl (by first | exact Or.inl rfl | exact Or.inr rfl))
      (pss_cons (ps_set (i := 4) sc_text.nd rfl (by first | exact Or.inl rfl | exact Or.inr rfl) (callO O_next (hr.mono (by decide)) (by rfl) (pa_cons (pv 0) (pa_cons pe_int pa_nil))))
      (pss_cons (ps_if (pt_cmpR op_eq (pv 4) pe_int (nomark _))
      (pss_one (ps_set (i := 2) sc_text.nd rfl (by first | exact Or.inl rfl | exact Or.inr rfl) (pe_op op_add_str (pv 2) (pe_op op_rep_str pe_str (pe_op op_add pe_int (callO O_next (hr.mono (by decide)) (by rfl) (pa_cons (pv 0) (pa_cons pe_int pa_nil))))))))
      pss_nil)
      (pss_cons (ps_if (pt_cmpR op_eq (pv 4) pe_int (nomark _))
      (pss_one (ps_set (i := 2) sc_text.nd rfl (by first | exact Or.inl rfl | exact Or.inr rfl) (pe_op op_add_str (pv 2) (pe_op op_rep_str pe_str (pe_op op_add pe_int (callO O_next (hr.mono (by decide)) (by rfl) (pa_cons (pv 0) (pa_cons pe_int pa_nil))))))))
      pss_nil)
      (pss_one (ps_if (pt_cmpR op_gt (pv 4) pe_int (nomark _))
      (pss_one (ps_set (i := 2) sc_text.nd rfl (by first | exact Or.inl rfl | exact Or.inr rfl) (pe_op op_add_str (pe_op op_add_str (pv 2) (callO O_word (hr.mono (by decide)) (by rfl) (pa_cons (pv 0) pa_nil))) (pe_ix ix_list (pe_lst (pa_cons pe_str (pa_cons pe_str (pa_cons pe_str (pa_cons pe_str pa_nil))))) (callO O_next (hr.mono (by decide)) (by rfl) (pa_cons (pv 0) (pa_cons pe_int pa_nil))) (fun _ _ => rfl)))))
      pss_nil))))))
      (pss_one (ps_ret (pe_slice sl_str (pv 2) po_none (po_some (pv 1))))))), ?_⟩
  refine ⟨_, rfl, (by show 3 ≤ sizeLine; decide), fun l1 n1 => ?_⟩
  refine ⟨_, rfl, p, 3, rfl, by decide, by decide, hs.keep n1, fun r1 H1 a1 b1 s1 o1 => ?_⟩
  obtain ⟨m, ha, m0, m1⟩ : ∃ m : Int, atI [V.int 3, V.int 12, V.int 40] r1 = some (.int m) ∧ 0 < m ∧ m ≤ 40 := by
    rcases (show r1 = 0 ∨ r1 = 1 ∨ r1 = 2 by omega) with rfl | rfl | rfl
    · exact ⟨3, rfl, by decide, by decide⟩
    · exact ⟨12, rfl, by decide, by decide⟩
    · exact ⟨40, rfl, by decide, by decide⟩
  refine ⟨l1, _, _, _, rfl, rfl, .of (o1 _ _ upd_same (hs.ne_new n1)), ha, ?_⟩
  refine ⟨p, m, rfl, m0, by omega, s1, fun r2 H2 a2 b2 s2 o2 => ?_⟩
  have oA : Off p H H2 := (off_new n1).trans (o1.trans o2)
  refine ⟨r2, rfl, by omega, by omega, for_range (lo := 0) (n := r2.toNat) (fun i σ H' => (∃ (z : Str) (v3 v4 : Option V), z.length ≤ i * 45 ∧ okS z ∧ σ = [some (.ref p), some (.int (most : Int)), some (.str z), v3, v4]) ∧ Src H' p ∧ Off p H H')
    ⟨⟨_, _, _, Nat.zero_le _, okS.none, rfl⟩, s2, oA⟩ ?_ ?_⟩
  · rintro i σ H' hi ⟨⟨z, v3, v4, hz, okz, rfl⟩, sH, oH⟩
    refine ⟨_, rfl, p, 8, rfl, by decide, by decide, sH, fun r3 H3 a3 b3 s3 o3 => ?_⟩
    have o3' : Off p H H3 := oH.trans o3
    have hz2 : (i + 1) * 45 = i * 45 + 45 := by omega
    have zb : z.length ≤ 2000 := Nat.le_trans hz (Nat.le_trans (Nat.mul_le_mul_right 45 (show i ≤ 40 by omega)) (by decide))
    have no2 : ∀ {k : Int}, r3 = k → ¬ k = 0 → ¬ decide (V.int r3 = V.int 0) = true := fun e n h => n (e ▸ V.int.inj (of_decide_eq_true h))
    have no1 : ∀ {k : Int}, r3 = k → ¬ k = 1 → ¬ decide (V.int r3 = V.int 1) = true := fun e n h => n (e ▸ V.int.inj (of_decide_eq_true h))
    rcases (show r3 = 0 ∨ r3 = 1 ∨ 1 < r3 by omega) with e | e | e
    · refine ⟨_, rfl, rfl, _, rfl, ite2 (fun _ => ?_) (fun h => absurd (decide_eq_true (congrArg V.int e)) h)⟩
      refine ⟨_, rfl, _, rfl, p, 2, rfl, by decide, by decide, s3, fun r4 H4 a4 b4 s4 o4 => ⟨_, _, rfl, rfl, ?_⟩⟩
      refine ⟨10, _, v_feed, rfl, by omega, by omega, fun out ho => ?_⟩
      obtain ⟨ok4, ol4⟩ := okS_rep ho (by decide)
      have ho2 : out.length ≤ 2 := by omega
      refine ⟨_, _, rfl, rfl, bigl (by omega), ?_⟩
      refine ⟨_, rfl, rfl, _, rfl, ite2 (fun h => absurd h (no1 e (by decide))) (fun _ => ?_)⟩
      refine ⟨_, rfl, _, _, rfl, rfl, _, rfl, ite2 (fun h => ?_) (fun _ => ?_)⟩
      · have := of_decide_eq_true h; omega
      · exact ⟨⟨z ++ out, _, _, by rw [len_append]; omega, okz.app ok4, rfl⟩, s4, o3'.trans o4⟩
    · refine ⟨_, rfl, rfl, _, rfl, ite2 (fun h => absurd h (no2 e (by decide))) (fun _ => ?_)⟩
      refine ⟨_, rfl, rfl, _, rfl, ite2 (fun _ => ?_) (fun h => absurd (decide_eq_true (congrArg V.int e)) h)⟩
      refine ⟨_, rfl, _, rfl, p, 3, rfl, by decide, by decide, s3, fun r4 H4 a4 b4 s4 o4 => ⟨_, _, rfl, rfl, ?_⟩⟩
      refine ⟨32, _, v_blank, rfl, by omega, by omega, fun out ho => ?_⟩
      obtain ⟨ok4, ol4⟩ := okS_rep ho (by decide)
      have ho2 : out.length ≤ 3 := by omega
      refine ⟨_, _, rfl, rfl, bigl (by omega), ?_⟩
      refine ⟨_, rfl, _, _, rfl, rfl, _, rfl, ite2 (fun h => ?_) (fun _ => ?_)⟩
      · have := of_decide_eq_true h; omega
      · exact ⟨⟨z ++ out, _, _, by rw [len_append]; omega, okz.app ok4, rfl⟩, s4, o3'.trans o4⟩
    · refine ⟨_, rfl, rfl, _, rfl, ite2 (fun h => ?_) (fun _ => ?_)⟩
      · have := V.int.inj (of_decide_eq_true h); omega
      refine ⟨_, rfl, rfl, _, rfl, ite2 (fun h => ?_) (fun _ => ?_)⟩
      · have := V.int.inj (of_decide_eq_true h); omega
      refine ⟨_, rfl, _, _, rfl, rfl, _, rfl, ite2 (fun _ => ?_) (fun h => absurd (decide_eq_true e) h)⟩
      refine ⟨_, rfl, _, rfl, p, rfl, s3, fun wd H4 hwd okw s4 o4 => ?_⟩
      refine ⟨_, _, rfl, rfl, bigl (by omega), ?_⟩
      refine ⟨(by show 4 ≤ sizeLine; decide), fun l5 n5 => ?_⟩
      refine ⟨_, rfl, p, 4, rfl, by decide, by decide, s4.keep n5, fun r5 H5 a5 b5 s5 o5 => ?_⟩
      obtain ⟨tail, hat, htl, okt⟩ : ∃ t : Str, atI [V.str (Str.ofString " "), V.str (Str.ofString " "), V.str (Str.ofString " "), V.str (Str.ofString "")] r5 = some (.str t) ∧ t.length ≤ 1 ∧ okS t := by
        rcases (show r5 = 0 ∨ r5 = 1 ∨ r5 = 2 ∨ r5 = 3 by omega) with rfl | rfl | rfl | rfl
        · exact ⟨_, rfl, by decide +kernel, okS.blank⟩
        · exact ⟨_, rfl, by decide +kernel, okS.blank⟩
        · exact ⟨_, rfl, by decide +kernel, okS.blank⟩
        · exact ⟨_, rfl, by decide +kernel, okS.none⟩
      refine ⟨l5, _, _, _, rfl, rfl, .of (o5 _ _ upd_same (s4.ne_new n5)), hat, ?_⟩
      refine ⟨_, _, rfl, rfl, bigl (by rw [len_append]; omega), ?_⟩
      exact ⟨⟨z ++ wd ++ tail, _, _, by rw [len_append, len_append]; omega, (okz.app okw).app okt, rfl⟩, s5, o3'.trans (o4.trans ((off_new n5).trans o5))⟩
  · rintro σ H' ⟨⟨z, v3, v4, hz, okz, rfl⟩, sH, oH⟩
    have zb : z.length ≤ 2000 := Nat.le_trans hz (Nat.le_trans (Nat.mul_le_mul_right 45 (show r2.toNat ≤ 40 by omega)) (by decide))
    refine ⟨_, rfl, _, rfl, _, rfl, _, rfl, bigl (by omega), ?_⟩
    exact q _ H' (cut_most z most) (okz.cut _ _) sH oH
end

/-! ### the law's own parts of a text -/
def flushC (last : List (List Nat)) (word : List Nat) : List (List Nat) := if word = [] then last else last ++ [word]
def scanC : List Nat → List (List Nat) → List Nat → List (List (List Nat))
  | [], last, word => [flushC last word]
  | c :: r, last, word => if c = 10 then flushC last word :: scanC r [] [] else if c = 32 then scanC r (flushC last word) [] else scanC r last (word ++ [c])
def keepC (l : List (List Nat)) : List (List Nat) := l.filter fun w => !w.isEmpty
theorem flush_keep (last : List (List Nat)) (word : List Nat) (t : List (List Nat)) : last ++ keepC (word :: t) = flushC last word ++ keepC t := by
  unfold flushC keepC
  cases word with
  | nil => simp
  | cons a b => simp
/-- the first part goes on with what is pending -/
def pend (last : List (List Nat)) (word : List Nat) : List (List Nat) → List (List (List Nat))
  | [] => []
  | h :: t => (last ++ keepC (appHead word (cutC 32 h))) :: t.map wordsC
theorem scan_pend : ∀ (l : List Nat) (last : List (List Nat)) (word : List Nat), scanC l last word = pend last word (cutC 10 l)
  | [], last, word => by
    show [flushC last word] = [last ++ keepC [word ++ []]]
    rw [List.append_nil, flush_keep]
    simp [keepC]
  | c :: r, last, word => by
    unfold scanC cutC
    by_cases h : c = 10
    · rw [if_pos h, if_pos h, scan_pend r [] []]
      show _ = (last ++ keepC [word ++ []]) :: (cutC 10 r).map wordsC
      rw [List.append_nil, flush_keep]
      congr 1
      · simp [keepC]
      · cases e : cutC 10 r with
        | nil => exact absurd e (cutC_ne 10 r)
        | cons a t =>
          show ([] ++ keepC (appHead [] (cutC 32 a))) :: t.map wordsC = wordsC a :: t.map wordsC
          rw [appHead_nil (cutC_ne 32 a)]
          rfl
    · rw [if_neg h, if_neg h]
      cases e : cutC 10 r with
      | nil => exact absurd e (cutC_ne 10 r)
      | cons a t =>
        show _ = (last ++ keepC (appHead word (cutC 32 (c :: a)))) :: t.map wordsC
        by_cases h2 : c = 32
        · rw [if_pos h2, scan_pend r, e]
          show (flushC last word ++ keepC (appHead [] (cutC 32 a))) :: _ = _
          rw [appHead_nil (cutC_ne 32 a)]
          have e2 : cutC 32 (c :: a) = [] :: cutC 32 a := by
            show (if c = 32 then _ else _) = _
            rw [if_pos h2]
          rw [e2]
          show _ = (last ++ keepC ((word ++ []) :: cutC 32 a)) :: _
          rw [List.append_nil, flush_keep]
        · rw [if_neg h2, scan_pend r, e]
          show (last ++ keepC (appHead (word ++ [c]) (cutC 32 a))) :: _ = _
          have e2 : cutC 32 (c :: a) = consHead c (cutC 32 a) := by
            show (if c = 32 then _ else _) = _
            rw [if_neg h2]
          rw [e2, appHead_cons]
theorem scan_parts (l : List Nat) : scanC l [] [] = partsC l := by
  rw [scan_pend]
  unfold partsC
  cases e : cutC 10 l with
  | nil => exact absurd e (cutC_ne 10 l)
  | cons a t =>
    show ([] ++ keepC (appHead [] (cutC 32 a))) :: t.map wordsC = wordsC a :: t.map wordsC
    rw [appHead_nil (cutC_ne 32 a)]
    rfl

/-- the same over the signs with a line feed behind -/
theorem map_map_inj : ∀ {l m : List (List Str)}, l.map (·.map TL.tl) = m.map (·.map TL.tl) → l = m
  | [], [], _ => rfl
  | [], _ :: _, h => by simp at h
  | _ :: _, [], h => by simp at h
  | x :: l, y :: m, h => by
    rw [List.map_cons, List.map_cons] at h
    injection h with h1 h2
    rw [TL.map_tl_inj h1, map_map_inj h2]
def spWordsOf : Sp := fun vs H Q _ => ∃ x : Str, vs = [.str x] ∧ x.length ≤ 1000 ∧ ∀ (p : Addr) (as : List Addr) (H' : Hp), Same H H' → H p = none → H' p = some (.lst (as.map V.ref)) →
  Paired (fun a ws => H a = none ∧ a ≠ p ∧ strsAt H' a ws) as (partsS x) → Q (.ref p) H'
theorem paired_take {α β : Type} {G : α → β → Prop} : ∀ {l : List α} {m : List β}, Paired G l m → l.length = m.length
  | _, _, .nil => rfl
  | _, _, .cons _ r => congrArg Nat.succ (paired_take r)
theorem drop_at {l : List Nat} {i c : Nat} (h : l[i]? = some c) : l.drop i = c :: l.drop (i + 1) := by
  obtain ⟨h1, h2⟩ := List.getElem?_eq_some_iff.mp h
  rw [List.drop_eq_getElem_cons h1, h2]
section
variable {P : Program} {w : World} {K : PySem.W.Frag} {mg : Str → Option Value} {base : Heap}
theorem ok_words (T : Txt K mg) : Ok P w K mg base CX0 "_law_words" s_words 1 ["_law_text_here"] spWordsOf := by
  refine T.h_words.ok sc_words (fun vs H Q E h => ?_) (fun f cdv A outer s H vs Q E hr h => ?_)
  · obtain ⟨x, rfl, _⟩ := h; rfl
  obtain ⟨x, rfl, hx, q⟩ := h
  refine ⟨_, (pss_cons (ps_set (i := 1) sc_words.nd rfl (by first | exact Or.inl rfl | exact Or.inr rfl) (pe_lst (pa_cons (pe_lst pa_nil) pa_nil)))
      (pss_cons (ps_set (i := 2) sc_words.nd rfl (by first | exact Or.inl rfl | exact Or.inr rfl) pe_str)
      (pss_cons (ps_for PassesOwn.never rfl (pi_str (pe_op op_add_str (pv 0) pe_str)) (pg_name (i := 3) sc_words.nd rfl (by first | exact Or.inl rfl | exact Or.inr rfl))
      (pss_cons (ps_if (pt_cmpR op_notIn_sign (pv 3) pe_str (by rfl))
      (pss_one (ps_set (i := 2) sc_words.nd rfl (by first | exact Or.inl rfl | exact Or.inr rfl) (pe_op op_add_str (pv 2) (pv 3))))
      (pss_one (ps_if (pt_cmpR op_ne (pv 2) pe_str (nomark _))
      (pss_cons (ps_expr (pe_bm PySem.F.plainAttrs_list PySem.F.slot_list_append PySem.F.type_list_append mt_append (pe_ix ix_list (pv 1) (pe_un un_neg pe_int) (fun _ _ => rfl)) (pa_cons (pv 2) pa_nil)))
      (pss_one (ps_set (i := 2) sc_words.nd rfl (by first | exact Or.inl rfl | exact Or.inr rfl) pe_str)))
      pss_nil)))
      (pss_one (ps_if (pt_cmpR op_eq (pv 3) pe_str (nomark _))
      (pss_one (ps_expr (pe_bm PySem.F.plainAttrs_list PySem.F.slot_list_append PySem.F.type_list_append mt_append (pv 1) (pa_cons (pe_lst pa_nil) pa_nil))))
      pss_nil))))
      (pss_one (ps_ret (pe_slice sl_list (pv 1) po_none (po_some (pe_un un_neg pe_int)))))))), ?_⟩
  refine ⟨(by show 0 ≤ sizeLine; decide), fun b0 nb0 => ⟨(by show 1 ≤ sizeLine; decide), fun F nF => ?_⟩⟩
  have e0 : (upd (upd H b0 (.lst [])) F (.lst [.ref b0])) b0 = some (.lst []) := by
    rw [upd_ne (ne_of_none upd_same nF)]
    exact upd_same
  have eF : (upd (upd H b0 (.lst [])) F (.lst [.ref b0])) F = some (.lst [.ref b0]) := upd_same
  have sB : Same H (upd (upd H b0 (.lst [])) F (.lst [.ref b0])) := (same_upd nb0).trans (same_upd nF)
  have nF0 : H F = none := (same_upd nb0).free nF
  have nbF : b0 ≠ F := ne_of_none upd_same nF
  generalize upd (upd H b0 (.lst [])) F (.lst [.ref b0]) = HB at e0 eF sB ⊢
  have el : (x ++ Str.ofString "\n").length ≤ 1001 := by
    rw [len_append]
    have : (Str.ofString "\n").length = 1 := by decide +kernel
    omega
  have etl : TL.tl (x ++ Str.ofString "\n") = TL.tl x ++ [10] := by rw [TL.tl_append, tl_feed]
  refine ⟨_, rfl, _, _, rfl, rfl, bigl (by rw [← len_append]; omega), ?_⟩
  refine ⟨_, rfl, for_str (x := x ++ Str.ofString "\n") (fun i σ H2 => ∃ (word : Str) (v3 : Option V) (as : List Addr) (b : Addr) (done : List (List Str)) (last : List Str),
      σ = [some (.str x), some (.ref F), some (.str word), v3] ∧ Same H H2 ∧ H2 F = some (.lst ((as ++ [b]).map V.ref)) ∧ strsAt H2 b last ∧ H b = none ∧ b ≠ F ∧
      Paired (fun a ws => (H a = none ∧ a ≠ F ∧ a ≠ b) ∧ strsAt H2 a ws) as done ∧ word.length ≤ i ∧ last.length ≤ i ∧ as.length ≤ i ∧
      done.map (·.map TL.tl) ++ scanC ((TL.tl x ++ [10]).drop i) (last.map TL.tl) (TL.tl word) = partsC (TL.tl x) ++ [[]])
    ⟨_, _, [], b0, [], [], rfl, sB, eF, e0, nb0, nbF, .nil, Nat.zero_le _, Nat.zero_le _, Nat.zero_le _, ?_⟩ ?_ ?_⟩
  · show [] ++ scanC (TL.tl x ++ [10]) [] (TL.tl (Str.ofString "")) = _
    rw [tl_none]
    have key : ∀ (l : List Nat) (last : List (List Nat)) (word : List Nat), scanC (l ++ [10]) last word = scanC l last word ++ [[]] := by
      intro l
      induction l with
      | nil => intro last word; rfl
      | cons c r ih =>
        intro last word
        rw [List.cons_append]
        show (if c = 10 then _ else if c = 32 then _ else _) = (if c = 10 then _ else if c = 32 then _ else _) ++ _
        by_cases h : c = 10
        · rw [if_pos h, if_pos h, ih]; rfl
        · rw [if_neg h, if_neg h]
          by_cases h2 : c = 32
          · rw [if_pos h2, if_pos h2, ih]
          · rw [if_neg h2, if_neg h2, ih]
    rw [List.nil_append, key, scan_parts]
  · rintro i c σ H2 hc ⟨word, v3, as, b, done, last, rfl, sm, eF2, eb, fb, nb, pr, hw, hl, ha, inv⟩
    rw [etl] at hc
    have hi : i ≤ 1001 := by
      have h1 := (List.getElem?_eq_some_iff.mp hc).1
      rw [← etl, ← TL.len_tl] at h1
      omega
    rw [drop_at hc] at inv
    have cases3 : (c = 10 ∨ c = 32) ∨ (c ≠ 10 ∧ c ≠ 32) := by omega
    have fl : ∀ (l : List Str) (u : Str), TL.tl u ≠ [] → flushC (l.map TL.tl) (TL.tl u) = (l ++ [u]).map TL.tl := fun l u hu => by
      unfold flushC
      rw [if_neg hu, List.map_append]
      rfl
    rcases cases3 with hsep | ⟨h10, h32⟩
    · -- a blank or a line feed
      have hin : decide (c ∈ (Str.ofString " \n").cps.toList) = true := by
        rw [decide_eq_true_eq]
        show c ∈ TL.tl (Str.ofString " \n")
        rw [show TL.tl (Str.ofString " \n") = [32, 10] by decide +kernel]
        rcases hsep with rfl | rfl <;> simp
      refine ⟨_, rfl, c, _, rfl, rfl, _, rfl, ?_⟩
      rw [hin]
      refine iteF ?_
      -- what stands behind the first if, whatever the word was
      have rest : ∀ (H3 : Hp) (last' : List Str), Same H H3 → H3 F = some (.lst ((as ++ [b]).map V.ref)) → strsAt H3 b last' → Paired (fun a ws => (H a = none ∧ a ≠ F ∧ a ≠ b) ∧ strsAt H3 a ws) as done → last'.length ≤ i + 1 →
          last'.map TL.tl = flushC (last.map TL.tl) (TL.tl word) →
          ∀ (D : Ends), (∀ σ' H', (∃ (word : Str) (v3 : Option V) (as : List Addr) (b : Addr) (done : List (List Str)) (last : List Str),
              σ' = [some (.str x), some (.ref F), some (.str word), v3] ∧ Same H H' ∧ H' F = some (.lst ((as ++ [b]).map V.ref)) ∧ strsAt H' b last ∧ H b = none ∧ b ≠ F ∧
              Paired (fun a ws => (H a = none ∧ a ≠ F ∧ a ≠ b) ∧ strsAt H' a ws) as done ∧ word.length ≤ i + 1 ∧ last.length ≤ i + 1 ∧ as.length ≤ i + 1 ∧
              done.map (·.map TL.tl) ++ scanC ((TL.tl x ++ [10]).drop (i + 1)) (last.map TL.tl) (TL.tl word) = partsC (TL.tl x) ++ [[]]) → D.nx σ' H') →
          tIfS (tTest (tOp rEq (tVar 3) (tC (.str (Str.ofString "\n"))))) (tDrop (tBM K "list" rAppend (tVar 1) (tCons (tLst tNil) tNil))) tNext D [some (.str x), some (.ref F), some (.str (Str.ofString "")), some (.str ⟨#[c]⟩)] H3 := by
        intro H3 last' sm3 eF3 eb3 pr3 hl3 hfl D hD
        refine ⟨_, rfl, rfl, _, rfl, ite2 (fun e => ?_) (fun e => ?_)⟩
        · have hc10 : c = 10 := by
            have e1 := V.str.inj (of_decide_eq_true e)
            have e2 : TL.tl (⟨#[c]⟩ : Str) = TL.tl (Str.ofString "\n") := by rw [e1]
            rw [tl_feed] at e2
            exact (List.cons.inj e2).1
          refine ⟨_, rfl, .inl ⟨rfl, _, .of eF3⟩, (by show 0 ≤ sizeLine; decide), fun b' nb' => ⟨F, (as ++ [b]).map V.ref, _, rfl, rfl, ?_, ?_, ?_⟩⟩
          · rw [upd_ne (ne_of_none eF3 nb')]
            exact eF3
          · rw [List.length_map, List.length_append]
            simp
            exact big (by omega)
          · have nbF' : b' ≠ F := (ne_of_none eF3 nb').symm
            have nbb : b ≠ b' := ne_of_none eb3 nb'
            refine hD _ _ ⟨Str.ofString "", _, as ++ [b], b', done ++ [last'], [], rfl, ?_, ?_, ?_, ?_, nbF', ?_, ?_, ?_, ?_, ?_⟩
            · intro d o hd
              have n1 : d ≠ F := ne_of_none hd nF0
              have n2 : d ≠ b' := ne_of_none (sm3 _ _ hd) nb'
              rw [upd_ne n1, upd_ne n2]
              exact sm3 _ _ hd
            · rw [upd_same, List.map_append (l₁ := as ++ [b])]
              rfl
            · show (upd _ F _) b' = _
              rw [upd_ne nbF', upd_same]
              rfl
            · exact sm3.free nb'
            · refine Paired.snoc (paired_same ?_ pr3) ⟨⟨fb, nb, nbb⟩, ?_⟩
              · rintro a ws ⟨⟨z1, z2, z3⟩, z4⟩
                have n2 : a ≠ b' := ne_of_none z4 nb'
                refine ⟨⟨z1, z2, n2⟩, ?_⟩
                show (upd _ F _) a = _
                rw [upd_ne z2, upd_ne n2]
                exact z4
              · show (upd _ F _) b = _
                rw [upd_ne nb, upd_ne nbb]
                exact eb3
            · exact Nat.zero_le _
            · exact Nat.zero_le _
            · rw [List.length_append]
              simp
              omega
            · rw [← inv]
              show _ = _ ++ (if c = 10 then _ else _)
              rw [if_pos hc10, List.map_append, hfl.symm, List.append_assoc, tl_none]
              rfl
        · have hc32 : c = 32 := by
            rcases hsep with h | h
            · exfalso
              apply e
              rw [decide_eq_true_eq, h]
              exact congrArg V.str (TL.ext_tl tl_feed.symm)
            · exact h
          refine hD _ _ ⟨Str.ofString "", _, as, b, done, last', rfl, sm3, eF3, eb3, fb, nb, pr3, Nat.zero_le _, hl3, by omega, ?_⟩
          rw [← inv]
          show _ = _ ++ (if c = 10 then _ else if c = 32 then _ else _)
          rw [if_neg (by omega), if_pos hc32, hfl, tl_none]
      refine ⟨_, rfl, rfl, _, rfl, ite2 (fun e => ?_) (fun e => ?_)⟩
      · -- a word stands: it is put behind the last list
        have hne : TL.tl word ≠ [] := fun z => by
          have e2 : word = Str.ofString "" := TL.ext_tl (z.trans tl_none.symm)
          rw [e2] at e
          rw [decide_eq_true rfl] at e
          cases e
        have al : atI ((as ++ [b]).map V.ref) (-1) = some (.ref b) := by
          rw [List.map_append]
          exact atI_last _ _
        refine ⟨_, rfl, 1, rfl, _, _, _, _, rfl, rfl, .of eF2, al, .inl ⟨rfl, _, .of eb⟩, _, rfl, b, _, _, rfl, rfl, eb, ?_, ?_⟩
        · rw [List.length_map]
          exact big (by omega)
        · refine rest _ (last ++ [word]) ?_ ?_ ?_ ?_ ?_ (fl last word hne).symm _ (fun σ' H' h => h)
          · intro d o hd
            rw [upd_ne (ne_of_none hd fb)]
            exact sm _ _ hd
          · rw [upd_ne nb.symm]
            exact eF2
          · show (upd H2 b _) b = _
            rw [upd_same, List.map_append]
            rfl
          · refine paired_same ?_ pr
            rintro a ws ⟨⟨z1, z2, z3⟩, z4⟩
            refine ⟨⟨z1, z2, z3⟩, ?_⟩
            show (upd H2 b _) a = _
            rw [upd_ne z3]
            exact z4
          · simp
            omega
      · have hw0 : word = Str.ofString "" := by
          by_cases h : word = Str.ofString ""
          · exact h
          · exfalso
            apply e
            rw [decide_eq_false (fun z => h (V.str.inj z))]
            rfl
        subst hw0
        refine rest H2 last sm eF2 eb pr (by omega) ?_ _ (fun σ' H' h => h)
        rw [tl_none]
        rfl
    · -- a sign of a word
      have hin : decide (c ∈ (Str.ofString " \n").cps.toList) = false := by
        rw [decide_eq_false_iff_not]
        show ¬ c ∈ TL.tl (Str.ofString " \n")
        rw [show TL.tl (Str.ofString " \n") = [32, 10] by decide +kernel]
        simp
        omega
      refine ⟨_, rfl, c, _, rfl, rfl, _, rfl, ?_⟩
      rw [hin]
      refine iteT ?_
      refine ⟨_, rfl, _, rfl, _, _, rfl, rfl, bigl (by show word.length + 1 ≤ _; omega), ?_⟩
      refine ⟨_, rfl, rfl, _, rfl, ite2 (fun e => ?_) (fun _ => ?_)⟩
      · exfalso
        have e1 := V.str.inj (of_decide_eq_true e)
        have e2 : TL.tl (⟨#[c]⟩ : Str) = TL.tl (Str.ofString "\n") := by rw [e1]
        rw [tl_feed] at e2
        exact h10 (List.cons.inj e2).1
      · refine ⟨word ++ ⟨#[c]⟩, _, as, b, done, last, rfl, sm, eF2, eb, fb, nb, pr, ?_, by omega, by omega, ?_⟩
        · rw [len_append]
          show word.length + 1 ≤ _
          omega
        · rw [← inv]
          show _ = _ ++ (if c = 10 then _ else if c = 32 then _ else _)
          rw [if_neg h10, if_neg h32, TL.tl_append]
  · rintro σ H2 ⟨word, v3, as, b, done, last, rfl, sm, eF2, eb, fb, nb, pr, hw, hl, ha, inv⟩
    rw [etl, List.drop_length] at inv
    have inv2 : done.map (·.map TL.tl) ++ [flushC (last.map TL.tl) (TL.tl word)] = partsC (TL.tl x) ++ [[]] := inv
    have ed : done = partsS x := by
      apply map_map_inj
      rw [partsS_tl]
      exact (List.append_inj' inv2 rfl).1
    subst ed
    have ec : cutV ((as ++ [b]).map V.ref) none (some (-1)) = as.map V.ref := by
      unfold cutV
      rw [HT.sIx_none, List.map_append]
      show ((as.map V.ref ++ [V.ref b]).drop 0).take (HT.sIx (as.map V.ref ++ [V.ref b]).length (as.map V.ref ++ [V.ref b]).length (some (-1)) - 0) = _
      have e3 : HT.sIx (as.map V.ref ++ [V.ref b]).length (as.map V.ref ++ [V.ref b]).length (some (-1)) = as.length := by
        rw [List.length_append, List.length_map]
        show HT.sIx (as.length + 1) (as.length + 1) (some (-1)) = as.length
        unfold HT.sIx
        simp
        omega
      rw [e3, Nat.sub_zero, List.drop_zero]
      rw [List.take_append_of_le_length (by simp)]
      exact List.take_of_length_le (by simp)
    refine ⟨_, rfl, 1, rfl, _, rfl, F, _, rfl, .of eF2, fun R nR => ?_⟩
    rw [ec]
    refine q R as _ ?_ (sm.free nR) upd_same ?_
    · exact sm.trans (same_upd nR)
    · refine paired_same ?_ pr
      rintro a ws ⟨⟨z1, z2, z3⟩, z4⟩
      have n2 : a ≠ R := ne_of_none z4 nR
      refine ⟨z1, n2, ?_⟩
      show (upd H2 R _) a = _
      rw [upd_ne n2]
      exact z4
end

/-! ### greedy lines -/
def joinS (ws : List Str) : Str := Txt.join (Str.ofString " ") ws
def glue : Str → List Str → Str
  | cur, [] => cur
  | cur, w :: r => glue (gapS cur w) r
def fitGo (wide : Int) : Str → List Str → Nat
  | _, [] => 0
  | cur, w :: r => if ((gapS cur w).length : Int) ≤ wide then fitGo wide (gapS cur w) r + 1 else 0
def tailLines (wide : Int) (ws : List Str) : List Str := match ws with
  | [] => []
  | w :: r => linesGo wide w r
theorem joinL_snoc : ∀ (l : List (List Nat)) (w : List Nat), l ≠ [] → TL.joinL [32] (l ++ [w]) = TL.joinL [32] l ++ (32 :: w)
  | [], _, h => absurd rfl h
  | [p], w, _ => rfl
  | p :: q :: r, w, _ => by
    have ih := joinL_snoc (q :: r) w (by simp)
    show p ++ ([32] ++ TL.joinL [32] ((q :: r) ++ [w])) = (p ++ ([32] ++ TL.joinL [32] (q :: r))) ++ (32 :: w)
    rw [ih]
    simp
theorem join_snoc {l : List Str} (h : l ≠ []) (w : Str) : joinS (l ++ [w]) = gapS (joinS l) w := by
  apply TL.ext_tl
  unfold joinS gapS
  rw [TL.join_eq, TL.tl_join, TL.tl_append, TL.tl_append, TL.join_eq, TL.tl_join, tl_blank, List.map_append]
  show TL.joinL [32] (l.map TL.tl ++ [TL.tl w]) = _
  rw [joinL_snoc _ _ (by simpa using h)]
  simp
theorem join_one (w : Str) : joinS [w] = w := by
  apply TL.ext_tl
  unfold joinS
  rw [TL.join_eq, TL.tl_join]
  rfl
theorem glue_snoc : ∀ (l : List Str) (cur w : Str), glue cur (l ++ [w]) = gapS (glue cur l) w
  | [], _, _ => rfl
  | v :: r, cur, w => glue_snoc r (gapS cur v) w
theorem join_glue_from : ∀ (l pre : List Str), pre ≠ [] → joinS (pre ++ l) = glue (joinS pre) l
  | [], pre, _ => by rw [List.append_nil]; rfl
  | w :: r, pre, h => by
    have ih := join_glue_from r (pre ++ [w]) (by simp)
    rw [List.append_assoc] at ih
    rw [show pre ++ w :: r = pre ++ ([w] ++ r) from rfl, ih, join_snoc h]
    rfl
theorem join_glue (w0 : Str) (l : List Str) : joinS (w0 :: l) = glue w0 l := by
  have h := join_glue_from l [w0] (by simp)
  rw [join_one] at h
  exact h
theorem fit_le (wide : Int) : ∀ (r : List Str) (cur : Str), fitGo wide cur r ≤ r.length
  | [], _ => Nat.le_refl _
  | w :: r, cur => by
    unfold fitGo
    split
    · have := fit_le wide r (gapS cur w); simp; omega
    · simp
theorem lines_head (wide : Int) : ∀ (r : List Str) (cur : Str), linesGo wide cur r = glue cur (r.take (fitGo wide cur r)) :: tailLines wide (r.drop (fitGo wide cur r))
  | [], cur => rfl
  | w :: r, cur => by
    unfold linesGo fitGo
    split
    · rw [lines_head wide r (gapS cur w)]
      rfl
    · rfl
theorem tail_cons (wide : Int) (w : Str) (r : List Str) : tailLines wide (w :: r) = joinS ((w :: r).take (1 + fitGo wide w r)) :: tailLines wide ((w :: r).drop (1 + fitGo wide w r)) := by
  show linesGo wide w r = _
  rw [lines_head, Nat.add_comm 1, List.take_succ_cons, List.drop_succ_cons, join_glue]
theorem lines_tail (wide : Int) {ws : List Str} (h : ws ≠ []) : linesS wide ws = tailLines wide ws := by
  cases ws with
  | nil => exact absurd rfl h
  | cons w r => rfl
theorem fit_step {wide : Int} {ws : List Str} {k : Nat} {v : Str} (h : ws[k]? = some v) (h1 : 1 ≤ k) : fitGo wide (joinS (ws.take k)) (ws.drop k) = if ((joinS (ws.take (k + 1))).length : Int) ≤ wide then fitGo wide (joinS (ws.take (k + 1))) (ws.drop (k + 1)) + 1 else 0 := by
  obtain ⟨hk, hv⟩ := List.getElem?_eq_some_iff.mp h
  have e1 : joinS (ws.take (k + 1)) = gapS (joinS (ws.take k)) v := by
    rw [List.take_add_one, h]
    exact join_snoc (fun z => by
      have := congrArg List.length z
      rw [List.length_take, List.length_nil] at this
      omega) v
  rw [e1, List.drop_eq_getElem_cons hk, hv]
  rfl
theorem join_sum_len : ∀ l : List (List Nat), (TL.joinL [32] l).length ≤ (l.map (fun w => w.length + 1)).sum
  | [] => Nat.le_refl _
  | [p] => by simp [TL.joinL]
  | p :: q :: r => by
    have ih := join_sum_len (q :: r)
    show (p ++ ([32] ++ TL.joinL [32] (q :: r))).length ≤ _
    simp only [List.length_append, List.length_cons, List.length_nil, List.map_cons, List.sum_cons] at ih ⊢
    omega
theorem sum_le {α : Type} (f : α → Nat) (b : Nat) : ∀ l : List α, (∀ a ∈ l, f a ≤ b) → (l.map f).sum ≤ l.length * b
  | [], _ => by simp
  | a :: r, h => by
    have h1 := h a List.mem_cons_self
    have h2 := sum_le f b r fun x hx => h x (List.mem_cons_of_mem _ hx)
    simp only [List.map_cons, List.sum_cons, List.length_cons, Nat.add_mul, Nat.one_mul]
    omega
theorem joinS_len {ws : List Str} (hn : ws.length ≤ 2001) (hw : ∀ w ∈ ws, w.length ≤ 2000) : (joinS ws).length ≤ 4004001 := by
  unfold joinS
  rw [TL.join_eq, TL.len_tl, TL.tl_join, tl_blank]
  refine Nat.le_trans (join_sum_len _) ?_
  rw [List.map_map]
  refine Nat.le_trans (sum_le _ 2001 ws fun w h => ?_) (Nat.le_trans (Nat.mul_le_mul_right 2001 hn) (by decide))
  show (TL.tl w).length + 1 ≤ 2001
  rw [← TL.len_tl]
  have := hw w h
  omega
theorem join_size {ws : List Str} (hn : ws.length ≤ 2001) (hw : ∀ w ∈ ws, w.length ≤ 2000) : (ws.map (·.length)).sum + ws.length * (Str.ofString " ").length ≤ 16777216 := by
  have h1 : (ws.map (·.length)).sum ≤ ws.length * 2000 := sum_le _ 2000 ws hw
  have h2 : ws.length * 2000 ≤ 2001 * 2000 := Nat.mul_le_mul_right _ hn
  rw [show (Str.ofString " ").length = 1 by decide +kernel]
  omega
theorem cut_to {α : Type} (f : α → V) (l : List α) (k : Nat) : cutV (l.map f) none (some (k : Int)) = (l.take k).map f := by
  unfold cutV
  rw [HT.sIx_none, show HT.sIx (l.map f).length (l.map f).length (some (k : Int)) = min k (l.map f).length from HT.sIx_nat _ _ k, List.drop_zero, Nat.sub_zero, ← List.map_take, List.length_map]
  congr 1
  rcases Nat.le_total k l.length with h | h
  · rw [Nat.min_eq_left h]
  · rw [Nat.min_eq_right h, List.take_length, List.take_of_length_le h]
theorem cut_from {α : Type} (f : α → V) (l : List α) (k : Nat) : cutV (l.map f) (some (k : Int)) none = (l.drop k).map f := by
  unfold cutV
  rw [HT.sIx_none, show HT.sIx (l.map f).length 0 (some (k : Int)) = min k (l.map f).length from HT.sIx_nat _ _ k, ← List.map_drop, ← List.map_take, List.length_map]
  congr 1
  rcases Nat.le_total k l.length with h | h
  · rw [Nat.min_eq_left h]
    exact List.take_of_length_le (by rw [List.length_drop]; exact Nat.le_refl _)
  · rw [Nat.min_eq_right h, List.drop_length, List.drop_eq_nil_of_le h]
    simp
theorem cut_at {α : Type} (f : α → V) (l : List α) (k : Nat) : cutV (l.map f) (some (k : Int)) (some ((k + 1 : Nat) : Int)) = ((l.drop k).take 1).map f := by
  unfold cutV
  rw [show HT.sIx (l.map f).length 0 (some (k : Int)) = min k (l.map f).length from HT.sIx_nat _ _ k, show HT.sIx (l.map f).length (l.map f).length (some ((k + 1 : Nat) : Int)) = min (k + 1) (l.map f).length from HT.sIx_nat _ _ (k + 1), ← List.map_drop, ← List.map_take, List.length_map]
  congr 1
  rcases Nat.lt_or_ge k l.length with h | h
  · rw [Nat.min_eq_left (Nat.le_of_lt h), Nat.min_eq_left h, show k.succ - k = 1 by omega]
  · rw [Nat.min_eq_right h, List.drop_length, List.drop_eq_nil_of_le h]
    simp
/-- sep.join(xs), K told -/
def rJoin (K : PySem.W.Frag) : V → List V → Hp → VK → Prop := fun x xs H Q =>
  ∃ a p, ∃ ys : List Str, x = .str a ∧ xs = [.ref p] ∧ (SqL K H p (ys.map V.str) ∨ SqT K H p (ys.map V.str)) ∧ (ys.map (·.length)).sum + ys.length * a.length ≤ 16777216 ∧ Q (.str (Txt.join a ys)) H

def spLineR (K : PySem.W.Frag) : Sp := fun vs H Q _ => ∃ (a : Addr) (w0 : Str) (r : List Str) (wide : Int), vs = [.str (joinS ((w0 :: r).take (1 + fitGo wide w0 r))), .ref a, .int wide] ∧ SqL K H a ((w0 :: r).map V.str) ∧ (w0 :: r).length ≤ 2001 ∧ (∀ w ∈ w0 :: r, w.length ≤ 2000) ∧
  ∀ H', Same H H' → Q (.int ((1 + fitGo wide w0 r : Nat) : Int)) H'
def spPartR (K : PySem.W.Frag) : Sp := fun vs H Q _ => ∃ (a L : Addr) (ws pre post : List Str) (wide : Int), vs = [.ref L, .int (pre.length : Int), .ref a, .int wide] ∧ SqL K H L ((pre ++ linesS wide ws ++ post).map V.str) ∧ SqL K H a (ws.map V.str) ∧ ws.length ≤ 2001 ∧ (∀ w ∈ ws, w.length ≤ 2000 ∧ okS w) ∧
  (∀ l ∈ pre ++ linesS wide ws ++ post, okS l) ∧ ∀ H', Same H H' → Q (.int ((pre.length + (linesS wide ws).length : Nat) : Int)) H'
def spWidth : Sp := fun vs H Q _ => ∃ (p P : Addr) (as : List Addr) (x : Str), vs = [.ref p, .ref P] ∧ Src H p ∧ P ≠ p ∧ x.length ≤ 1000 ∧ H P = some (.lst (as.map V.ref)) ∧ Paired (fun a ws => a ≠ p ∧ strsAt H a ws) as (partsS x) ∧ ∀ (n : Int) H', 0 ≤ n → Src H' p → Off p H H' → Q (.int n) H'
def spLaw (K : PySem.W.Frag) : Sp := fun vs H Q _ => ∃ (a : Addr) (ns : List Int), vs = [.ref a] ∧ SqL K H a (ns.map V.int) ∧ ns.length ≤ 63 ∧ ∀ H', Q (.bl true) H'
theorem tail_ne (wide : Int) {ws : List Str} (h : ws ≠ []) : tailLines wide ws ≠ [] := by
  cases ws with
  | nil => exact absurd rfl h
  | cons w r => rw [tail_cons]; simp
section
variable {P : Program} {w : World} {K : PySem.W.Frag} {mg : Str → Option Value} {base : Heap}
theorem ok_line_right (T : Txt K mg) : Ok P w K mg base CX0 "_law_line_right" s_line_right 1 ["_law_line", "_law_words_here", "_law_wide"] (spLineR K) := by
  refine T.h_line_right.ok sc_line_right (fun vs H Q E h => ?_) (fun f cdv A outer s H vs Q E hr h => ?_)
  · obtain ⟨a, w0, r, wide, rfl, _⟩ := h; rfl
  obtain ⟨a, w0, r, wide, rfl, hs, hn, hw, q⟩ := h
  refine ⟨_, (pss_cons (ps_set (i := 3) sc_line_right.nd rfl (by first | exact Or.inl rfl | exact Or.inr rfl) pe_int)
      (pss_cons (ps_while PassesOwn.never (PW.pt (pw_and (pt_cmpR op_lt (pv 3) (pe_callB call_len (by rfl) T.m_len (by decide +kernel) (pa_cons (pv 1) pa_nil)) (nomark _)) (pw_and1 (pt_cmpR op_le (pe_callB call_len_str (by rfl) T.m_len (by decide +kernel) (pa_cons (pe_join pe_str (pe_slice sl_list (pv 1) po_none (po_some (pe_op op_add (pv 3) pe_int)))) pa_nil)) (pv 2) (nomark _)))))
      (pss_one (ps_set (i := 3) sc_line_right.nd rfl (by first | exact Or.inl rfl | exact Or.inr rfl) (pe_op op_add (pv 3) pe_int))))
      (pss_one (ps_ret (pe_op op_mul (pv 3) (pe_callTy call_int1 (by rfl) T.m_int (by decide +kernel) (pa_cons (pe_cmpR op_eq (pv 0) (pe_join pe_str (pe_slice sl_list (pv 1) po_none (po_some (pv 3)))) (nomark _)) pa_nil))))))), ?_⟩
  refine ⟨fun m σ H' => ∃ k : Nat, σ = [some (.str (joinS ((w0 :: r).take (1 + fitGo wide w0 r)))), some (.ref a), some (.int wide), some (.int (k : Int))] ∧ 1 ≤ k ∧ k ≤ (w0 :: r).length ∧ m = (w0 :: r).length - k ∧
      k + fitGo wide (joinS ((w0 :: r).take k)) ((w0 :: r).drop k) = 1 + fitGo wide w0 r ∧ Same H H', ⟨_, 1, rfl, Nat.le_refl _, by simp, rfl, ?_, .refl _⟩, ?_⟩
  · show 1 + fitGo wide (joinS [w0]) r = _
    rw [join_one]
  rintro m σ H' ⟨k, rfl, k1, k2, rfl, hf, sm⟩
  have tk : ∀ j, ((w0 :: r).take j).length ≤ 2001 ∧ ∀ w ∈ (w0 :: r).take j, w.length ≤ 2000 := fun j => ⟨by rw [List.length_take]; omega, fun w h => hw w (List.mem_of_mem_take h)⟩
  -- what stands behind the loop
  have fin : k = 1 + fitGo wide w0 r → ∀ H1, Same H H1 → tRet (tOp (rI CMul fun i j => .int (i * j)) (tVar 3) (tCB (fun xs H Q => (∃ i, xs = [.int i] ∧ Q (.int i) H) ∨ ∃ k, xs = [.bl k] ∧ Q (.int (if k then 1 else 0)) H) (tCons (tOp rEq (tVar 0) (tM1 (rJoin K) (tC (.str (Str.ofString " "))) (tSl (rSlL K) (tVar 1) tNoPart (tPart (tVar 3))))) tNil)))
      { nx := fun _ H' => Q .non H', rt := Q } [some (.str (joinS ((w0 :: r).take (1 + fitGo wide w0 r)))), some (.ref a), some (.int wide), some (.int (k : Int))] H1 := by
    intro hk H1 sm1
    refine ⟨_, rfl, _, rfl, ⟨_, rfl⟩, _, rfl, _, rfl, (k : Int), rfl, a, _, rfl, sm1.seq hs, fun S nS => ?_⟩
    rw [cut_to]
    refine ⟨_, S, (w0 :: r).take k, rfl, rfl, .inl (.of upd_same), join_size (tk k).1 (tk k).2, ?_⟩
    refine ⟨rfl, .inr ⟨_, rfl, _, _, rfl, rfl, .inl ⟨by simp at k2 hn; omega, by simp at k2 hn; omega⟩, ?_⟩⟩
    have e : decide (V.str (joinS ((w0 :: r).take (1 + fitGo wide w0 r))) = V.str (Txt.join (Str.ofString " ") ((w0 :: r).take k))) = true := by
      rw [decide_eq_true_eq, hk]
      rfl
    rw [e, if_pos rfl]
    show Q (.int ((k : Int) * 1)) _
    rw [Int.mul_one, hk]
    exact q _ (sm1.trans (same_upd nS))
  refine ⟨_, rfl, _, rfl, _, _, rfl, .inl ⟨_, sm.seq hs, rfl⟩, _, _, rfl, rfl, _, rfl, ite2 (fun e => ?_) (fun e => ?_)⟩
  · have e1 : (k : Int) < (((w0 :: r).map V.str).length : Int) := of_decide_eq_true e
    rw [List.length_map] at e1
    have hk : k < (w0 :: r).length := by omega
    obtain ⟨v, hv⟩ : ∃ v, (w0 :: r)[k]? = some v := ⟨_, List.getElem?_eq_getElem hk⟩
    have fs := fit_step (wide := wide) hv k1
    refine ⟨⟨_, rfl⟩, _, rfl, _, rfl, _, _, rfl, rfl, _, rfl, a, _, rfl, sm.seq hs, fun S nS => ?_⟩
    have ec : cutV ((w0 :: r).map V.str) none (some ((k : Int) + 1)) = ((w0 :: r).take (k + 1)).map V.str := cut_to V.str (w0 :: r) (k + 1)
    rw [ec]
    have jl := joinS_len (tk (k + 1)).1 (tk (k + 1)).2
    refine ⟨_, S, (w0 :: r).take (k + 1), rfl, rfl, .inl (.of upd_same), join_size (tk _).1 (tk _).2, ?_⟩
    refine ⟨_, rfl, bigl (by unfold joinS at jl; omega), _, rfl, _, _, rfl, rfl, _, rfl, ite2 (fun e2 => ?_) (fun e2 => ?_)⟩
    · have e3 : ((joinS ((w0 :: r).take (k + 1))).length : Int) ≤ wide := of_decide_eq_true e2
      rw [if_pos e3] at fs
      refine ⟨fun σ' H2 => σ' = [some (.str (joinS ((w0 :: r).take (1 + fitGo wide w0 r)))), some (.ref a), some (.int wide), some (.int ((k + 1 : Nat) : Int))] ∧ Same H H2, ?_, ?_⟩
      · rintro σ' H2 ⟨rfl, sm2⟩
        exact ⟨_, by omega, k + 1, rfl, by omega, hk, rfl, by omega, sm2⟩
      · exact ⟨_, rfl, _, _, rfl, rfl, rfl, sm.trans (same_upd nS)⟩
    · have e3 : ¬ ((joinS ((w0 :: r).take (k + 1))).length : Int) ≤ wide := fun z => e2 (decide_eq_true z)
      rw [if_neg e3] at fs
      exact fin (by omega) _ (sm.trans (same_upd nS))
  · have e1 : ¬ (k : Int) < (((w0 :: r).map V.str).length : Int) := fun z => e (decide_eq_true z)
    rw [List.length_map] at e1
    have hk : k = (w0 :: r).length := by omega
    refine iteF ?_
    refine fin ?_ _ sm
    rw [hk, List.drop_length] at hf
    have : fitGo wide (joinS ((w0 :: r).take (w0 :: r).length)) [] = 0 := rfl
    omega
end

section
variable {P : Program} {w : World} {K : PySem.W.Frag} {mg : Str → Option Value} {base : Heap}
theorem mem_drop_ok {ws : List Str} {n : Nat} {Pw : Str → Prop} (h : ∀ w ∈ ws, Pw w) : ∀ w ∈ ws.drop n, Pw w := fun w hw => h w (List.mem_of_mem_drop hw)
theorem nil_ok : ∀ w ∈ ([] : List Str), okS w := fun w h => by cases h
theorem one_ok : ∀ w ∈ [Str.ofString ""], okS w := fun w h => by
  rw [List.mem_singleton.mp h]
  exact okS.none
theorem ok_part_right (T : Txt K mg) : Ok P w K mg base CX0 "_law_part_right" s_part_right 2 ["_law_lines", "_law_at", "_law_words_here", "_law_wide"] (spPartR K) := by
  have O_line_right := ok_line_right (P := P) (w := w) (base := base) T
  refine T.h_part_right.ok sc_part_right (fun vs H Q E h => ?_) (fun f cdv A outer s H vs Q E hr h => ?_)
  · obtain ⟨a, L, ws, pre, post, wide, rfl, _⟩ := h; rfl
  obtain ⟨a, L, ws, pre, post, wide, rfl, hL, ha, hn, hw, hok, q⟩ := h
  refine ⟨_, (pss_cons (ps_if (pt_cmpR (op_eqD hr.units) (pv 2) (pe_lst pa_nil) (nomark _))
      (pss_one (ps_ret (pe_op op_mul (pe_op op_add (pv 1) pe_int) (pe_callTy call_int1 (by rfl) T.m_int (by decide +kernel) (pa_cons (pe_cmpR (op_eqD hr.units) (pe_slice sl_list (pv 0) (po_some (pv 1)) (po_some (pe_op op_add (pv 1) pe_int))) (pe_lst (pa_cons pe_str pa_nil)) (nomark _)) pa_nil)))))
      pss_nil)
      (pss_cons (ps_set (i := 4) sc_part_right.nd rfl (by first | exact Or.inl rfl | exact Or.inr rfl) (pe_callTy call_list_of (by rfl) T.m_list (by decide +kernel) (pa_cons (pv 2) pa_nil)))
      (pss_cons (ps_while PassesOwn.never (pt_cmpR (op_neD hr.units) (pv 4) (pe_lst pa_nil) (nomark _))
      (pss_cons (ps_if (pt_cmpR op_ge (pv 1) (pe_callB call_len (by rfl) T.m_len (by decide +kernel) (pa_cons (pv 0) pa_nil)) (nomark _))
      (pss_one (ps_ret pe_int))
      pss_nil)
      (pss_cons (ps_set (i := 5) sc_part_right.nd rfl (by first | exact Or.inl rfl | exact Or.inr rfl) (callO O_line_right (hr.mono (by decide)) (by rfl) (pa_cons (pe_ix ix_list (pv 0) (pv 1) (fun _ _ => rfl)) (pa_cons (pv 4) (pa_cons (pv 3) pa_nil)))))
      (pss_cons (ps_if (pt_cmpR op_eq (pv 5) pe_int (nomark _))
      (pss_one (ps_ret pe_int))
      pss_nil)
      (pss_cons (ps_set (i := 4) sc_part_right.nd rfl (by first | exact Or.inl rfl | exact Or.inr rfl) (pe_slice sl_list (pv 4) (po_some (pv 5)) po_none))
      (pss_one (ps_set (i := 1) sc_part_right.nd rfl (by first | exact Or.inl rfl | exact Or.inr rfl) (pe_op op_add (pv 1) pe_int))))))))
      (pss_one (ps_ret (pv 1)))))), ?_⟩
  refine ⟨_, rfl, (by show 0 ≤ sizeLine; decide), fun e0 ne0 => ⟨dat ws, dat [], dp_strs ((same_upd ne0).seq ha), dp_strs (.of upd_same), shaped_strs fun w h => (hw w h).2, shaped_strs nil_ok, _, rfl, ite2 (fun e => ?_) (fun e => ?_)⟩⟩
  · rw [eqv_dat] at e
    have e1 : ws = [] := of_decide_eq_true e
    subst e1
    have s0 := same_upd (o := .lst []) ne0
    refine ⟨_, rfl, _, _, rfl, rfl, _, rfl, _, rfl, _, rfl, _, rfl, _, _, rfl, rfl, _, rfl, L, _, rfl, s0.seq hL, fun S nS => ?_⟩
    have ec : cutV ((pre ++ linesS wide [] ++ post).map V.str) (some (pre.length : Int)) (some ((pre.length : Int) + 1)) = [Str.ofString ""].map V.str := by
      have h := cut_at V.str (pre ++ linesS wide [] ++ post) pre.length
      rw [List.append_assoc, List.drop_left] at h
      rw [List.append_assoc]
      exact h
    rw [ec]
    refine ⟨(by show 1 ≤ sizeLine; decide), fun E1 nE1 => ⟨dat [Str.ofString ""], dat [Str.ofString ""], dp_strs (.of (same_upd nE1 _ _ upd_same)), dp_strs (.of upd_same), shaped_strs one_ok, shaped_strs one_ok, ?_⟩⟩
    have ev : PyData.eqv (dat [Str.ofString ""]) (dat [Str.ofString ""]) = true := by
      rw [eqv_dat]
      exact decide_eq_true rfl
    refine .inr ⟨true, congrArg (fun b => [V.bl b]) ev, _, _, rfl, rfl, .inr ⟨by decide, by decide⟩, ?_⟩
    show Q (.int (((pre.length : Int) + 1) * 1)) _
    rw [Int.mul_one]
    exact q _ (s0.trans ((same_upd nS).trans (same_upd nE1)))
  · rw [eqv_dat] at e
    have hne : ws ≠ [] := fun z => e (decide_eq_true z)
    have s0 := same_upd (o := .lst []) ne0
    refine ⟨_, rfl, a, _, rfl, .inl (s0.seq ha), fun l nl => ?_⟩
    have s1 := s0.trans (same_upd (o := .lst (ws.map V.str)) nl)
    have el : (upd (upd H e0 (.lst [])) l (.lst (ws.map V.str))) l = some (.lst (ws.map V.str)) := upd_same
    generalize upd (upd H e0 (.lst [])) l (.lst (ws.map V.str)) = HB at s1 el ⊢
    have lt := lines_tail wide hne
    refine ⟨fun m σ H' => ∃ (j : Nat) (rest : List Str) (la : Addr) (v5 : Option V) (dn : List Str), σ = [some (.ref L), some (.int ((pre.length + j : Nat) : Int)), some (.ref a), some (.int wide), some (.ref la), v5] ∧
        strsAt H' la rest ∧ m = rest.length ∧ linesS wide ws = dn ++ tailLines wide rest ∧ dn.length = j ∧ rest.length ≤ 2001 ∧ (∀ w ∈ rest, w.length ≤ 2000 ∧ okS w) ∧ Same H H',
      ⟨_, 0, ws, l, none, [], rfl, el, rfl, lt, rfl, hn, hw, s1⟩, ?_⟩
    rintro m σ H' ⟨j, rest, la, v5, dn, rfl, ela, rfl, hl, hj, rn, rw', sm⟩
    refine ⟨_, rfl, (by show 0 ≤ sizeLine; decide), fun e1 ne1 => ⟨dat rest, dat [], dp_strs (.of (same_upd ne1 _ _ ela)), dp_strs (.of upd_same), shaped_strs fun w h => (rw' w h).2, shaped_strs nil_ok, _, rfl, ite2 (fun e2 => ?_) (fun e2 => ?_)⟩⟩
    · rw [eqv_dat] at e2
      have s2 := sm.trans (same_upd (o := .lst []) ne1)
      have ela2 := same_upd (o := .lst []) ne1 _ _ ela
      generalize upd H' e1 (.lst []) = H2 at s2 ela2 ⊢
      cases rest with
      | nil =>
        exfalso
        rw [decide_eq_true rfl] at e2
        cases e2
      | cons w0 r =>
        have htl := tail_cons wide w0 r
        have hal : (pre ++ linesS wide ws ++ post)[pre.length + j]? = some (joinS ((w0 :: r).take (1 + fitGo wide w0 r))) := by
          rw [hl, htl, ← hj, List.append_assoc, List.append_assoc, List.getElem?_append_right (by omega), Nat.add_sub_cancel_left, List.getElem?_append_right (by omega), Nat.sub_self]
          rfl
        have hlen : pre.length + j < (pre ++ linesS wide ws ++ post).length := (List.getElem?_eq_some_iff.mp hal).1
        have hfl := fit_le wide r w0
        refine ⟨fun σ' H3 => ∃ (la' : Addr) (v5' : Option V), σ' = [some (.ref L), some (.int ((pre.length + (j + 1) : Nat) : Int)), some (.ref a), some (.int wide), some (.ref la'), v5'] ∧
            strsAt H3 la' ((w0 :: r).drop (1 + fitGo wide w0 r)) ∧ Same H H3, ?_, ?_⟩
        · rintro σ' H3 ⟨la', v5', rfl, h3, s3⟩
          refine ⟨((w0 :: r).drop (1 + fitGo wide w0 r)).length, ?_, j + 1, (w0 :: r).drop (1 + fitGo wide w0 r), la', v5', dn ++ [joinS ((w0 :: r).take (1 + fitGo wide w0 r))], rfl, h3, rfl, ?_, ?_, ?_, mem_drop_ok rw', s3⟩
          · rw [List.length_drop]
            simp
            omega
          · rw [hl, htl, List.append_assoc]
            rfl
          · rw [List.length_append, hj]
            rfl
          · rw [List.length_drop]
            omega
        · refine ⟨_, rfl, _, rfl, _, _, rfl, .inl ⟨_, s2.seq hL, rfl⟩, _, _, rfl, rfl, _, rfl, ite2 (fun e3 => ?_) (fun _ => ?_)⟩
          · exfalso
            have e4 := of_decide_eq_true e3
            rw [List.length_map] at e4
            omega
          have ai : atI ((pre ++ linesS wide ws ++ post).map V.str) ((pre.length + j : Nat) : Int) = some (.str (joinS ((w0 :: r).take (1 + fitGo wide w0 r)))) := atI_nat (by rw [List.getElem?_map, hal]; rfl)
          refine ⟨_, rfl, _, rfl, _, _, _, _, rfl, rfl, s2.seq hL, ai, _, rfl, _, rfl, la, w0, r, wide, rfl, .of ela2, rn, fun w h => (rw' w h).1, fun H3 s3 => ?_⟩
          refine ⟨_, rfl, rfl, _, rfl, ite2 (fun e3 => ?_) (fun _ => ?_)⟩
          · exfalso
            have e4 := V.int.inj (of_decide_eq_true e3)
            omega
          refine ⟨_, rfl, _, rfl, _, rfl, la, _, rfl, .of (s3 _ _ ela2), fun S nS => ?_⟩
          rw [cut_from]
          refine ⟨_, rfl, _, _, rfl, rfl, ?_⟩
          exact ⟨S, _, rfl, upd_same, s2.trans (s3.trans (same_upd nS))⟩
    · rw [eqv_dat] at e2
      have e3 : rest = [] := by
        by_cases h : rest = []
        · exact h
        · exfalso
          apply e2
          rw [decide_eq_false h]
          rfl
      subst e3
      have e4 : linesS wide ws = dn := by
        rw [hl]
        exact List.append_nil _
      refine ⟨_, rfl, ?_⟩
      rw [← hj, ← e4]
      exact q _ (sm.trans (same_upd ne1))
theorem ok_width (T : Txt K mg) : Ok P w K mg base CX0 "_law_width" s_width 3 ["_law_source_here", "_law_parts"] spWidth := by
  have O_next := ok_next (P := P) (w := w) (base := base) T
  refine T.h_width.ok sc_width (fun vs H Q E h => ?_) (fun f cdv A outer s H vs Q E hr h => ?_)
  · obtain ⟨p, pa, as, x, rfl, _⟩ := h; rfl
  obtain ⟨p, pa, as, x, rfl, hs, npp, hx, hP, pr, q⟩ := h
  obtain ⟨c1, c2⟩ := partsS_small (x := x) (by omega)
  have al : as.length ≤ 2001 := by rw [pr.length]; exact c1
  refine ⟨_, (pss_cons (ps_set (i := 2) sc_width.nd rfl (by first | exact Or.inl rfl | exact Or.inr rfl) (pe_callB (cr_max rfl) (by rfl) T.m_max (by decide +kernel) (pa_cons (pe_op op_cat (pe_lst (pa_cons pe_int pa_nil)) (pe_lc (own := [("_law_words_here", 4)]) (te := (tCB (rMax K) (tCons (tOp _ (tLst (tCons _ tNil)) (tLc (iList K (tVar 4)) _ tYes (tCB _ (tCons (tVar 3) tNil)) [3])) tNil))) (by rfl) sc_width.nd (pi_list (pv 1)) (blkOk_by (own := [("_law_words_here", 4)]) (N := n_width) (sc := defScope s_width) (by decide +kernel)) (fun _ _ _ _ _ => (pg_name (i := 4) sc_width.nd rfl (by first | exact Or.inl rfl | exact Or.inr rfl))) (fun _ _ _ _ _ => pts_nil) (fun _ _ _ _ _ => (pe_callB (cr_max rfl) (by rfl) T.m_max (by decide +kernel) (pa_cons (pe_op op_cat (pe_lst (pa_cons pe_int pa_nil)) (pe_lc (own := [("_law_word_here", 3)]) (by rfl) sc_width.nd (pi_list (pv 4)) (blkOk_by (own := [("_law_word_here", 3)]) (N := n_width) (sc := relS _ (defScope s_width)) (by decide +kernel)) (fun _ _ _ _ _ => (pg_name (i := 3) sc_width.nd rfl (by first | exact Or.inl rfl | exact Or.inr rfl))) (fun _ _ _ _ _ => pts_nil) (fun _ _ _ _ _ => (pe_callB call_len_str (by rfl) T.m_len (by decide +kernel) (pa_cons (pv 3) pa_nil))))) pa_nil))))) pa_nil)))
      (pss_cons (ps_set (i := 5) sc_width.nd rfl (by first | exact Or.inl rfl | exact Or.inr rfl) (pe_callB (cr_max rfl) (by rfl) T.m_max (by decide +kernel) (pa_cons (pe_lc (own := [("_law_words_here", 4)]) (te := (tCB _ (tCons (tM1 (rJoin K) _ (tVar 4)) tNil))) (by rfl) sc_width.nd (pi_list (pv 1)) (blkOk_by (own := [("_law_words_here", 4)]) (N := n_width) (sc := defScope s_width) (by decide +kernel)) (fun _ _ _ _ _ => (pg_name (i := 4) sc_width.nd rfl (by first | exact Or.inl rfl | exact Or.inr rfl))) (fun _ _ _ _ _ => pts_nil) (fun _ _ _ _ _ => (pe_callB call_len_str (by rfl) T.m_len (by decide +kernel) (pa_cons (pe_join pe_str (pv 4)) pa_nil)))) pa_nil)))
      (pss_cons (ps_set (i := 6) sc_width.nd rfl (by first | exact Or.inl rfl | exact Or.inr rfl) (pe_lst (pa_cons pe_int (pa_cons pe_int (pa_cons (callO O_next (hr.mono (by decide)) (by rfl) (pa_cons (pv 0) (pa_cons pe_int pa_nil))) (pa_cons (callO O_next (hr.mono (by decide)) (by rfl) (pa_cons (pv 0) (pa_cons pe_int pa_nil))) (pa_cons (pv 2) (pa_cons (pe_op op_add (pv 2) pe_int) (pa_cons (pe_callB (call_max2 rfl) (by rfl) T.m_max (by decide +kernel) (pa_cons pe_int (pa_cons (pe_op op_sub (pv 2) pe_int) pa_nil))) (pa_cons (pv 5) pa_nil))))))))))
      (pss_cons (ps_set (i := 6) sc_width.nd rfl (by first | exact Or.inl rfl | exact Or.inr rfl) (pe_op op_cat (pv 6) (pe_lst (pa_cons (pe_op op_add (pv 5) pe_int) (pa_cons (pe_callB (call_max2 rfl) (by rfl) T.m_max (by decide +kernel) (pa_cons pe_int (pa_cons (pe_op op_sub (pv 5) pe_int) pa_nil))) (pa_cons (pe_op op_sub (pe_op op_sub (pe_op op_pow pe_int pe_int) pe_int) (callO O_next (hr.mono (by decide)) (by rfl) (pa_cons (pv 0) (pa_cons (pe_op op_pow pe_int pe_int) pa_nil)))) pa_nil))))))
      (pss_one (ps_ret (pe_ix ix_list (pv 6) (callO O_next (hr.mono (by decide)) (by rfl) (pa_cons (pv 0) (pa_cons pe_int pa_nil))) (fun _ _ => rfl)))))))), ?_⟩
  refine ⟨(by show 1 ≤ sizeLine; decide), fun z0 nz0 => ?_⟩
  have s0 := same_upd (o := .lst [.int 0]) nz0
  have ez0 : (upd H z0 (.lst [.int 0])) z0 = some (.lst [.int 0]) := upd_same
  generalize upd H z0 (.lst [.int 0]) = H0 at s0 ez0 ⊢
  refine ⟨_, rfl, pa, rfl, ⟨_, .of (s0 _ _ hP)⟩, fun D nD => ?_⟩
  refine lc_list (K := K) (a := pa) (xs := as.map V.ref) (fun i H' => ∃ ns : List Int, H' D = some (.lst (ns.map V.int)) ∧ ns.length = i ∧ Same H0 H')
    ⟨[], upd_same, rfl, same_upd nD⟩ (fun i H' _ h => .of (h.choose_spec.2.2 _ _ (s0 _ _ hP))) ?_ ?_
  · rintro i y H' hi ⟨ns, eD, en, sm⟩
    obtain ⟨a, rfl, ha⟩ := ref_at hi
    obtain ⟨ws, hws, nap, ea⟩ := paired_get pr ha
    have hil : i < as.length := (List.getElem?_eq_some_iff.mp ha).1
    obtain ⟨d1, d2⟩ := c2 ws (List.mem_of_getElem? hws)
    refine ⟨rfl, yes_if ?_⟩
    refine ⟨(by show 1 ≤ sizeLine; decide), fun z1 nz1 => ?_⟩
    have s1 := same_upd (o := .lst [.int 0]) nz1
    have ez1 : (upd H' z1 (.lst [.int 0])) z1 = some (.lst [.int 0]) := upd_same
    generalize upd H' z1 (.lst [.int 0]) = H1 at s1 ez1 ⊢
    have ea1 : H1 a = some (.lst (ws.map V.str)) := s1 _ _ (sm _ _ (s0 _ _ ea))
    refine ⟨_, rfl, a, rfl, ⟨_, .of ea1⟩, fun D1 nD1 => ?_⟩
    refine lc_list (K := K) (a := a) (xs := ws.map V.str) (fun j H'' => ∃ ks : List Int, H'' D1 = some (.lst (ks.map V.int)) ∧ ks.length = j ∧ Same H1 H'')
      ⟨[], upd_same, rfl, same_upd nD1⟩ (fun j H'' _ h => .of (h.choose_spec.2.2 _ _ ea1)) ?_ ?_
    · rintro j y H'' hj ⟨ks, eD1, ek, sm1⟩
      obtain ⟨wd, rfl, hwd⟩ := str_at hj
      have hjl : j < ws.length := (List.getElem?_eq_some_iff.mp hwd).1
      have wl := d2 wd (List.mem_of_getElem? hwd)
      refine ⟨rfl, yes_if ?_⟩
      refine ⟨_, rfl, wd, rfl, bigl (by omega), _, eD1, ?_, ks ++ [(wd.length : Int)], ?_, ?_, ?_⟩
      · rw [List.length_map]
        exact big (by omega)
      · rw [upd_same, List.map_append]
        rfl
      · simp [ek]
      · intro b o hb
        rw [upd_ne (ne_of_none hb nD1)]
        exact sm1 _ _ hb
    · rintro H'' ⟨ks, eD1, ek, sm1⟩
      rw [List.length_map] at ek
      refine ⟨z1, D1, _, _, rfl, rfl, sm1 _ _ ez1, eD1, ?_, fun C nC => ?_⟩
      · rw [List.length_map]
        exact bigl (by simp; omega)
      refine ⟨C, 0 :: ks, rfl, .of upd_same, by simp, fun m hm hall => ?_⟩
      have eD2 : H'' D = some (.lst (ns.map V.int)) := sm1 _ _ (s1 _ _ eD)
      refine ⟨_, same_upd nC _ _ eD2, ?_, ns ++ [m], ?_, ?_, ?_⟩
      · rw [List.length_map]
        exact big (by omega)
      · rw [upd_same, List.map_append]
        rfl
      · simp [en]
      · intro b o hb
        rw [upd_ne (ne_of_none hb nD)]
        exact same_upd nC _ _ (sm1 _ _ (s1 _ _ (sm _ _ hb)))
  · rintro H' ⟨ns, eD, en, sm⟩
    rw [List.length_map] at en
    refine ⟨z0, D, _, _, rfl, rfl, sm _ _ ez0, eD, ?_, fun C nC => ?_⟩
    · rw [List.length_map]
      exact bigl (by simp; omega)
    refine ⟨C, 0 :: ns, rfl, .of upd_same, by simp, fun long hm hall => ?_⟩
    have l0 : 0 ≤ long := hall 0 List.mem_cons_self
    have s1 : Same H (upd H' C (.lst ((0 :: ns).map V.int))) := s0.trans (sm.trans (same_upd nC))
    show gName 2 (V.int long) _ (upd H' C (.lst ((0 :: ns).map V.int))) _
    generalize upd H' C (.lst ((0 :: ns).map V.int)) = H1 at s1 ⊢
    -- the wish
    refine ⟨_, rfl, pa, rfl, ⟨_, .of (s1 _ _ hP)⟩, fun D2 nD2 => ?_⟩
    refine lc_list (K := K) (a := pa) (xs := as.map V.ref) (fun i H' => ∃ ns : List Int, H' D2 = some (.lst (ns.map V.int)) ∧ ns.length = i ∧ (∀ n ∈ ns, 0 ≤ n) ∧ Same H1 H')
      ⟨[], upd_same, rfl, (fun n h => by cases h), same_upd nD2⟩ (fun i H' _ h => .of (h.choose_spec.2.2.2 _ _ (s1 _ _ hP))) ?_ ?_
    · rintro i y H' hi ⟨ns, eD, en, hn, sm⟩
      obtain ⟨a, rfl, ha⟩ := ref_at hi
      obtain ⟨ws, hws, nap, ea⟩ := paired_get pr ha
      have hil : i < as.length := (List.getElem?_eq_some_iff.mp ha).1
      obtain ⟨d1, d2⟩ := c2 ws (List.mem_of_getElem? hws)
      have jl := joinS_len d1 d2
      refine ⟨rfl, yes_if ?_⟩
      refine ⟨⟨_, rfl⟩, _, rfl, _, a, ws, rfl, rfl, .inl (.of (sm _ _ (s1 _ _ ea))), join_size d1 d2, _, rfl, bigl (by unfold joinS at jl; omega), _, eD, ?_, ns ++ [((joinS ws).length : Int)], ?_, ?_, ?_, ?_⟩
      · rw [List.length_map]
        exact big (by omega)
      · rw [upd_same, List.map_append]
        rfl
      · simp [en]
      · intro n hn2
        rcases List.mem_append.mp hn2 with h | h
        · exact hn n h
        · rw [List.mem_singleton.mp h]
          omega
      · intro b o hb
        rw [upd_ne (ne_of_none hb nD2)]
        exact sm _ _ hb
    · rintro H' ⟨ns, eD, en, hn, sm⟩
      rw [List.length_map] at en
      have hpos : 0 < ns.length := by
        rw [en, pr.length]
        unfold partsS
        rw [List.length_map]
        have h := congrArg List.length (split_cut tl_feed (by decide) x)
        rw [List.length_map] at h
        have h2 := cutC_ne 10 (TL.tl x)
        cases e : cutC 10 (TL.tl x) with
        | nil => exact absurd e h2
        | cons a b => rw [e] at h; rw [h]; simp
      refine ⟨D2, ns, rfl, .of eD, hpos, fun wish hm hall => ?_⟩
      have w0 : 0 ≤ wish := hn wish hm
      have s2 : Same H H' := s1.trans sm
      have sH : Src H' p := hs.same s2
      -- the list of widths
      refine ⟨_, rfl, p, 12, rfl, by decide, by decide, sH, fun r1 G1 a1 b1 t1 o1 => ?_⟩
      refine ⟨_, rfl, p, 90, rfl, by decide, by decide, t1, fun r2 G2 a2 b2 t2 o2 => ?_⟩
      refine ⟨_, rfl, _, rfl, _, _, rfl, rfl, _, rfl, _, _, rfl, rfl, _, _, rfl, _, rfl, (by show 8 ≤ sizeLine; decide), fun l1 nl1 => ?_⟩
      have e1 := (upd_same : (upd G2 l1 (.lst [.int 0, .int 1, .int r1, .int r2, .int long, .int (long + 1), .int (if long - 1 > 0 then long - 1 else 0), .int wish])) l1 = _)
      have t3 := t2.keep (o := .lst [.int 0, .int 1, .int r1, .int r2, .int long, .int (long + 1), .int (if long - 1 > 0 then long - 1 else 0), .int wish]) nl1
      refine ⟨_, rfl, _, rfl, _, _, rfl, rfl, _, rfl, _, _, rfl, rfl, _, _, rfl, _, _, rfl, rfl, ⟨by decide, by decide, by decide⟩, _, _, rfl, rfl, ?_⟩
      refine ⟨_, rfl, _, _, rfl, rfl, ⟨by decide, by decide, by decide⟩, p, _, rfl, by decide, by decide, t3, fun r3 G3 a3 b3 t4 o4 => ⟨_, _, rfl, rfl, (by show 3 ≤ sizeLine; decide), fun l2 nl2 => ?_⟩⟩
      have e2 : G3 l1 = _ := o4 _ _ e1 (t2.ne_new nl1)
      have n12 : l1 ≠ l2 := ne_of_none e2 nl2
      refine ⟨l1, l2, _, _, rfl, rfl, (upd_ne n12).trans e2, upd_same, (by show 8 + 3 ≤ sizeLine; decide), fun l3 nl3 => ?_⟩
      have t5 := (t4.keep (o := .lst [.int (wish + 1), .int (if wish - 1 > 0 then wish - 1 else 0), .int (10 ^ (12 : Int).toNat - 1 - r3)]) nl2)
      refine ⟨_, rfl, _, rfl, p, 11, rfl, by decide, by decide, t5.keep nl3, fun r4 G4 a4 b4 t6 o6 => ?_⟩
      obtain ⟨v, hv, hat⟩ := atI_mem (xs := [V.int 0, .int 1, .int r1, .int r2, .int long, .int (long + 1), .int (if long - 1 > 0 then long - 1 else 0), .int wish] ++ [V.int (wish + 1), .int (if wish - 1 > 0 then wish - 1 else 0), .int (10 ^ (12 : Int).toNat - 1 - r3)]) (i := r4) a4 (by show r4 < 11; omega)
      obtain ⟨n, rfl, n0⟩ : ∃ n : Int, v = .int n ∧ 0 ≤ n := by
        have h10 : (10 ^ (6 : Int).toNat : Int) = 1000000 := by decide
        have h12 : (10 ^ (12 : Int).toNat : Int) = 1000000000000 := by decide
        simp only [List.mem_append, List.mem_cons, List.not_mem_nil, or_false] at hv
        rcases hv with (rfl | rfl | rfl | rfl | rfl | rfl | rfl | rfl) | (rfl | rfl | rfl)
        · exact ⟨_, rfl, by decide⟩
        · exact ⟨_, rfl, by decide⟩
        · exact ⟨_, rfl, a1⟩
        · exact ⟨_, rfl, a2⟩
        · exact ⟨_, rfl, l0⟩
        · exact ⟨_, rfl, by omega⟩
        · exact ⟨_, rfl, by split <;> omega⟩
        · exact ⟨_, rfl, w0⟩
        · exact ⟨_, rfl, by omega⟩
        · exact ⟨_, rfl, by split <;> omega⟩
        · exact ⟨_, rfl, by rw [h12]; rw [h10] at b3; omega⟩
      refine ⟨l3, _, _, _, rfl, rfl, .of (o6 _ _ upd_same (t5.ne_new nl3)), hat, ?_⟩
      exact q n G4 n0 t6 ((Off.of s2).trans (o1.trans (o2.trans ((off_new nl1).trans (o4.trans ((off_new nl2).trans ((off_new nl3).trans o6)))))))
end

/-! ### the cells that a law walks -/
theorem cells_it {K : PySem.W.Frag} {σ : L2.St} {H : Hp} {a : Addr} {ns : List Int} {n : Int} {R : It → Hp → Prop} (h0 : σ[0]? = some (some (.ref a))) (hS : SqL K H a (ns.map V.int)) (hl : ns.length ≤ 63)
    (k : ∀ (L : Addr) (zs : List Int) (HB : Hp), HB L = some (.lst (zs.map V.int)) → Same H HB → R (Itl K L) HB) :
    iList K (tOp rCat (tLst (tCons (tCall (spCellAt K) [] E0 (tCons (tVar 0) (tCons (tC (.int 0)) tNil))) tNil)) (tSl (rSlL K) (tVar 0) (tPart (tC (.int 1))) (tPart (tC (.int n))))) σ H R := by
  refine ⟨_, h0, a, ns, 0, rfl, hS, fun z0 => ⟨(by show 1 ≤ sizeLine; decide), fun p1 n1 => ?_⟩⟩
  obtain ⟨ms, hms, ecut⟩ := cut_ints ns (some 1) (some n)
  refine ⟨_, h0, 1, rfl, n, rfl, a, ns.map V.int, rfl, (same_upd n1).seq hS, fun p2 n2 => ?_⟩
  have g1 : (upd (upd H p1 (.lst [.int z0])) p2 (.lst (cutV (ns.map V.int) (some 1) (some n)))) p1 = some (.lst [.int z0]) := by
    rw [upd_ne (ne_of_none upd_same n2)]
    exact upd_same
  refine ⟨p1, p2, _, _, rfl, rfl, g1, upd_same, ?_, fun L nL => ?_⟩
  · rw [ecut, List.length_map]
    show 1 + ms.length ≤ sizeLine
    exact Nat.le_trans (by omega : 1 + ms.length ≤ 64) (by decide)
  have sB := (same_upd (o := .lst [.int z0]) n1).trans ((same_upd n2).trans (same_upd (o := .lst ([V.int z0] ++ cutV (ns.map V.int) (some 1) (some n))) nL))
  refine ⟨L, rfl, ⟨_, .of upd_same⟩, k L (z0 :: ms) _ ?_ sB⟩
  rw [upd_same, ecut]
  rfl
/-- what a for asks of the thing that it walks -/
def forR (g : TG) (tb : TS) (D : Ends) (σ : L2.St) (J : It) (H1 : Hp) : Prop :=
  ∃ W : Nat → Nat → L2.St → Hp → Prop, (∃ m, W 0 m σ H1) ∧ ∀ i m σ H, W i m σ H → (J.stop i H ∧ D.nx σ H) ∨
    (J.go i H ∧ ∃ N : L2.St → Hp → Prop, (∀ σ' H', N σ' H' → ∃ m', m' < m ∧ W (i + 1) m' σ' H') ∧ ∀ x H', J.yld i H x H' → g x σ H' fun σ2 H2 => tb { D with nx := N, ct := N, bk := D.nx } σ2 H2)
theorem cells_for {K : PySem.W.Frag} {σ : L2.St} {H : Hp} {a : Addr} {ns : List Int} {n : Int} {g : TG} {tb u : TS} {D : Ends} (h0 : σ[0]? = some (some (.ref a))) (hS : SqL K H a (ns.map V.int)) (hl : ns.length ≤ 63)
    (k : ∀ (L : Addr) (zs : List Int) (HB : Hp), HB L = some (.lst (zs.map V.int)) → Same H HB → forR g tb { D with nx := u D } σ (Itl K L) HB) :
    tSeq (tFor (iList K (tOp rCat (tLst (tCons (tCall (spCellAt K) [] E0 (tCons (tVar 0) (tCons (tC (.int 0)) tNil))) tNil)) (tSl (rSlL K) (tVar 0) (tPart (tC (.int 1))) (tPart (tC (.int n)))))) g tb) u D σ H :=
  cells_it (R := forR g tb { D with nx := u D } σ) h0 hS hl k

theorem linesS_pos (wide : Int) (ws : List Str) : 0 < (linesS wide ws).length := by
  cases ws with
  | nil => simp [linesS]
  | cons w r =>
    show 0 < (tailLines wide (w :: r)).length
    rw [tail_cons]
    simp
theorem flat_split {α β : Type} (f : α → List β) {l : List α} {i : Nat} {a : α} (h : l[i]? = some a) : (l.map f).flatten = ((l.take i).map f).flatten ++ f a ++ ((l.drop (i + 1)).map f).flatten := by
  obtain ⟨h1, h2⟩ := List.getElem?_eq_some_iff.mp h
  have e : l = l.take i ++ (a :: l.drop (i + 1)) := by
    rw [← h2, ← List.drop_eq_getElem_cons h1, List.take_append_drop]
  calc (l.map f).flatten = ((l.take i ++ (a :: l.drop (i + 1))).map f).flatten := by rw [← e]
    _ = _ := by simp
theorem all_true : ∀ n : Nat, (List.replicate n true).all id = true
  | 0 => rfl
  | n + 1 => by rw [List.replicate_succ, List.all_cons, all_true n]; rfl
section
variable {P : Program} {w : World} {K : PySem.W.Frag} {mg : Str → Option Value} {base : Heap}
theorem ok_law {f : Addr} {fd : FuncData} (F : Fun K "law" "law" s_law f fd) (T : Txt K mg) : FnOk P w K mg base CX0 5 f fd ["_law_script"] (spLaw K) := by
  have O_cell_at := ok_cell_at (P := P) (w := w) (base := base) T
  have O_source := ok_source (P := P) (w := w) (base := base) T
  have O_text := ok_text (P := P) (w := w) (base := base) T
  have O_words := ok_words (P := P) (w := w) (base := base) T
  have O_width := ok_width (P := P) (w := w) (base := base) T
  have O_p_wrapped := ok_wrapped (P := P) (w := w) (base := base) T
  have O_part_right := ok_part_right (P := P) (w := w) (base := base) T
  refine F.ok sc_law (fun vs H Q E h => ?_) (fun cdv A outer s H vs Q E hr h => ?_)
  · obtain ⟨a, ns, rfl, _⟩ := h; rfl
  obtain ⟨a, ns, rfl, hS, hlen, k⟩ := h
  refine ⟨_, (pss_cons (ps_for PassesOwn.never rfl (pi_list (pe_op op_cat (pe_lst (pa_cons (callO O_cell_at (hr.mono (by decide)) (by rfl) (pa_cons (pv 0) (pa_cons pe_int pa_nil))) pa_nil)) (pe_slice sl_list (pv 0) (po_some pe_int) (po_some pe_int)))) (pg_name (i := 1) sc_law.nd rfl (by first | exact Or.inl rfl | exact Or.inr rfl))
      (pss_cons (ps_set (i := 2) sc_law.nd rfl (by first | exact Or.inl rfl | exact Or.inr rfl) (callO O_source (hr.mono (by decide)) (by rfl) (pa_cons (pv 1) pa_nil)))
      (pss_cons (ps_set (i := 3) sc_law.nd rfl (by first | exact Or.inl rfl | exact Or.inr rfl) (callO O_text (hr.mono (by decide)) (by rfl) (pa_cons (pv 2) (pa_cons pe_int pa_nil))))
      (pss_cons (ps_set (i := 4) sc_law.nd rfl (by first | exact Or.inl rfl | exact Or.inr rfl) (callO O_words (hr.mono (by decide)) (by rfl) (pa_cons (pv 3) pa_nil)))
      (pss_cons (ps_set (i := 5) sc_law.nd rfl (by first | exact Or.inl rfl | exact Or.inr rfl) (callO O_width (hr.mono (by decide)) (by rfl) (pa_cons (pv 2) (pa_cons (pv 4) pa_nil))))
      (pss_cons (ps_set (i := 6) sc_law.nd rfl (by first | exact Or.inl rfl | exact Or.inr rfl) (callO O_p_wrapped (hr.mono (by decide)) (by rfl) (pa_cons (pv 3) (pa_cons (pv 5) pa_nil))))
      (pss_cons (ps_if (PW.pt (pw_or (pt_not (pt_val (pe_callB call_isi (by rfl) T.m_isinstance (by decide +kernel) (pa_cons (pv 6) (pa_cons (pe_bltn (v := .ty "list") (by rfl) T.m_list (by decide +kernel) rfl) pa_nil))))) (pw_or1 (pt_not (pt_val (pe_callB (cr_all rfl) (by rfl) T.m_all (by decide +kernel) (pa_cons (pe_lc (own := [("_law_line", 7)]) (te := (tCB (rIsi K) (tCons (tVar 7) (tCons _ tNil)))) (by rfl) sc_law.nd (pi_list (pv 6)) (blkOk_by (own := [("_law_line", 7)]) (N := n_law) (sc := defScope s_law) (by decide +kernel)) (fun _ _ _ _ _ => (pg_name (i := 7) sc_law.nd rfl (by first | exact Or.inl rfl | exact Or.inr rfl))) (fun _ _ _ _ _ => pts_nil) (fun _ _ _ _ _ => (pe_callB call_isi (by rfl) T.m_isinstance (by decide +kernel) (pa_cons (pv 7) (pa_cons (pe_bltn (v := .ty "str") (by rfl) T.m_str (by decide +kernel) rfl) pa_nil))))) pa_nil)))))))
      (pss_one (ps_ret pe_bl))
      pss_nil)
      (pss_cons (ps_set (i := 8) sc_law.nd rfl (by first | exact Or.inl rfl | exact Or.inr rfl) pe_int)
      (pss_cons (ps_for PassesOwn.never rfl (pi_list (pv 4)) (pg_name (i := 9) sc_law.nd rfl (by first | exact Or.inl rfl | exact Or.inr rfl))
      (pss_cons (ps_set (i := 8) sc_law.nd rfl (by first | exact Or.inl rfl | exact Or.inr rfl) (callO O_part_right (hr.mono (by decide)) (by rfl) (pa_cons (pv 6) (pa_cons (pv 8) (pa_cons (pv 9) (pa_cons (pv 5) pa_nil))))))
      (pss_one (ps_if (pt_cmpR op_eq (pv 8) pe_int (nomark _))
      (pss_one (ps_ret pe_bl))
      pss_nil))))
      (pss_cons (ps_set (i := 10) sc_law.nd rfl (by first | exact Or.inl rfl | exact Or.inr rfl) (pe_callTy call_list_of (by rfl) T.m_list (by decide +kernel) (pa_cons (pv 6) pa_nil)))
      (pss_cons (ps_if (pt_cmpR op_ne (pv 8) (pe_callB call_len (by rfl) T.m_len (by decide +kernel) (pa_cons (pv 6) pa_nil)) (nomark _))
      (pss_one (ps_ret pe_bl))
      pss_nil)
      (pss_cons (ps_expr (pe_bm0 PySem.F.plainAttrs_list PySem.F.slot_list_clear PySem.F.type_list_clear mt_clear (pv 6)))
      (pss_one (ps_if (pt_cmpR (op_neD hr.units) (callO O_p_wrapped (hr.mono (by decide)) (by rfl) (pa_cons (pv 3) (pa_cons (pv 5) pa_nil))) (pv 10) (nomark _))
      (pss_one (ps_ret pe_bl))
      pss_nil))))))))))))))
      (pss_one (ps_ret pe_bl))), ?_⟩
  refine cells_for rfl hS hlen fun L zs HB hL sB => ?_
  refine for_list (K := K) (a := L) (xs := zs.map V.int) (fun i σ H2 => (∃ v1 v2 v3 v4 v5 v6 v7 v8 v9 v10, σ = [some (.ref a), v1, v2, v3, v4, v5, v6, v7, v8, v9, v10]) ∧ Same HB H2)
    ⟨⟨none, none, none, none, none, none, none, none, none, none, rfl⟩, .refl _⟩ (fun i σ H2 _ h2 => .of (h2.2 _ _ hL)) ?_ (fun σ H2 _ => k H2)
  rintro i y σ H2 hi ⟨⟨v1, v2, v3, v4, v5, v6, v7, v8, v9, v10, rfl⟩, sm⟩
  obtain ⟨z, rfl, _⟩ := int_at hi
  refine ⟨_, rfl, z, rfl, fun p H3 np s3 sm3 => ?_⟩
  refine ⟨_, rfl, p, 400, rfl, s3, fun x H4 hx okx s4 o4 => ?_⟩
  refine ⟨_, rfl, x, rfl, by omega, fun pa as H5 sm5 nP eP pr => ?_⟩
  have nPp : pa ≠ p := s4.ne_new nP
  have pr2 : Paired (fun a ws => a ≠ p ∧ strsAt H5 a ws) as (partsS x) := paired_same (fun b ws hb => ⟨s4.ne_new hb.1, hb.2.2⟩) pr
  refine ⟨_, rfl, _, rfl, p, pa, as, x, rfl, s4.same sm5, nPp, by omega, eP, pr2, fun wide H6 w0 s6 o6 => ?_⟩
  refine ⟨_, rfl, _, rfl, x, wide, rfl, by omega, w0, fun Ls H7 sm7 nLs eLs => ?_⟩
  have old6 : Same HB H6 := fun c o hc => by
    have n1 : c ≠ p := ne_of_none (sm _ _ hc) np
    exact o6 _ _ (sm5 _ _ (o4 _ _ (sm3 _ _ (sm _ _ hc)) n1)) n1
  have old7 : Same HB H7 := old6.trans sm7
  have eP7 : H7 pa = some (.lst (as.map V.ref)) := sm7 _ _ (o6 _ _ eP nPp)
  have pr7 : Paired (fun a ws => strsAt H7 a ws) as (partsS x) := paired_same (fun b ws hb => sm7 _ _ (o6 _ _ hb.2 hb.1)) pr2
  have okl : ∀ l ∈ wrappedS x wide, okS l := okx.wrapped
  -- isinstance
  refine ⟨_, rfl, _, _, _, _, true, rfl, .ty _, .base (.lst eLs), kit_ty (by decide +kernel), true, rfl, iteF ?_⟩
  refine ⟨_, rfl, Ls, rfl, ⟨_, .of eLs⟩, fun D nD => ?_⟩
  refine lc_list (K := K) (a := Ls) (xs := (wrappedS x wide).map V.str) (fun i H' => H' D = some (.lst ((List.replicate i true).map V.bl)) ∧ Same H7 H')
    ⟨upd_same, same_upd nD⟩ (fun i H' _ h => .of (h.2 _ _ eLs)) ?_ ?_
  · rintro i y H' hi ⟨eD, smD⟩
    obtain ⟨l, rfl, hl⟩ := str_at hi
    have hil : i < (wrappedS x wide).length := (List.getElem?_eq_some_iff.mp hl).1
    have wl := wrapped_len (x := x) (wide := wide) (by omega)
    refine ⟨rfl, yes_if ?_⟩
    refine ⟨_, rfl, _, _, _, _, true, rfl, .ty _, .base (.str l), kit_ty (by decide +kernel), _, eD, ?_, ?_, ?_⟩
    · rw [List.length_map, List.length_replicate]
      exact big (by omega)
    · rw [upd_same, List.replicate_succ', List.map_append]
      rfl
    · intro b o hb
      rw [upd_ne (ne_of_none hb nD)]
      exact smD _ _ hb
  rintro H8 ⟨eD, smD⟩
  refine ⟨D, _, rfl, .of eD, true, congrArg V.bl (all_true _), iteF ?_⟩
  -- part by part
  have eP8 := smD _ _ eP7
  have eL8 : H8 Ls = some (.lst ((wrappedS x wide).map V.str)) := smD _ _ eLs
  refine ⟨_, rfl, pa, rfl, ⟨_, .of eP8⟩, for_list (K := K) (a := pa) (xs := as.map V.ref) (fun i σ H' => (∃ v9, σ = [some (.ref a), some (.int z), some (.ref p), some (.str x), some (.ref pa), some (.int wide), some (.ref Ls), v7, some (.int ((((partsS x).take i).map (linesS wide)).flatten.length : Int)), v9, v10]) ∧ Same H8 H')
    ⟨⟨_, rfl⟩, .refl _⟩ (fun i σ H' _ h => .of (h.2 _ _ eP8)) ?_ ?_⟩
  · rintro i y σ H' hi ⟨⟨v9', rfl⟩, sm8⟩
    obtain ⟨b, rfl, hb⟩ := ref_at hi
    obtain ⟨ws, hws, eb⟩ := paired_get pr7 hb
    obtain ⟨d1, d2⟩ := (partsS_small (x := x) (by omega)).2 ws (List.mem_of_getElem? hws)
    have hsp : wrappedS x wide = (((partsS x).take i).map (linesS wide)).flatten ++ linesS wide ws ++ (((partsS x).drop (i + 1)).map (linesS wide)).flatten := flat_split (linesS wide) hws
    refine ⟨_, rfl, _, rfl, _, rfl, _, rfl, b, Ls, ws, (((partsS x).take i).map (linesS wide)).flatten, (((partsS x).drop (i + 1)).map (linesS wide)).flatten, wide, rfl, ?_, .of (sm8 _ _ (smD _ _ eb)), d1, ?_, ?_, fun H9 s9 => ?_⟩
    · rw [← hsp]
      exact .of (sm8 _ _ eL8)
    · intro w hw
      exact ⟨d2 w hw, okx.parts ws (List.mem_of_getElem? hws) w hw⟩
    · rw [← hsp]
      exact okl
    · have hp := linesS_pos wide ws
      refine ⟨_, rfl, rfl, _, rfl, ite2 (fun e => ?_) (fun _ => ?_)⟩
      · exfalso
        have e1 := V.int.inj (of_decide_eq_true e)
        omega
      · refine ⟨⟨some (.ref b), ?_⟩, sm8.trans s9⟩
        rw [flat_take_succ (linesS wide) _ _ _ hws, List.length_append]
        rfl
  rintro σ H9 ⟨⟨v9', rfl⟩, sm9⟩
  have efull : (((partsS x).take (as.map V.ref).length).map (linesS wide)).flatten = wrappedS x wide := by
    rw [List.take_of_length_le (by rw [List.length_map, pr.length]; exact Nat.le_refl _)]
    rfl
  rw [efull]
  have eL9 := sm9 _ _ eL8
  -- kept = list(lines)
  refine ⟨_, rfl, Ls, _, rfl, .inl (.of eL9), fun kp nk => ?_⟩
  have sk := same_upd (o := .lst ((wrappedS x wide).map V.str)) nk
  have ek : (upd H9 kp (.lst ((wrappedS x wide).map V.str))) kp = some (.lst ((wrappedS x wide).map V.str)) := upd_same
  generalize upd H9 kp (.lst ((wrappedS x wide).map V.str)) = H10 at sk ek ⊢
  have eL10 := sk _ _ eL9
  refine ⟨_, rfl, _, rfl, _, _, rfl, .inl ⟨_, .of eL10, rfl⟩, rfl, _, rfl, ?_⟩
  rw [decide_eq_true (by rw [List.length_map])]
  refine iteF ?_
  -- clear
  refine ⟨_, rfl, .inl ⟨rfl, _, .of eL10⟩, Ls, _, rfl, rfl, eL10, ?_⟩
  have nkL : kp ≠ Ls := (ne_of_none eL9 nk).symm
  have ek2 : (upd H10 Ls (.lst [])) kp = some (.lst ((wrappedS x wide).map V.str)) := by
    rw [upd_ne nkL]
    exact ek
  refine ⟨_, rfl, _, rfl, x, wide, rfl, by omega, w0, fun L2 H11 s11 nL2 eL2 => ?_⟩
  refine ⟨_, rfl, dat (wrappedS x wide), dat (wrappedS x wide), dp_strs (.of eL2), dp_strs (.of (s11 _ _ ek2)), shaped_strs okl, shaped_strs okl, _, rfl, ?_⟩
  rw [eqv_dat, decide_eq_true rfl]
  refine iteF ?_
  refine ⟨⟨_, _, _, _, _, _, _, _, _, _, rfl⟩, fun c o hc => ?_⟩
  have n1 : c ≠ Ls := ne_of_none (old6 _ _ hc) nLs
  refine s11 _ _ ?_
  rw [upd_ne n1]
  exact sk _ _ (sm9 _ _ (smD _ _ (old7 _ _ hc)))
end

theorem all_mk {l : PySem.W.OpenLaw} {w : World} {K : PySem.W.Frag} {h : Heap} {mg : Str → Option Value} {fa : Addr} (X : K.In h) (G : h.Ns mainGlobals mg) (hfa : mg "law" = some (.ref fa))
    {f0 f1 f2 f3 f4 f5 f6 f7 f8 f9 f10 f11 f12 f13 f14 f15 f16 : Addr} {od0 an0 od1 an1 od2 an2 od3 an3 od4 an4 od5 an5 od6 an6 od7 an7 od8 an8 od9 an9 od10 an10 od11 an11 od12 an12 od13 an13 od14 an14 od15 an15 od16 an16 : Option Addr} {sl0 sl1 sl2 sl3 sl4 sl5 sl6 sl7 sl8 sl9 sl10 sl11 sl12 sl13 sl14 sl15 sl16 : Array (Option Value)}
    {oc0 kV0 dc0 pm0 cd0 ct0 oc1 kV1 dc1 pm1 cd1 ct1 oc2 kV2 dc2 pm2 cd2 ct2 oc3 kV3 dc3 pm3 cd3 ct3 oc4 kV4 dc4 pm4 cd4 ct4 oc5 kV5 dc5 pm5 cd5 ct5 oc6 kV6 dc6 pm6 cd6 ct6 oc7 kV7 dc7 pm7 cd7 ct7 oc8 kV8 dc8 pm8 cd8 ct8 oc9 kV9 dc9 pm9 cd9 ct9 oc10 kV10 dc10 pm10 cd10 ct10 oc11 kV11 dc11 pm11 cd11 ct11 oc12 kV12 dc12 pm12 cd12 ct12 oc13 kV13 dc13 pm13 cd13 ct13 oc14 kV14 dc14 pm14 cd14 ct14 oc15 kV15 dc15 pm15 cd15 ct15 oc16 kV16 dc16 pm16 cd16 ct16 : Value}
    (a0 : PySem.W.nsIn K mainGlobals "is_whole" = some (some (.ref f0))) (l0 : K.lookup f0 = some ⟨oc0, od0, .func (PySem.W.fnOf "is_whole" "is_whole" (defArgs s_p_is_whole) (defBody s_p_is_whole) (defScope s_p_is_whole) .none kV0 dc0 pm0 an0 cd0 ct0), sl0⟩) (c0 : PySem.W.codeIn K cd0 "is_whole" = true) (k0 : PySem.W.keepIn K (.ref f0) = true)
    (a1 : PySem.W.nsIn K mainGlobals "is_count" = some (some (.ref f1))) (l1 : K.lookup f1 = some ⟨oc1, od1, .func (PySem.W.fnOf "is_count" "is_count" (defArgs s_p_is_count) (defBody s_p_is_count) (defScope s_p_is_count) .none kV1 dc1 pm1 an1 cd1 ct1), sl1⟩) (c1 : PySem.W.codeIn K cd1 "is_count" = true) (k1 : PySem.W.keepIn K (.ref f1) = true)
    (a2 : PySem.W.nsIn K mainGlobals "wrapped" = some (some (.ref f2))) (l2 : K.lookup f2 = some ⟨oc2, od2, .func (PySem.W.fnOf "wrapped" "wrapped" (defArgs s_p_wrapped) (defBody s_p_wrapped) (defScope s_p_wrapped) .none kV2 dc2 pm2 an2 cd2 ct2), sl2⟩) (c2 : PySem.W.codeIn K cd2 "wrapped" = true) (k2 : PySem.W.keepIn K (.ref f2) = true)
    (a3 : PySem.W.nsIn K mainGlobals "refuse_no_text" = some (some (.ref f3))) (l3 : K.lookup f3 = some ⟨oc3, od3, .func (PySem.W.fnOf "refuse_no_text" "refuse_no_text" (defArgs s_p_refuse_no_text) (defBody s_p_refuse_no_text) (defScope s_p_refuse_no_text) .none kV3 dc3 pm3 an3 cd3 ct3), sl3⟩) (c3 : PySem.W.codeIn K cd3 "refuse_no_text" = true) (k3 : PySem.W.keepIn K (.ref f3) = true)
    (a4 : PySem.W.nsIn K mainGlobals "parts_of" = some (some (.ref f4))) (l4 : K.lookup f4 = some ⟨oc4, od4, .func (PySem.W.fnOf "parts_of" "parts_of" (defArgs s_p_parts_of) (defBody s_p_parts_of) (defScope s_p_parts_of) .none kV4 dc4 pm4 an4 cd4 ct4), sl4⟩) (c4 : PySem.W.codeIn K cd4 "parts_of" = true) (k4 : PySem.W.keepIn K (.ref f4) = true)
    (a5 : PySem.W.nsIn K mainGlobals "lines_of" = some (some (.ref f5))) (l5 : K.lookup f5 = some ⟨oc5, od5, .func (PySem.W.fnOf "lines_of" "lines_of" (defArgs s_p_lines_of) (defBody s_p_lines_of) (defScope s_p_lines_of) .none kV5 dc5 pm5 an5 cd5 ct5), sl5⟩) (c5 : PySem.W.codeIn K cd5 "lines_of" = true) (k5 : PySem.W.keepIn K (.ref f5) = true)
    (a6 : PySem.W.nsIn K mainGlobals "_law_cell_at" = some (some (.ref f6))) (l6 : K.lookup f6 = some ⟨oc6, od6, .func (PySem.W.fnOf "_law_cell_at" "_law_cell_at" (defArgs s_cell_at) (defBody s_cell_at) (defScope s_cell_at) .none kV6 dc6 pm6 an6 cd6 ct6), sl6⟩) (c6 : PySem.W.codeIn K cd6 "_law_cell_at" = true) (k6 : PySem.W.keepIn K (.ref f6) = true)
    (a7 : PySem.W.nsIn K mainGlobals "_law_mixed" = some (some (.ref f7))) (l7 : K.lookup f7 = some ⟨oc7, od7, .func (PySem.W.fnOf "_law_mixed" "_law_mixed" (defArgs s_mixed) (defBody s_mixed) (defScope s_mixed) .none kV7 dc7 pm7 an7 cd7 ct7), sl7⟩) (c7 : PySem.W.codeIn K cd7 "_law_mixed" = true) (k7 : PySem.W.keepIn K (.ref f7) = true)
    (a8 : PySem.W.nsIn K mainGlobals "_law_source" = some (some (.ref f8))) (l8 : K.lookup f8 = some ⟨oc8, od8, .func (PySem.W.fnOf "_law_source" "_law_source" (defArgs s_source) (defBody s_source) (defScope s_source) .none kV8 dc8 pm8 an8 cd8 ct8), sl8⟩) (c8 : PySem.W.codeIn K cd8 "_law_source" = true) (k8 : PySem.W.keepIn K (.ref f8) = true)
    (a9 : PySem.W.nsIn K mainGlobals "_law_next" = some (some (.ref f9))) (l9 : K.lookup f9 = some ⟨oc9, od9, .func (PySem.W.fnOf "_law_next" "_law_next" (defArgs s_next) (defBody s_next) (defScope s_next) .none kV9 dc9 pm9 an9 cd9 ct9), sl9⟩) (c9 : PySem.W.codeIn K cd9 "_law_next" = true) (k9 : PySem.W.keepIn K (.ref f9) = true)
    (a10 : PySem.W.nsIn K mainGlobals "_law_word" = some (some (.ref f10))) (l10 : K.lookup f10 = some ⟨oc10, od10, .func (PySem.W.fnOf "_law_word" "_law_word" (defArgs s_word) (defBody s_word) (defScope s_word) .none kV10 dc10 pm10 an10 cd10 ct10), sl10⟩) (c10 : PySem.W.codeIn K cd10 "_law_word" = true) (k10 : PySem.W.keepIn K (.ref f10) = true)
    (a11 : PySem.W.nsIn K mainGlobals "_law_text" = some (some (.ref f11))) (l11 : K.lookup f11 = some ⟨oc11, od11, .func (PySem.W.fnOf "_law_text" "_law_text" (defArgs s_text) (defBody s_text) (defScope s_text) .none kV11 dc11 pm11 an11 cd11 ct11), sl11⟩) (c11 : PySem.W.codeIn K cd11 "_law_text" = true) (k11 : PySem.W.keepIn K (.ref f11) = true)
    (a12 : PySem.W.nsIn K mainGlobals "_law_words" = some (some (.ref f12))) (l12 : K.lookup f12 = some ⟨oc12, od12, .func (PySem.W.fnOf "_law_words" "_law_words" (defArgs s_words) (defBody s_words) (defScope s_words) .none kV12 dc12 pm12 an12 cd12 ct12), sl12⟩) (c12 : PySem.W.codeIn K cd12 "_law_words" = true) (k12 : PySem.W.keepIn K (.ref f12) = true)
    (a13 : PySem.W.nsIn K mainGlobals "_law_width" = some (some (.ref f13))) (l13 : K.lookup f13 = some ⟨oc13, od13, .func (PySem.W.fnOf "_law_width" "_law_width" (defArgs s_width) (defBody s_width) (defScope s_width) .none kV13 dc13 pm13 an13 cd13 ct13), sl13⟩) (c13 : PySem.W.codeIn K cd13 "_law_width" = true) (k13 : PySem.W.keepIn K (.ref f13) = true)
    (a14 : PySem.W.nsIn K mainGlobals "_law_line_right" = some (some (.ref f14))) (l14 : K.lookup f14 = some ⟨oc14, od14, .func (PySem.W.fnOf "_law_line_right" "_law_line_right" (defArgs s_line_right) (defBody s_line_right) (defScope s_line_right) .none kV14 dc14 pm14 an14 cd14 ct14), sl14⟩) (c14 : PySem.W.codeIn K cd14 "_law_line_right" = true) (k14 : PySem.W.keepIn K (.ref f14) = true)
    (a15 : PySem.W.nsIn K mainGlobals "_law_part_right" = some (some (.ref f15))) (l15 : K.lookup f15 = some ⟨oc15, od15, .func (PySem.W.fnOf "_law_part_right" "_law_part_right" (defArgs s_part_right) (defBody s_part_right) (defScope s_part_right) .none kV15 dc15 pm15 an15 cd15 ct15), sl15⟩) (c15 : PySem.W.codeIn K cd15 "_law_part_right" = true) (k15 : PySem.W.keepIn K (.ref f15) = true)
    (a16 : PySem.W.nsIn K mainGlobals "law" = some (some (.ref f16))) (l16 : K.lookup f16 = some ⟨oc16, od16, .func (PySem.W.fnOf "law" "law" (defArgs s_law) (defBody s_law) (defScope s_law) .none kV16 dc16 pm16 an16 cd16 ct16), sl16⟩) (c16 : PySem.W.codeIn K cd16 "law" = true) (k16 : PySem.W.keepIn K (.ref f16) = true)
    (z_isinstance : PySem.W.nsIn K mainGlobals "isinstance" = some none)
    (z_int : PySem.W.nsIn K mainGlobals "int" = some none)
    (z_bool : PySem.W.nsIn K mainGlobals "bool" = some none)
    (z_str : PySem.W.nsIn K mainGlobals "str" = some none)
    (z_len : PySem.W.nsIn K mainGlobals "len" = some none)
    (z_range : PySem.W.nsIn K mainGlobals "range" = some none)
    (z_max : PySem.W.nsIn K mainGlobals "max" = some none)
    (z_list : PySem.W.nsIn K mainGlobals "list" = some none)
    (z_all : PySem.W.nsIn K mainGlobals "all" = some none) :
    ∃ fd : FuncData, (∀ (s : Shared) (v : Value), BindsTo s fd ⟨[v], []⟩ [("_law_script", v)]) ∧ ∀ base : Heap, K.In base → base.Ns mainGlobals mg → FnOk l.prog w K mg base CX0 5 fa fd ["_law_script"] (spLaw K) := by
  have e := hfa.symm.trans (PySem.W.mg_of X G a16)
  cases e
  have H0 : Has K mg "is_whole" s_p_is_whole ["thing"] := has_mk (fun_mk (st := s_p_is_whole) l0 c0 k0) (PySem.W.mg_of X G a0) (fun _ _ _ _ _ _ us hl => match us, hl with | [_], _ => rfl)
  have H1 : Has K mg "is_count" s_p_is_count ["thing"] := has_mk (fun_mk (st := s_p_is_count) l1 c1 k1) (PySem.W.mg_of X G a1) (fun _ _ _ _ _ _ us hl => match us, hl with | [_], _ => rfl)
  have H2 : Has K mg "wrapped" s_p_wrapped ["text", "wide"] := has_mk (fun_mk (st := s_p_wrapped) l2 c2 k2) (PySem.W.mg_of X G a2) (fun _ _ _ _ _ _ us hl => match us, hl with | [_, _], _ => rfl)
  have H3 : Has K mg "refuse_no_text" s_p_refuse_no_text ["thing"] := has_mk (fun_mk (st := s_p_refuse_no_text) l3 c3 k3) (PySem.W.mg_of X G a3) (fun _ _ _ _ _ _ us hl => match us, hl with | [_], _ => rfl)
  have H4 : Has K mg "parts_of" s_p_parts_of ["text"] := has_mk (fun_mk (st := s_p_parts_of) l4 c4 k4) (PySem.W.mg_of X G a4) (fun _ _ _ _ _ _ us hl => match us, hl with | [_], _ => rfl)
  have H5 : Has K mg "lines_of" s_p_lines_of ["words", "wide"] := has_mk (fun_mk (st := s_p_lines_of) l5 c5 k5) (PySem.W.mg_of X G a5) (fun _ _ _ _ _ _ us hl => match us, hl with | [_, _], _ => rfl)
  have H6 : Has K mg "_law_cell_at" s_cell_at ["_law_script", "_law_k"] := has_mk (fun_mk (st := s_cell_at) l6 c6 k6) (PySem.W.mg_of X G a6) (fun _ _ _ _ _ _ us hl => match us, hl with | [_, _], _ => rfl)
  have H7 : Has K mg "_law_mixed" s_mixed ["_law_cell", "_law_k"] := has_mk (fun_mk (st := s_mixed) l7 c7 k7) (PySem.W.mg_of X G a7) (fun _ _ _ _ _ _ us hl => match us, hl with | [_, _], _ => rfl)
  have H8 : Has K mg "_law_source" s_source ["_law_cell"] := has_mk (fun_mk (st := s_source) l8 c8 k8) (PySem.W.mg_of X G a8) (fun _ _ _ _ _ _ us hl => match us, hl with | [_], _ => rfl)
  have H9 : Has K mg "_law_next" s_next ["_law_source_here", "_law_many"] := has_mk (fun_mk (st := s_next) l9 c9 k9) (PySem.W.mg_of X G a9) (fun _ _ _ _ _ _ us hl => match us, hl with | [_, _], _ => rfl)
  have H10 : Has K mg "_law_word" s_word ["_law_source_here"] := has_mk (fun_mk (st := s_word) l10 c10 k10) (PySem.W.mg_of X G a10) (fun _ _ _ _ _ _ us hl => match us, hl with | [_], _ => rfl)
  have H11 : Has K mg "_law_text" s_text ["_law_source_here", "_law_most"] := has_mk (fun_mk (st := s_text) l11 c11 k11) (PySem.W.mg_of X G a11) (fun _ _ _ _ _ _ us hl => match us, hl with | [_, _], _ => rfl)
  have H12 : Has K mg "_law_words" s_words ["_law_text_here"] := has_mk (fun_mk (st := s_words) l12 c12 k12) (PySem.W.mg_of X G a12) (fun _ _ _ _ _ _ us hl => match us, hl with | [_], _ => rfl)
  have H13 : Has K mg "_law_width" s_width ["_law_source_here", "_law_parts"] := has_mk (fun_mk (st := s_width) l13 c13 k13) (PySem.W.mg_of X G a13) (fun _ _ _ _ _ _ us hl => match us, hl with | [_, _], _ => rfl)
  have H14 : Has K mg "_law_line_right" s_line_right ["_law_line", "_law_words_here", "_law_wide"] := has_mk (fun_mk (st := s_line_right) l14 c14 k14) (PySem.W.mg_of X G a14) (fun _ _ _ _ _ _ us hl => match us, hl with | [_, _, _], _ => rfl)
  have H15 : Has K mg "_law_part_right" s_part_right ["_law_lines", "_law_at", "_law_words_here", "_law_wide"] := has_mk (fun_mk (st := s_part_right) l15 c15 k15) (PySem.W.mg_of X G a15) (fun _ _ _ _ _ _ us hl => match us, hl with | [_, _, _, _], _ => rfl)
  have T : Txt K mg := ⟨H0, H1, H2, H3, H4, H5, H6, H7, H8, H9, H10, H11, H12, H13, H14, H15, PySem.W.mg_none_of X G z_isinstance, PySem.W.mg_none_of X G z_int, PySem.W.mg_none_of X G z_bool, PySem.W.mg_none_of X G z_str, PySem.W.mg_none_of X G z_len, PySem.W.mg_none_of X G z_range, PySem.W.mg_none_of X G z_max, PySem.W.mg_none_of X G z_list, PySem.W.mg_none_of X G z_all⟩
  exact ⟨_, fun s v => .of_eq rfl, fun base _ _ => ok_law (fun_mk (st := s_law) l16 c16 k16) T⟩
end K11
open PySem PySem.W PyProof.Rows
set_option maxRecDepth 100000 in
set_option maxHeartbeats 0 in
theorem PySem.Challenge.cw_nestlaid_k11_wrapped_line_by_line_holds : PySem.Challenge.rw_nestlaid_k11_wrapped_line_by_line.Holds := by
  w_on; o_law; k_head; (case hw => w_witness2)
  k_fill
  refine L2.walk_of (l := PySem.Challenge.rw_nestlaid_k11_wrapped_line_by_line) (n := 63) (k := 5) (x := "_law_script") (CX := fun _ => L2.CX0) (sp := fun w => K11.spLaw _) rfl (by decide) rfl ⟨rfl, by decide, by decide⟩ (fun w h Y => PySem.W.kIn_of Y) ?F (fun _ _ a ns hl _ hS => ⟨a, ns, rfl, hS, hl, fun _ => rfl⟩) (fun _ _ _ _ _ h => h)
  case F =>
    intro w mg fa h KX G hmg
    refine' K11.all_mk KX G hmg ?a0 ?l0 ?c0 ?k0 ?a1 ?l1 ?c1 ?k1 ?a2 ?l2 ?c2 ?k2 ?a3 ?l3 ?c3 ?k3 ?a4 ?l4 ?c4 ?k4 ?a5 ?l5 ?c5 ?k5 ?a6 ?l6 ?c6 ?k6 ?a7 ?l7 ?c7 ?k7 ?a8 ?l8 ?c8 ?k8 ?a9 ?l9 ?c9 ?k9 ?a10 ?l10 ?c10 ?k10 ?a11 ?l11 ?c11 ?k11 ?a12 ?l12 ?c12 ?k12 ?a13 ?l13 ?c13 ?k13 ?a14 ?l14 ?c14 ?k14 ?a15 ?l15 ?c15 ?k15 ?a16 ?l16 ?c16 ?k16 ?z_isinstance ?z_int ?z_bool ?z_str ?z_len ?z_range ?z_max ?z_list ?z_all
    (case a0 => k_is); (case l0 => k_is); (case c0 => k_is); (case k0 => k_is)
    (case a1 => k_is); (case l1 => k_is); (case c1 => k_is); (case k1 => k_is)
    (case a2 => k_is); (case l2 => k_is); (case c2 => k_is); (case k2 => k_is)
    (case a3 => k_is); (case l3 => k_is); (case c3 => k_is); (case k3 => k_is)
    (case a4 => k_is); (case l4 => k_is); (case c4 => k_is); (case k4 => k_is)
    (case a5 => k_is); (case l5 => k_is); (case c5 => k_is); (case k5 => k_is)
    (case a6 => k_is); (case l6 => k_is); (case c6 => k_is); (case k6 => k_is)
    (case a7 => k_is); (case l7 => k_is); (case c7 => k_is); (case k7 => k_is)
    (case a8 => k_is); (case l8 => k_is); (case c8 => k_is); (case k8 => k_is)
    (case a9 => k_is); (case l9 => k_is); (case c9 => k_is); (case k9 => k_is)
    (case a10 => k_is); (case l10 => k_is); (case c10 => k_is); (case k10 => k_is)
    (case a11 => k_is); (case l11 => k_is); (case c11 => k_is); (case k11 => k_is)
    (case a12 => k_is); (case l12 => k_is); (case c12 => k_is); (case k12 => k_is)
    (case a13 => k_is); (case l13 => k_is); (case c13 => k_is); (case k13 => k_is)
    (case a14 => k_is); (case l14 => k_is); (case c14 => k_is); (case k14 => k_is)
    (case a15 => k_is); (case l15 => k_is); (case c15 => k_is); (case k15 => k_is)
    (case a16 => k_is); (case l16 => k_is); (case c16 => k_is); (case k16 => k_is)
    (case z_isinstance => k_is); (case z_int => k_is); (case z_bool => k_is); (case z_str => k_is)
    (case z_len => k_is); (case z_range => k_is); (case z_max => k_is); (case z_list => k_is)
    (case z_all => k_is)
