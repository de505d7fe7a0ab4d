import PyProof.Rows.All
import Wide.All
import OpenK.AllK
import Wide.FinOn
import HandS.ForMost
import HandS.ForExc
import HandS.Wide
import HandS.Defaults
import HandS.IsInst
import HandS.FStr
import PySem.Challenge.RW_nestlaid_k12_whole_no_fewer_lines
set_option Elab.async false
set_option linter.all false
set_option maxRecDepth 100000
set_option maxHeartbeats 4000000

namespace K12
open PySem PySem.Spec PyProof.Rows L2
def topS (i : Nat) : Stmt := PySem.Challenge.pw_nestlaid_k12_whole_no_fewer_lines.main.body.getD i (.Pass ⟨0, 0, 0, 0⟩)
abbrev s_p_is_whole : Stmt := topS 5
abbrev s_p_is_count : Stmt := topS 6
abbrev s_p_wrapped : Stmt := topS 8
abbrev s_p_refuse_no_text : Stmt := topS 9
abbrev s_p_parts_of : Stmt := topS 10
abbrev s_p_lines_of : Stmt := topS 11
abbrev s_cell_at : Stmt := topS 13
abbrev s_mixed : Stmt := topS 14
abbrev s_source : Stmt := topS 15
abbrev s_next : Stmt := topS 16
abbrev s_word : Stmt := topS 17
abbrev s_text : Stmt := topS 18
abbrev s_words : Stmt := topS 19
abbrev s_fit : Stmt := topS 20
abbrev s_broken : Stmt := topS 21
abbrev s_told : Stmt := topS 22
abbrev s_part_right : Stmt := topS 23
abbrev s_law : Stmt := topS 24
abbrev n_p_is_whole : List Str := ["thing"]
theorem sc_p_is_whole : FnScope n_p_is_whole ["thing"] (defScope s_p_is_whole) := ⟨rfl, rfl, rfl, by decide +kernel, rfl, by decide +kernel, by decide +kernel⟩
abbrev n_p_is_count : List Str := ["thing"]
theorem sc_p_is_count : FnScope n_p_is_count ["thing"] (defScope s_p_is_count) := ⟨rfl, rfl, rfl, by decide +kernel, rfl, by decide +kernel, by decide +kernel⟩
abbrev n_p_wrapped : List Str := ["text", "wide", "lines", "words"]
theorem sc_p_wrapped : FnScope n_p_wrapped ["text", "wide"] (defScope s_p_wrapped) := ⟨rfl, rfl, rfl, by decide +kernel, rfl, by decide +kernel, by decide +kernel⟩
abbrev n_p_refuse_no_text : List Str := ["thing"]
theorem sc_p_refuse_no_text : FnScope n_p_refuse_no_text ["thing"] (defScope s_p_refuse_no_text) := ⟨rfl, rfl, rfl, by decide +kernel, rfl, by decide +kernel, by decide +kernel⟩
abbrev n_p_parts_of : List Str := ["text", "word", "part"]
theorem sc_p_parts_of : FnScope n_p_parts_of ["text"] (defScope s_p_parts_of) := ⟨rfl, rfl, rfl, by decide +kernel, rfl, by decide +kernel, by decide +kernel⟩
abbrev n_p_lines_of : List Str := ["words", "wide", "lines", "word", "longer"]
theorem sc_p_lines_of : FnScope n_p_lines_of ["words", "wide"] (defScope s_p_lines_of) := ⟨rfl, rfl, rfl, by decide +kernel, rfl, by decide +kernel, by decide +kernel⟩
abbrev n_cell_at : List Str := ["_law_script", "_law_k"]
theorem sc_cell_at : FnScope n_cell_at ["_law_script", "_law_k"] (defScope s_cell_at) := ⟨rfl, rfl, rfl, by decide +kernel, rfl, by decide +kernel, by decide +kernel⟩
abbrev n_mixed : List Str := ["_law_cell", "_law_k", "_law_low"]
theorem sc_mixed : FnScope n_mixed ["_law_cell", "_law_k"] (defScope s_mixed) := ⟨rfl, rfl, rfl, by decide +kernel, rfl, by decide +kernel, by decide +kernel⟩
abbrev n_source : List Str := ["_law_cell"]
theorem sc_source : FnScope n_source ["_law_cell"] (defScope s_source) := ⟨rfl, rfl, rfl, by decide +kernel, rfl, by decide +kernel, by decide +kernel⟩
abbrev n_next : List Str := ["_law_source_here", "_law_many", "_law_found"]
theorem sc_next : FnScope n_next ["_law_source_here", "_law_many"] (defScope s_next) := ⟨rfl, rfl, rfl, by decide +kernel, rfl, by decide +kernel, by decide +kernel⟩
abbrev n_word : List Str := ["_law_source_here", "_law_some", "_law_many", "_law_first", "_law_step", "_law_k"]
theorem sc_word : FnScope n_word ["_law_source_here"] (defScope s_word) := ⟨rfl, rfl, rfl, by decide +kernel, rfl, by decide +kernel, by decide +kernel⟩
abbrev n_text : List Str := ["_law_source_here", "_law_most", "_law_found", "_law_k", "_law_way"]
theorem sc_text : FnScope n_text ["_law_source_here", "_law_most"] (defScope s_text) := ⟨rfl, rfl, rfl, by decide +kernel, rfl, by decide +kernel, by decide +kernel⟩
abbrev n_words : List Str := ["_law_text_here", "_law_found", "_law_word_here", "_law_sign"]
theorem sc_words : FnScope n_words ["_law_text_here"] (defScope s_words) := ⟨rfl, rfl, rfl, by decide +kernel, rfl, by decide +kernel, by decide +kernel⟩
abbrev n_fit : List Str := ["_law_words_here", "_law_wide", "_law_many"]
theorem sc_fit : FnScope n_fit ["_law_words_here", "_law_wide"] (defScope s_fit) := ⟨rfl, rfl, rfl, by decide +kernel, rfl, by decide +kernel, by decide +kernel⟩
abbrev n_broken : List Str := ["_law_source_here", "_law_words_here", "_law_wide", "_law_found", "_law_at", "_law_most"]
theorem sc_broken : FnScope n_broken ["_law_source_here", "_law_words_here", "_law_wide"] (defScope s_broken) := ⟨rfl, rfl, rfl, by decide +kernel, rfl, by decide +kernel, by decide +kernel⟩
abbrev n_told : List Str := ["_law_lines", "_law_words_here", "_law_found", "_law_many"]
theorem sc_told : FnScope n_told ["_law_lines", "_law_words_here"] (defScope s_told) := ⟨rfl, rfl, rfl, by decide +kernel, rfl, by decide +kernel, by decide +kernel⟩
abbrev n_part_right : List Str := ["_law_source_here", "_law_lines", "_law_words_here", "_law_wide", "_law_told_here", "_law_k", "_law_other", "_law_many", "_law_known"]
theorem sc_part_right : FnScope n_part_right ["_law_source_here", "_law_lines", "_law_words_here", "_law_wide"] (defScope s_part_right) := ⟨rfl, rfl, rfl, by decide +kernel, rfl, by decide +kernel, by decide +kernel⟩
abbrev n_law : List Str := ["_law_script", "_law_cell", "_law_source_here", "_law_space", "_law_text_here", "_law_parts", "_law_long", "_law_word_here", "_law_words_here", "_law_wide", "_law_lines", "_law_many"]
theorem sc_law : FnScope n_law ["_law_script"] (defScope s_law) := ⟨rfl, rfl, rfl, by decide +kernel, rfl, by decide +kernel, by decide +kernel⟩
/-! ### what is known of a def of the top, and of a def that keeps its promise -/
structure Has (K : PySem.W.Frag) (mg : Str → Option Value) (x : Str) (st : Stmt) (ps : List Str) : Prop where
  ex : ∃ f fd, Fun K x x st f fd ∧ mg x = some (.ref f) ∧ Binds K fd ps []
structure Ok (P : Program) (w : World) (K : PySem.W.Frag) (mg : Str → Option Value) (base : Heap) (C : CXT) (x : Str) (st : Stmt) (k : Nat) (ps : List Str) (sp : Sp) : Prop where
  ex : ∃ f fd, Fun K x x st f fd ∧ FnOk P w K mg base C k f fd ps sp ∧ mg x = some (.ref f) ∧ Binds K fd ps []
section
variable {P : Program} {w : World} {K : PySem.W.Frag} {mg : Str → Option Value} {base : Heap} {x : Str} {st : Stmt} {ps N : List Str} {k : Nat} {sp : Sp}
theorem has_mk {f : Addr} {fd : FuncData} (F : Fun K x x st f fd) (g : mg x = some (.ref f))
    (h : ∀ (kV doc pm : Value) (an : Option Addr) (cdv ct : Value) (us : List Value), us.length = ps.length → bindArgs (PySem.W.fnOf x x (defArgs st) (defBody st) (defScope st) .none kV doc pm an cdv ct) ⟨us, []⟩ = pure (ps.zip us)) : Has K mg x st ps :=
  ⟨f, fd, F, g, F.binds h⟩
theorem Has.ok (D : Has K mg x st ps) (S : FnScope N ps (defScope st)) (len : ∀ vs H Q E, sp vs H Q E → vs.length = ps.length)
    (hbody : ∀ (f : Addr) (cdv : Value) (A : Around) (outer : List Env) (s : Shared) (H : Hp) (vs : List V) (Q : VK) (E : XK), Room k (A.deeper (envOfC x (defScope st) s.heap.objs.size f cdv)) → sp vs H Q E →
      ∃ t, PSs (cxOf CX0 P w K mg base N x (defScope st) f cdv A outer s H E).nox (defBody st) t ∧ t { nx := fun _ H' => Q .non H', rt := Q } (start N vs) H) : Ok P w K mg base CX0 x st (k + 1) ps sp := by
  obtain ⟨f, fd, F, g, b⟩ := D
  exact ⟨f, fd, F, F.ok S len (hbody f), g, b⟩
end
section
variable {X : Cx} {x : Str} {st : Stmt} {ps ks : List Str} {k : Nat} {sp : Sp} {e : Expr} {es : List Expr} {kws : List Keyword} {t tk : TA} {p pos : Pos} {g : List Value → List Value → List Value} {gV : List V → List V → List V}
theorem callO (O : Ok X.prog X.w X.K X.mg X.base CX0 x st k ps sp) (hr : Room k X.A) (hg : Gl X x) (ha : PA X (e :: es) t) (hdb : (x == ("__debug__" : Str)) = false := by decide) (he : starEach (e :: es) X.env = (false, eval e X.env) :: starEach es X.env := by rfl) (hpl : (backTo pos (starEach es X.env)).any (·.1) = false := by rfl) :
    PE X (.Call (.Name x p) (e :: es) [] pos) (tCall sp [] E0 t) := by
  obtain ⟨f, fd, F, G, m, b⟩ := O
  exact pe_call G hr hg m F.kp b .nil pass0 ha hdb he hpl
/-- how a call by keywords alone binds -/
def KwB (x : Str) (st : Stmt) (ps ks : List Str) (g : List Value → List Value → List Value) : Prop :=
  ∀ (kV doc pm : Value) (an : Option Addr) (cdv ct : Value) (ws : List Value), ws.length = ks.length → bindArgs (PySem.W.fnOf x x (defArgs st) (defBody st) (defScope st) .none kV doc pm an cdv ct) ⟨[], ks.zip ws⟩ = pure (ps.zip (g [] ws))
theorem kbn_of {K : PySem.W.Frag} {f : Addr} {fd : FuncData} (F : Fun K x x st f fd) (h : KwB x st ps ks g) (rel : ∀ {vs : List V} {us : List Value} {zs : List V} {ws : List Value}, Vals vs us → Vals zs ws → Vals (gV vs zs) (g us ws)) : KBn K fd ps 0 ks g gV := by
  obtain ⟨oc, od, kV, doc, pm, an, cdv, ct, osl, rfl, lk, hcd⟩ := F.ex
  refine ⟨fun s us ws _ h1 h2 => ?_, rel⟩
  obtain rfl : us = [] := List.eq_nil_of_length_eq_zero h1
  exact .of_eq (h kV doc pm an cdv ct ws h2)
/-- f(k = v, ..) -/
theorem callO_kw (O : Ok X.prog X.w X.K X.mg X.base CX0 x st k ps sp) (h : KwB x st ps ks g) (rel : ∀ {vs : List V} {us : List Value} {zs : List V} {ws : List Value}, Vals vs us → Vals zs ws → Vals (gV vs zs) (g us ws)) (hr : Room k X.A) (hg : Gl X x) (hkw : PK X kws tk)
    (hall : (backToKw pos (keywordEach kws X.env)).all (·.1.isSome) = true := by rfl) (hks : (backToKw pos (keywordEach kws X.env)).filterMap (·.1) = ks := by rfl) (hdb : (x == ("__debug__" : Str)) = false := by decide)
    (hpl : ((backTo pos (starEach [] X.env)).any (·.1) || (backToKw pos (keywordEach kws X.env)).any (·.1.isNone)) = false := by rfl) :
    PE X (.Call (.Name x p) [] kws pos) (tCallN 0 ks.length sp gV E0 tNil tk) := by
  obtain ⟨f, fd, F, G, m, b⟩ := O
  refine ⟨fun pins s σ H Q I h0 => ?_⟩
  refine wpAny_Call_Name_kw (ld_glob I hg m ?_ hdb)
  refine PySem.W.callWith_KW0 (h₀ := X.base) I.ok.mod.kin F.kp hall ?_ hpl
  refine thn (hkw.run pos pins s σ H _ I h0) fun ws s2 ⟨zs, H2, I2, rz, l1, l2, q2⟩ => ⟨I2.kIn, ?_⟩
  rw [hks]
  exact run_fnN (us := []) (vs := []) G hr (kbn_of F h rel) pass0 I2 .nil rz rfl l2 q2
end
/-! ### heaps -/
/-- all but p is as it was -/
def Off (p : Addr) (H H' : Hp) : Prop := ∀ b o, H b = some o → b ≠ p → H' b = some o
theorem Off.refl {p : Addr} {H : Hp} : Off p H H := fun _ _ h _ => h
theorem Off.trans {p : Addr} {H H1 H2 : Hp} (a : Off p H H1) (b : Off p H1 H2) : Off p H H2 := fun c o h n => b c o (a c o h n) n
theorem Off.of {p : Addr} {H H' : Hp} (s : Same H H') : Off p H H' := fun b o h _ => s b o h
theorem off_upd {p : Addr} {H : Hp} {o : HO} : Off p H (upd H p o) := fun b o' h n => by rw [upd_ne n]; exact h
theorem same_upd {H : Hp} {p : Addr} {o : HO} (h : H p = none) : Same H (upd H p o) := fun b x e => by
  rw [upd_ne (ne_of_none e h)]
  exact e
theorem off_new {p q : Addr} {H : Hp} {o : HO} (h : H q = none) : Off p H (upd H q o) := .of (same_upd h)
theorem Off.seq {K : PySem.W.Frag} {p : Addr} {H H' : Hp} {a : Addr} {xs : List V} (e : Off p H H') (n : a ≠ p) (h : SqL K H a xs) : SqL K H' a xs := by
  rcases h with (h | ⟨o, h⟩) | h
  · exact .inl (.inl (e _ _ h n))
  · exact .inl (.inr ⟨o, e _ _ h n⟩)
  · exact .inr h
theorem Off.ne {p a : Addr} {H H' : Hp} {o o' : HO} (h : H a = some o) (n : H p = none) : a ≠ p := ne_of_none h n
theorem atI_mem {α : Type} {xs : List α} {i : Int} (h0 : 0 ≤ i) (h1 : i < (xs.length : Int)) : ∃ v, v ∈ xs ∧ atI xs i = some v := by
  have h2 : i.toNat < xs.length := by omega
  refine ⟨xs[i.toNat], List.getElem_mem h2, ?_⟩
  have h3 := atI_nat (xs := xs) (j := i.toNat) (v := xs[i.toNat]) (List.getElem?_eq_getElem h2)
  rw [show ((i.toNat : Nat) : Int) = i by omega] at h3
  exact h3
theorem atI_at {α : Type} {xs : List α} {i : Int} (h0 : 0 ≤ i) (h1 : i < (xs.length : Int)) : ∃ (j : Nat) (v : α), (j : Int) = i ∧ xs[j]? = some v ∧ atI xs i = some v := by
  have h2 : i.toNat < xs.length := by omega
  have h3 := atI_nat (xs := xs) (j := i.toNat) (v := xs[i.toNat]) (List.getElem?_eq_getElem h2)
  rw [show ((i.toNat : Nat) : Int) = i by omega] at h3
  exact ⟨i.toNat, _, by omega, List.getElem?_eq_getElem h2, h3⟩
theorem int_at {ns : List Int} {i : Nat} {y : V} (h : (ns.map V.int)[i]? = some y) : ∃ z, y = V.int z ∧ ns[i]? = some z := by
  rw [List.getElem?_map] at h
  cases e : ns[i]? with
  | none =>
    rw [e] at h
    cases h
  | some z =>
    rw [e] at h
    exact ⟨z, (Option.some.inj h).symm, rfl⟩
theorem cut_ints (ns : List Int) (lo hi : Option Int) : ∃ ms : List Int, ms.length ≤ ns.length ∧ cutV (ns.map V.int) lo hi = ms.map V.int := by
  unfold cutV
  rw [← List.map_drop, ← List.map_take]
  exact ⟨_, by rw [List.length_take, List.length_drop]; omega, rfl⟩
theorem yes_if {σ : L2.St} {H : Hp} {A B : Hp → Prop} (h : A H) : tYes σ H (fun b H3 => if b = true then A H3 else B H3) := by
  show if true = true then A H else B H
  exact iteT h

structure Txt (K : PySem.W.Frag) (mg : Str → Option Value) : Prop where
  h_p_is_whole : Has K mg "is_whole" s_p_is_whole ["thing"]
  h_p_is_count : Has K mg "is_count" s_p_is_count ["thing"]
  h_p_wrapped : Has K mg "wrapped" s_p_wrapped ["text", "wide"]
  h_p_refuse_no_text : Has K mg "refuse_no_text" s_p_refuse_no_text ["thing"]
  h_p_parts_of : Has K mg "parts_of" s_p_parts_of ["text"]
  h_p_lines_of : Has K mg "lines_of" s_p_lines_of ["words", "wide"]
  h_cell_at : Has K mg "_law_cell_at" s_cell_at ["_law_script", "_law_k"]
  h_mixed : Has K mg "_law_mixed" s_mixed ["_law_cell", "_law_k"]
  h_source : Has K mg "_law_source" s_source ["_law_cell"]
  h_next : Has K mg "_law_next" s_next ["_law_source_here", "_law_many"]
  h_word : Has K mg "_law_word" s_word ["_law_source_here"]
  h_text : Has K mg "_law_text" s_text ["_law_source_here", "_law_most"]
  h_words : Has K mg "_law_words" s_words ["_law_text_here"]
  h_fit : Has K mg "_law_fit" s_fit ["_law_words_here", "_law_wide"]
  h_broken : Has K mg "_law_broken" s_broken ["_law_source_here", "_law_words_here", "_law_wide"]
  h_told : Has K mg "_law_told" s_told ["_law_lines", "_law_words_here"]
  h_part_right : Has K mg "_law_part_right" s_part_right ["_law_source_here", "_law_lines", "_law_words_here", "_law_wide"]
  m_isinstance : mg "isinstance" = none
  m_int : mg "int" = none
  m_bool : mg "bool" = none
  m_str : mg "str" = none
  m_len : mg "len" = none
  m_range : mg "range" = none
  m_max : mg "max" = none
  m_zip : mg "zip" = none
/-! ### the source of draws: a list of three numbers -/
def Src (H : Hp) (p : Addr) : Prop := ∃ a b c : Int, H p = some (.lst [.int a, .int b, .int c])
theorem Src.ne_new {H : Hp} {p q : Addr} (h : Src H p) (n : H q = none) : q ≠ p := by
  obtain ⟨a, b, c, e⟩ := h
  exact (ne_of_none e n).symm
theorem Src.keep {H : Hp} {p q : Addr} {o : HO} (h : Src H p) (n : H q = none) : Src (upd H q o) p := by
  obtain ⟨a, b, c, e⟩ := h
  exact ⟨a, b, c, by rw [upd_ne (ne_of_none e n)]; exact e⟩
theorem Src.same {H H' : Hp} {p : Addr} (h : Src H p) (s : Same H H') : Src H' p := by
  obtain ⟨a, b, c, e⟩ := h
  exact ⟨a, b, c, s _ _ e⟩
def spCellAt (K : PySem.W.Frag) : Sp := fun vs H Q _ => ∃ (l : Addr) (ns : List Int) (j : Nat), vs = [.ref l, .int (j : Int)] ∧ SqL K H l (ns.map V.int) ∧ ∀ z : Int, Q (.int z) H
def spMixed : Sp := fun vs H Q _ => ∃ c k : Int, vs = [.int c, .int k] ∧ ∀ r : Int, Q (.int r) H
def spSource : Sp := fun vs H Q _ => ∃ c : Int, vs = [.int c] ∧ ∀ p H', H p = none → Src H' p → Same H H' → Q (.ref p) H'
def spNext : Sp := fun vs H Q _ => ∃ (p : Addr) (m : Int), vs = [.ref p, .int m] ∧ 0 < m ∧ m < 2 ^ 100 ∧ Src H p ∧ ∀ (r : Int) H', 0 ≤ r → r < m → Src H' p → Off p H H' → Q (.int r) H'
section
variable {P : Program} {w : World} {K : PySem.W.Frag} {mg : Str → Option Value} {base : Heap}
theorem ok_cell_at (T : Txt K mg) : Ok P w K mg base CX0 "_law_cell_at" s_cell_at 1 ["_law_script", "_law_k"] (spCellAt K) := by
  refine T.h_cell_at.ok sc_cell_at (fun vs H Q E h => ?_) (fun f cdv A outer s H vs Q E hr h => ?_)
  · obtain ⟨l, ns, j, rfl, _⟩ := h; rfl
  obtain ⟨l, ns, j, rfl, hs, q⟩ := h
  refine ⟨_, (pss_cons (ps_if (pt_cmpR op_lt (pv 1) (pe_callB call_len (by rfl) T.m_len (by decide +kernel) (pa_cons (pv 0) pa_nil)) (nomark _))
      (pss_one (ps_ret (pe_ix ix_list (pv 0) (pv 1) (fun _ _ => rfl))))
      pss_nil)
      (pss_one (ps_ret pe_int))), ?_⟩
  refine ⟨_, rfl, _, rfl, _, _, rfl, .inl ⟨_, hs, rfl⟩, _, _, rfl, rfl, _, rfl, ite2 (fun e => ?_) (fun e => ?_)⟩
  · have e1 := of_decide_eq_true e
    obtain ⟨v, hv, ha⟩ := atI_mem (xs := ns.map V.int) (i := (j : Int)) (by omega) e1
    obtain ⟨z, _, rfl⟩ := List.mem_map.mp hv
    exact ⟨_, rfl, _, rfl, _, _, _, _, rfl, rfl, hs, ha, q z⟩
  · exact q 0
theorem ok_mixed (T : Txt K mg) : Ok P w K mg base CX0 "_law_mixed" s_mixed 1 ["_law_cell", "_law_k"] spMixed := by
  refine T.h_mixed.ok sc_mixed (fun vs H Q E h => ?_) (fun f cdv A outer s H vs Q E hr h => ?_)
  · obtain ⟨l, j, rfl, _⟩ := h; rfl
  obtain ⟨c, k, rfl, q⟩ := h
  refine ⟨_, (pss_cons (ps_set (i := 2) sc_mixed.nd rfl (by first | exact Or.inl rfl | exact Or.inr rfl) (pe_op op_add (pe_op op_mod (pv 0) pe_int) (pe_op op_mul (pe_op op_fdivW (pv 0) pe_int) pe_int)))
      (pss_cons (ps_set (i := 2) sc_mixed.nd rfl (by first | exact Or.inl rfl | exact Or.inr rfl) (pe_op op_mod (pe_op op_mul (pe_op op_add (pe_op op_add (pv 2) (pe_op op_mul pe_int (pv 1))) pe_int) pe_int) pe_int))
      (pss_cons (ps_set (i := 2) sc_mixed.nd rfl (by first | exact Or.inl rfl | exact Or.inr rfl) (pe_op op_mod (pe_op op_mul (pv 2) (pe_op op_add (pe_op op_add (pe_op op_fdiv (pv 2) pe_int) pe_int) (pv 1))) pe_int))
      (pss_one (ps_ret (pe_op op_mod (pe_op op_mul (pv 2) (pe_op op_add (pe_op op_fdiv (pv 2) pe_int) pe_int)) pe_int)))))), ?_⟩
  refine ⟨_, rfl, _, _, rfl, rfl, (by show (0 : Int) < 2147483563; decide), _, rfl, _, _, rfl, rfl, wide_div (b := 40) (by decide) (by decide) (by decide) (by decide), _, _, rfl, rfl, .inr ⟨by decide, by decide⟩, _, _, rfl, rfl, ?_⟩
  refine ⟨_, rfl, _, rfl, _, _, rfl, rfl, .inl ⟨by decide, by decide⟩, _, _, rfl, rfl, _, _, rfl, rfl, _, _, rfl, rfl, .inr ⟨by decide, by decide⟩, _, _, rfl, rfl, (by show (0 : Int) < 2147483563; decide), ?_⟩
  have m1 : ∀ a : Int, (0 : Int) ≤ a % 2147483563 ∧ a % 2147483563 < 2147483563 := fun a => ⟨Int.emod_nonneg a (by decide), Int.emod_lt_of_pos a (by decide)⟩
  have m2 : ∀ a : Int, (0 : Int) ≤ a % 2147483549 ∧ a % 2147483549 < 2147483549 := fun a => ⟨Int.emod_nonneg a (by decide), Int.emod_lt_of_pos a (by decide)⟩
  generalize hx : ((c % 2147483563 + c / 2147483563 * 40009 + 52711 * k + 1) * 39373) % 2147483563 = x
  have b1 := m1 ((c % 2147483563 + c / 2147483563 * 40009 + 52711 * k + 1) * 39373)
  rw [hx] at b1
  refine ⟨_, rfl, _, rfl, _, _, rfl, rfl, ⟨by decide, by decide⟩, _, _, rfl, rfl, _, rfl, _, _, rfl, rfl, _, _, rfl, rfl, .inl ⟨by omega, by omega⟩, _, _, rfl, rfl, (by show (0 : Int) < 2147483549; decide), ?_⟩
  generalize hy : (x * (x / 1019 + 20011 + k)) % 2147483549 = y
  have b2 := m2 (x * (x / 1019 + 20011 + k))
  rw [hy] at b2
  refine ⟨_, rfl, _, rfl, _, _, rfl, rfl, ⟨by decide, by decide⟩, _, _, rfl, rfl, _, _, rfl, rfl, .inl ⟨by omega, by omega⟩, _, _, rfl, rfl, (by show (0 : Int) < 2147483497; decide), ?_⟩
  exact q _
theorem ok_source (T : Txt K mg) : Ok P w K mg base CX0 "_law_source" s_source 1 ["_law_cell"] spSource := by
  refine T.h_source.ok sc_source (fun vs H Q E h => ?_) (fun f cdv A outer s H vs Q E hr h => ?_)
  · obtain ⟨c, rfl, _⟩ := h; rfl
  obtain ⟨c, rfl, q⟩ := h
  refine ⟨_, (pss_one (ps_ret (pe_lst (pa_cons (pv 0) (pa_cons (pv 0) (pa_cons pe_int pa_nil)))))), ?_⟩
  refine ⟨_, rfl, _, rfl, (by show 3 ≤ sizeLine; decide), fun p np => ?_⟩
  exact q p _ np ⟨c, c, 0, upd_same⟩ (same_upd np)
theorem ok_next (T : Txt K mg) : Ok P w K mg base CX0 "_law_next" s_next 2 ["_law_source_here", "_law_many"] spNext := by
  have O_mixed := ok_mixed (P := P) (w := w) (base := base) T
  refine T.h_next.ok sc_next (fun vs H Q E h => ?_) (fun f cdv A outer s H vs Q E hr h => ?_)
  · obtain ⟨p, m, rfl, _⟩ := h; rfl
  obtain ⟨p, m, rfl, m0, m1, ⟨a, b, c, hp⟩, q⟩ := h
  have sq : SqL K H p [.int a, .int b, .int c] := .of hp
  have a0 : atI [V.int a, V.int b, V.int c] 0 = some (.int a) := atI_nat (j := 0) rfl
  have a1 : atI [V.int a, V.int b, V.int c] 1 = some (.int b) := atI_nat (j := 1) rfl
  have a2 : atI [V.int a, V.int b, V.int c] 2 = some (.int c) := atI_nat (j := 2) rfl
  have hm : CDivW a m := wide_div (b := 100) m0 (by omega) (by decide) (by decide)
  refine ⟨_, (pss_cons (ps_if (pt_cmpR op_ge (pe_ix ix_list (pv 0) pe_int (fun _ _ => rfl)) (pe_op op_pow pe_int pe_int) (nomark _))
      (pss_cons (ps_set (i := 2) sc_next.nd rfl (by first | exact Or.inl rfl | exact Or.inr rfl) (pe_op op_mod (pe_ix ix_list (pv 0) pe_int (fun _ _ => rfl)) (pv 1)))
      (pss_cons (ps_asg (pe_op op_fdivW (pe_ix ix_list (pv 0) pe_int (fun _ _ => rfl)) (pv 1)) (pg_sub (pv 0) pe_int set_list))
      (pss_one (ps_ret (pv 2)))))
      pss_nil)
      (pss_cons (ps_asg (pe_op op_add (pe_ix ix_list (pv 0) pe_int (fun _ _ => rfl)) pe_int) (pg_sub (pv 0) pe_int set_list))
      (pss_one (ps_ret (pe_op op_mod (callO O_mixed (hr.mono (by decide)) (by rfl) (pa_cons (pe_ix ix_list (pv 0) pe_int (fun _ _ => rfl)) (pa_cons (pe_ix ix_list (pv 0) pe_int (fun _ _ => rfl)) pa_nil))) (pv 1)))))), ?_⟩
  refine ⟨_, rfl, _, _, _, _, rfl, rfl, sq, a0, _, _, rfl, rfl, ⟨by decide, by decide, by decide⟩, _, _, rfl, rfl, _, rfl, ite2 (fun _ => ?_) (fun _ => ?_)⟩
  · refine ⟨_, rfl, _, _, _, _, rfl, rfl, sq, a0, _, rfl, _, _, rfl, rfl, m0, _, rfl, _, _, _, _, rfl, rfl, sq, a0, _, rfl, _, _, rfl, rfl, hm, _, rfl, _, _, _, 0, rfl, rfl, hp, rfl, _, rfl, ?_⟩
    exact q _ _ (Int.emod_nonneg _ (by omega)) (Int.emod_lt_of_pos _ m0) ⟨_, _, _, upd_same⟩ off_upd
  · refine ⟨_, rfl, _, _, _, _, rfl, rfl, sq, a2, _, _, rfl, rfl, _, rfl, _, _, _, 2, rfl, rfl, hp, rfl, ?_⟩
    have hp2 : (upd H p (.lst [.int a, .int b, .int (c + 1)])) p = some (.lst [.int a, .int b, .int (c + 1)]) := upd_same
    have sq2 : SqL K (upd H p (.lst [.int a, .int b, .int (c + 1)])) p [.int a, .int b, .int (c + 1)] := .of hp2
    refine ⟨_, rfl, _, _, _, _, rfl, rfl, sq2, atI_nat (j := 1) rfl, _, rfl, _, _, _, _, rfl, rfl, sq2, atI_nat (j := 2) rfl, _, _, rfl, fun r => ?_⟩
    refine ⟨_, rfl, _, _, rfl, rfl, m0, ?_⟩
    exact q _ _ (Int.emod_nonneg _ (by omega)) (Int.emod_lt_of_pos _ m0) ⟨_, _, _, upd_same⟩ off_upd
end

/-! ### texts by their codes: cut at one sign -/
def consHead (c : Nat) : List (List Nat) → List (List Nat)
  | [] => [[c]]
  | h :: t => (c :: h) :: t
def cutC (s : Nat) : List Nat → List (List Nat)
  | [] => [[]]
  | c :: r => if c = s then [] :: cutC s r else consHead c (cutC s r)
theorem cutC_ne (s : Nat) : ∀ l, cutC s l ≠ []
  | [] => by simp [cutC]
  | c :: r => by
    unfold cutC
    split
    · simp
    · cases cutC s r <;> simp [consHead]
def appHead (a : List Nat) : List (List Nat) → List (List Nat)
  | [] => [a]
  | h :: t => (a ++ h) :: t
theorem appHead_cons (a : List Nat) (c : Nat) (l : List (List Nat)) : appHead (a ++ [c]) l = appHead a (consHead c l) := by
  cases l with
  | nil => rfl
  | cons h t => simp [appHead, consHead]
theorem appHead_nil {l : List (List Nat)} (h : l ≠ []) : appHead [] l = l := by
  cases l with
  | nil => exact absurd rfl h
  | cons h t => rfl
theorem spl_cut (s : Nat) : ∀ (l acc : List Nat), TL.spl [s] 0 acc l = appHead acc (cutC s l)
  | [], acc => by simp [TL.spl_nil, cutC, appHead]
  | c :: r, acc => by
    by_cases h : c = s
    · have hp : TL.pre [s] (c :: r) = true := by simp [TL.pre, h]
      rw [TL.spl_hit hp]
      show acc :: TL.spl [s] 0 [] r = _
      rw [spl_cut s r [], appHead_nil (cutC_ne s r)]
      simp [cutC, h, appHead]
    · have hp : TL.pre [s] (c :: r) = false := by simp [TL.pre, h]
      rw [TL.spl_miss hp, spl_cut s r (acc ++ [c]), appHead_cons]
      simp [cutC, h]
theorem split_cut {y : Str} {s : Nat} (ey : TL.tl y = [s]) (hk : s < 256) (x : Str) : (Txt.split x y).map TL.tl = cutC s (TL.tl x) := by
  have hk2 : y.cps.all (· < 256) = true := by
    rw [← Array.all_toList]
    show (TL.tl y).all _ = true
    rw [ey]
    simp [hk]
  rw [TL.split_spl x y (by rw [ey]; simp) (TL.kind_ok hk2), ey, spl_cut, appHead_nil (cutC_ne s _)]
theorem cutC_len (s : Nat) : ∀ (l : List Nat), ∀ p ∈ cutC s l, p.length ≤ l.length
  | [], p, h => by simp [cutC] at h; simp [h]
  | c :: r, p, h => by
    unfold cutC at h
    split at h
    · rcases List.mem_cons.mp h with e | h
      · simp [e]
      · have := cutC_len s r p h; simp; omega
    · cases e : cutC s r with
      | nil => exact absurd e (cutC_ne s r)
      | cons a t =>
        rw [e] at h
        rcases List.mem_cons.mp h with h | h
        · have := cutC_len s r a (by rw [e]; exact List.mem_cons_self); rw [h]; simp; omega
        · have := cutC_len s r p (by rw [e]; exact List.mem_cons_of_mem _ h); simp; omega
theorem cutC_count (s : Nat) : ∀ (l : List Nat), (cutC s l).length ≤ l.length + 1
  | [] => by simp [cutC]
  | c :: r => by
    have ih := cutC_count s r
    unfold cutC
    split
    · simp; omega
    · cases e : cutC s r with
      | nil => exact absurd e (cutC_ne s r)
      | cons a t => rw [e] at ih; simp [consHead] at ih ⊢; omega
theorem cutC_free (s : Nat) : ∀ (l : List Nat), ∀ p ∈ cutC s l, s ∉ p
  | [], p, h => by simp [cutC] at h; simp [h]
  | c :: r, p, h => by
    unfold cutC at h
    split at h
    · rcases List.mem_cons.mp h with e | h
      · simp [e]
      · exact cutC_free s r p h
    · rename_i hc
      cases e : cutC s r with
      | nil => exact absurd e (cutC_ne s r)
      | cons a t =>
        rw [e] at h
        rcases List.mem_cons.mp h with h | h
        · have := cutC_free s r a (by rw [e]; exact List.mem_cons_self)
          rw [h]
          simp only [List.mem_cons, not_or]
          exact ⟨fun q => hc q.symm, this⟩
        · exact cutC_free s r p (by rw [e]; exact List.mem_cons_of_mem _ h)
/-- the words of a part, the parts of a text -/
def wordsC (p : List Nat) : List (List Nat) := (cutC 32 p).filter fun w => !w.isEmpty
def partsC (t : List Nat) : List (List (List Nat)) := (cutC 10 t).map wordsC
def keepW (w : Str) : Bool := !decide (V.str w = V.str (Str.ofString ""))
def wordsS (p : Str) : List Str := (Txt.split p (Str.ofString " ")).filter keepW
def partsS (x : Str) : List (List Str) := (Txt.split x (Str.ofString "\n")).map wordsS
theorem tl_blank : TL.tl (Str.ofString " ") = [32] := by decide +kernel
theorem tl_feed : TL.tl (Str.ofString "\n") = [10] := by decide +kernel
theorem tl_none : TL.tl (Str.ofString "") = [] := by decide +kernel
theorem keepW_tl (w : Str) : keepW w = !(TL.tl w).isEmpty := by
  unfold keepW
  by_cases h : w = Str.ofString ""
  · subst h; rw [tl_none]; simp
  · have h2 : TL.tl w ≠ [] := fun e => h (TL.ext_tl (e.trans tl_none.symm))
    have h3 : ¬ V.str w = V.str (Str.ofString "") := fun e => h (V.str.inj e)
    rw [decide_eq_false h3]
    cases e : TL.tl w with
    | nil => exact absurd e h2
    | cons a b => rfl
theorem map_filter_keep (l : List Str) : (l.filter keepW).map TL.tl = (l.map TL.tl).filter fun w => !w.isEmpty := by
  rw [List.filter_map]
  congr 1
  apply List.filter_congr
  intro a _
  exact keepW_tl a
theorem wordsS_tl (p : Str) : (wordsS p).map TL.tl = wordsC (TL.tl p) := by
  unfold wordsS wordsC
  rw [map_filter_keep, split_cut tl_blank (by decide)]
theorem partsS_tl (x : Str) : (partsS x).map (·.map TL.tl) = partsC (TL.tl x) := by
  unfold partsS partsC
  rw [List.map_map, ← split_cut tl_feed (by decide) x, List.map_map]
  apply List.map_congr_left
  intro p _
  exact wordsS_tl p
theorem len_tl' (x : Str) : x.length = (TL.tl x).length := TL.len_tl x
theorem split_small {x y : Str} {s : Nat} (ey : TL.tl y = [s]) (hk : s < 256) : (Txt.split x y).length ≤ x.length + 1 ∧ ∀ p ∈ Txt.split x y, p.length ≤ x.length := by
  have e := split_cut ey hk x
  constructor
  · have h := congrArg List.length e
    rw [List.length_map] at h
    rw [h, TL.len_tl x]
    exact cutC_count s _
  · intro p hp
    rw [TL.len_tl p, TL.len_tl x]
    exact cutC_len s _ _ (by rw [← e]; exact List.mem_map.mpr ⟨p, hp, rfl⟩)
/-! ### lines of a part -/
def gapS (a b : Str) : Str := a ++ Str.ofString " " ++ b
def linesGo (wide : Int) : Str → List Str → List Str
  | cur, [] => [cur]
  | cur, w :: r => if ((gapS cur w).length : Int) ≤ wide then linesGo wide (gapS cur w) r else cur :: linesGo wide w r
def linesS (wide : Int) : List Str → List Str
  | [] => [Str.ofString ""]
  | w :: r => linesGo wide w r
def wrappedS (x : Str) (wide : Int) : List Str := ((partsS x).map (linesS wide)).flatten
theorem len_append (a b : Str) : (a ++ b).length = a.length + b.length := by
  rw [TL.len_tl, TL.tl_append, List.length_append, ← TL.len_tl, ← TL.len_tl]
theorem len_gap (a b : Str) : (gapS a b).length = a.length + 1 + b.length := by
  unfold gapS
  rw [len_append, len_append]
  congr 1

/-! ### the program's words and lines -/
theorem big {n : Nat} (h : n ≤ 16000000) : n < sizeLine := Nat.lt_of_le_of_lt h (by decide)
theorem bigl {n : Nat} (h : n ≤ 16000000) : n ≤ sizeLine := Nat.le_of_lt (big h)
def strsAt (H : Hp) (a : Addr) (ws : List Str) : Prop := H a = some (.lst (ws.map V.str))
def spNoText : Sp := fun vs H Q _ => ∃ x : Str, vs = [.str x] ∧ Q .non H
def spWholeI : Sp := fun vs H Q _ => ∃ i : Int, vs = [.int i] ∧ Q (.bl true) H
def spCountI : Sp := fun vs H Q _ => ∃ i : Int, vs = [.int i] ∧ 0 ≤ i ∧ Q (.bl true) H
def spParts : Sp := fun vs H Q _ => ∃ x : Str, vs = [.str x] ∧ x.length ≤ 2000 ∧ ∀ (p : Addr) (as : List Addr) (H' : Hp), Same H H' → H p = none → H' p = some (.lst (as.map V.ref)) →
  Paired (fun a ws => H a = none ∧ a ≠ p ∧ strsAt H' a ws) as (partsS x) → Q (.ref p) H'
def spLines (K : PySem.W.Frag) : Sp := fun vs H Q _ => ∃ (a : Addr) (ws : List Str) (wide : Int), vs = [.ref a, .int wide] ∧ SqL K H a (ws.map V.str) ∧ ws.length ≤ 2001 ∧ (∀ w ∈ ws, w.length ≤ 2000) ∧
  ∀ (p : Addr) (H' : Hp), Same H H' → H p = none → strsAt H' p (linesS wide ws) → Q (.ref p) H'
def spWrapped : Sp := fun vs H Q _ => ∃ (x : Str) (wide : Int), vs = [.str x, .int wide] ∧ x.length ≤ 2000 ∧ 0 ≤ wide ∧
  ∀ (p : Addr) (H' : Hp), Same H H' → H p = none → strsAt H' p (wrappedS x wide) → Q (.ref p) H'
theorem wordsS_small {p : Str} (h : p.length ≤ 2000) : (wordsS p).length ≤ 2001 ∧ ∀ w ∈ wordsS p, w.length ≤ 2000 := by
  obtain ⟨h1, h2⟩ := split_small (x := p) tl_blank (by decide)
  constructor
  · exact Nat.le_trans (List.length_filter_le _ _) (by omega)
  · intro w hw
    exact Nat.le_trans (h2 w (List.mem_filter.mp hw).1) h
theorem partsS_small {x : Str} (h : x.length ≤ 2000) : (partsS x).length ≤ 2001 ∧ ∀ ws ∈ partsS x, ws.length ≤ 2001 ∧ ∀ w ∈ ws, w.length ≤ 2000 := by
  obtain ⟨h1, h2⟩ := split_small (x := x) tl_feed (by decide)
  constructor
  · unfold partsS
    rw [List.length_map]
    omega
  · intro ws hws
    obtain ⟨p, hp, rfl⟩ := List.mem_map.mp hws
    exact wordsS_small (Nat.le_trans (h2 p hp) h)
theorem linesGo_len (wide : Int) : ∀ (ws : List Str) (cur : Str), (linesGo wide cur ws).length ≤ ws.length + 1
  | [], cur => by simp [linesGo]
  | w :: r, cur => by
    unfold linesGo
    split
    · have := linesGo_len wide r (gapS cur w); simp; omega
    · have := linesGo_len wide r w; simp; omega
theorem linesS_len (wide : Int) (ws : List Str) : (linesS wide ws).length ≤ ws.length + 1 := by
  cases ws with
  | nil => simp [linesS]
  | cons w r => have := linesGo_len wide r w; simp [linesS]; omega
theorem flat_take_succ {α β : Type} (f : α → List β) (l : List α) (i : Nat) (a : α) (h : l[i]? = some a) : ((l.take (i + 1)).map f).flatten = ((l.take i).map f).flatten ++ f a := by
  rw [List.take_add_one, h, List.map_append, List.flatten_append]
  simp
theorem flat_len {α β : Type} (f : α → List β) (b : Nat) : ∀ (l : List α), (∀ a ∈ l, (f a).length ≤ b) → ((l.map f).flatten).length ≤ l.length * b
  | [], _ => by simp
  | a :: r, h => by
    have h1 := h a List.mem_cons_self
    have h2 := flat_len f b r fun x hx => h x (List.mem_cons_of_mem _ hx)
    simp only [List.map_cons, List.flatten_cons, List.length_append, List.length_cons, Nat.add_mul, Nat.one_mul]
    omega
theorem wrapped_len {x : Str} {wide : Int} (hx : x.length ≤ 2000) : (wrappedS x wide).length ≤ 2001 * 2002 := by
  obtain ⟨c1, c2⟩ := partsS_small hx
  refine Nat.le_trans (flat_len (linesS wide) 2002 _ fun ws' h' => ?_) (Nat.mul_le_mul_right _ c1)
  have z1 := (c2 ws' h').1
  have z2 := linesS_len wide ws'
  omega
theorem str_at {ws : List Str} {i : Nat} {y : V} (h : (ws.map V.str)[i]? = some y) : ∃ z, y = V.str z ∧ ws[i]? = some z := by
  rw [List.getElem?_map] at h
  cases e : ws[i]? with
  | none => rw [e] at h; cases h
  | some z => rw [e] at h; exact ⟨z, (Option.some.inj h).symm, rfl⟩
theorem ref_at {as : List Addr} {i : Nat} {y : V} (h : (as.map V.ref)[i]? = some y) : ∃ z, y = V.ref z ∧ as[i]? = some z := by
  rw [List.getElem?_map] at h
  cases e : as[i]? with
  | none => rw [e] at h; cases h
  | some z => rw [e] at h; exact ⟨z, (Option.some.inj h).symm, rfl⟩
theorem filter_take_succ {α : Type} (f : α → Bool) (l : List α) (i : Nat) (a : α) (h : l[i]? = some a) : (l.take (i + 1)).filter f = (l.take i).filter f ++ (if f a = true then [a] else []) := by
  rw [List.take_add_one, h, List.filter_append]
  congr 1
  simp [List.filter_cons]
theorem paired_same {G G' : Addr → List Str → Prop} (h : ∀ a ws, G a ws → G' a ws) : ∀ {l : List Addr} {m : List (List Str)}, Paired G l m → Paired G' l m
  | _, _, .nil => .nil
  | _, _, .cons a r => .cons (h _ _ a) (paired_same h r)
section
variable {P : Program} {w : World} {K : PySem.W.Frag} {mg : Str → Option Value} {base : Heap}
theorem ok_no_text (T : Txt K mg) : Ok P w K mg base CX0 "refuse_no_text" s_p_refuse_no_text 1 ["thing"] spNoText := by
  refine T.h_p_refuse_no_text.ok sc_p_refuse_no_text (fun vs H Q E h => ?_) (fun f cdv A outer s H vs Q E hr h => ?_)
  · obtain ⟨x, rfl, _⟩ := h; rfl
  obtain ⟨x, rfl, q⟩ := h
  refine ⟨_, (pss_one (ps_if (pt_not (pt_val (pe_callB call_isi (by rfl) T.m_isinstance (by decide +kernel) (pa_cons (pv 0) (pa_cons (pe_bltn (v := .ty "str") (by rfl) T.m_str (by decide +kernel) rfl) pa_nil)))))
      (pss_one ps_never)
      pss_nil)), ?_⟩
  exact ⟨_, rfl, _, _, _, _, true, rfl, .ty _, .base (.str x), kit_ty (by decide +kernel), true, rfl, iteF q⟩
theorem ok_wholeI (T : Txt K mg) : Ok P w K mg base CX0 "is_whole" s_p_is_whole 1 ["thing"] spWholeI := by
  refine T.h_p_is_whole.ok sc_p_is_whole (fun vs H Q E h => ?_) (fun f cdv A outer s H vs Q E hr h => ?_)
  · obtain ⟨x, rfl, _⟩ := h; rfl
  obtain ⟨i, rfl, q⟩ := h
  refine ⟨_, (pss_one (ps_ret (pe_and (pe_callB call_isi (by rfl) T.m_isinstance (by decide +kernel) (pa_cons (pv 0) (pa_cons (pe_bltn (v := .ty "int") (by rfl) T.m_int (by decide +kernel) rfl) pa_nil))) (pe_one (pe_not (pe_callB call_isi (by rfl) T.m_isinstance (by decide +kernel) (pa_cons (pv 0) (pa_cons (pe_bltn (v := .ty "bool") (by rfl) T.m_bool (by decide +kernel) rfl) pa_nil)))))))), ?_⟩
  refine ⟨_, rfl, _, _, _, _, true, rfl, .ty _, .base (.int i), kit_ty (by decide +kernel), true, rfl, iteT ?_⟩
  exact ⟨_, rfl, _, _, _, _, false, rfl, .ty _, .base (.int i), kit_ty (by decide +kernel), false, rfl, q⟩
theorem ok_countI (T : Txt K mg) : Ok P w K mg base CX0 "is_count" s_p_is_count 2 ["thing"] spCountI := by
  have O_p_is_whole := ok_wholeI (P := P) (w := w) (base := base) T
  refine T.h_p_is_count.ok sc_p_is_count (fun vs H Q E h => ?_) (fun f cdv A outer s H vs Q E hr h => ?_)
  · obtain ⟨x, rfl, _⟩ := h; rfl
  obtain ⟨i, rfl, i0, q⟩ := h
  refine ⟨_, (pss_one (ps_ret (pe_and (callO O_p_is_whole (hr.mono (by decide)) (by rfl) (pa_cons (pv 0) pa_nil)) (pe_one (pe_cmpR op_ge (pv 0) pe_int (nomark _)))))), ?_⟩
  refine ⟨_, rfl, i, rfl, true, rfl, iteT ?_⟩
  refine ⟨_, rfl, _, _, rfl, rfl, ?_⟩
  show Q (.bl (decide (0 ≤ i))) H
  rw [decide_eq_true i0]
  exact q
theorem ok_parts (T : Txt K mg) : Ok P w K mg base CX0 "parts_of" s_p_parts_of 1 ["text"] spParts := by
  refine T.h_p_parts_of.ok sc_p_parts_of (fun vs H Q E h => ?_) (fun f cdv A outer s H vs Q E hr h => ?_)
  · obtain ⟨x, rfl, _⟩ := h; rfl
  obtain ⟨x, rfl, hx, q⟩ := h
  obtain ⟨c1, c2⟩ := split_small (x := x) tl_feed (by decide)
  refine ⟨_, (pss_one (ps_ret (pe_lc (own := [("part", 2)]) (te := (tLc (iList K (tM1 _ (tVar 2) _)) _ (tTest (tOp _ (tVar 1) _)) (tVar 1) [1])) (by rfl) sc_p_parts_of.nd (pi_list (pe_split (pv 0) pe_str)) (blkOk_by (own := [("part", 2)]) (N := n_p_parts_of) (sc := defScope s_p_parts_of) (by decide +kernel)) (fun _ _ _ _ _ => (pg_name (i := 2) sc_p_parts_of.nd rfl (by first | exact Or.inl rfl | exact Or.inr rfl))) (fun _ _ _ _ _ => pts_nil) (fun _ _ _ _ _ => (pe_lc (own := [("word", 1)]) (by rfl) sc_p_parts_of.nd (pi_list (pe_split (pv 2) pe_str)) (blkOk_by (own := [("word", 1)]) (N := n_p_parts_of) (sc := relS _ (defScope s_p_parts_of)) (by decide +kernel)) (fun _ _ _ _ _ => (pg_name (i := 1) sc_p_parts_of.nd rfl (by first | exact Or.inl rfl | exact Or.inr rfl))) (fun _ _ _ _ _ => (pts_one (pt_cmpR op_ne (pv 1) pe_str (nomark _)))) (fun _ _ _ _ _ => (pv 1))))))), ?_⟩
  refine ⟨_, rfl, ⟨_, rfl⟩, _, _, rfl, rfl, (by decide +kernel), bigl (by omega), fun p0 n0 => ⟨p0, rfl, ⟨_, .of upd_same⟩, fun D nD => ?_⟩⟩
  have h0 := same_upd (o := .lst ((Txt.split x (Str.ofString "\n")).map V.str)) n0
  have e0 : (upd H p0 (.lst ((Txt.split x (Str.ofString "\n")).map V.str))) p0 = some (.lst ((Txt.split x (Str.ofString "\n")).map V.str)) := upd_same
  generalize upd H p0 (.lst ((Txt.split x (Str.ofString "\n")).map V.str)) = H0 at h0 e0 nD ⊢
  refine lc_list (K := K) (a := p0) (xs := (Txt.split x (Str.ofString "\n")).map V.str) (fun i H' => ∃ as : List Addr, H' D = some (.lst (as.map V.ref)) ∧ Same H0 H' ∧ Paired (fun a ws => H a = none ∧ a ≠ D ∧ strsAt H' a ws) as ((partsS x).take i))
    ⟨[], upd_same, same_upd nD, by rw [List.take_zero]; exact .nil⟩ (fun i H' _ ⟨as, _, sm, _⟩ => .of (sm _ _ e0)) ?_ ?_
  · rintro i y H' hi ⟨as, eD, sm, pr⟩
    obtain ⟨p, rfl, hp⟩ := str_at hi
    have hpl : p.length ≤ 2000 := Nat.le_trans (c2 p (List.mem_of_getElem? hp)) hx
    obtain ⟨d1, d2⟩ := split_small (x := p) tl_blank (by decide)
    refine ⟨rfl, yes_if ?_⟩
    refine ⟨_, rfl, ⟨_, rfl⟩, _, _, rfl, rfl, (by decide +kernel), bigl (by omega), fun p1 n1 => ⟨p1, rfl, ⟨_, .of upd_same⟩, fun D1 nD1 => ?_⟩⟩
    have h1 := same_upd (o := .lst ((Txt.split p (Str.ofString " ")).map V.str)) n1
    have e1 : (upd H' p1 (.lst ((Txt.split p (Str.ofString " ")).map V.str))) p1 = some (.lst ((Txt.split p (Str.ofString " ")).map V.str)) := upd_same
    generalize upd H' p1 (.lst ((Txt.split p (Str.ofString " ")).map V.str)) = H1 at h1 e1 nD1 ⊢
    refine lc_list (K := K) (a := p1) (xs := (Txt.split p (Str.ofString " ")).map V.str) (fun j H'' => strsAt H'' D1 (((Txt.split p (Str.ofString " ")).take j).filter keepW) ∧ Same H1 H'')
      ⟨upd_same, same_upd nD1⟩ (fun j H'' _ h2 => .of (h2.2 _ _ e1)) ?_ ?_
    · rintro j y H'' hj ⟨eD1, sm1⟩
      obtain ⟨wd, rfl, hwd⟩ := str_at hj
      have hf := filter_take_succ keepW (Txt.split p (Str.ofString " ")) j wd hwd
      have hjl : j < (Txt.split p (Str.ofString " ")).length := (List.getElem?_eq_some_iff.mp hwd).1
      refine ⟨rfl, _, rfl, rfl, _, rfl, ite2 (fun hk => ?_) (fun hk => ?_)⟩
      · have hk : keepW wd = true := hk
        refine ⟨_, rfl, _, eD1, ?_, ?_, ?_⟩
        · rw [List.length_map]
          refine big (Nat.le_trans (List.length_filter_le _ _) ?_)
          rw [List.length_take]
          omega
        · show (upd H'' D1 _) D1 = _
          rw [upd_same, hf, if_pos hk, List.map_append]
          rfl
        · intro b o hb
          have hb2 := sm1 _ _ hb
          have nb : b ≠ D1 := ne_of_none hb nD1
          rw [upd_ne nb]
          exact hb2
      · have hk : ¬ keepW wd = true := hk
        have hk2 : keepW wd = false := by simpa using hk
        refine ⟨?_, sm1⟩
        rw [hf, hk2]
        simpa using eD1
    · rintro H'' ⟨eD1, sm1⟩
      rw [List.length_map, List.take_length] at eD1
      have eD2 : H'' D = some (.lst (as.map V.ref)) := sm1 _ _ (h1 _ _ eD)
      have nDD : D1 ≠ D := fun e => by
        rw [e] at nD1
        rw [h1 _ _ eD] at nD1
        cases nD1
      have fr : H D1 = none := by
        have z1 : H1 D1 = none := nD1
        exact h0.free (sm.free (h1.free z1))
      have hil : i < (Txt.split x (Str.ofString "\n")).length := (List.getElem?_eq_some_iff.mp hp).1
      have pl := pr.length
      have hpi : (partsS x)[i]? = some (wordsS p) := by
        unfold partsS
        rw [List.getElem?_map, hp]
        rfl
      refine ⟨_, eD2, ?_, as ++ [D1], ?_, ?_, ?_⟩
      · rw [List.length_map, pl, List.length_take]
        exact big (by omega)
      · rw [upd_same, List.map_append]
        rfl
      · intro b o hb
        have nb : b ≠ D := ne_of_none hb nD
        rw [upd_ne nb]
        exact sm1 _ _ (h1 _ _ (sm _ _ hb))
      · rw [List.take_add_one, hpi]
        refine Paired.snoc (paired_same ?_ pr) ⟨fr, nDD, ?_⟩
        · rintro a ws ⟨z1, z2, z3⟩
          refine ⟨z1, z2, ?_⟩
          show (upd H'' D _) a = _
          rw [upd_ne z2]
          exact sm1 _ _ (h1 _ _ z3)
        · show (upd H'' D _) D1 = _
          rw [upd_ne nDD]
          exact eD1
  · rintro H' ⟨as, eD, sm, pr⟩
    have e : (partsS x).take ((Txt.split x (Str.ofString "\n")).map V.str).length = partsS x := by
      apply List.take_of_length_le
      unfold partsS
      rw [List.length_map, List.length_map]
      exact Nat.le_refl _
    rw [e] at pr
    exact q D as H' (h0.trans sm) (h0.free nD) eD pr
theorem join3 (a b : Str) : Str.empty ++ a ++ Str.ofString " " ++ b = gapS a b := by
  have e : Str.empty ++ a = a := TL.ext_tl (by rw [TL.tl_append]; rfl)
  rw [e]
  rfl
theorem ixN_last {n : Nat} : ixN (n + 1) (-1) = some n := by
  unfold ixN
  rw [if_neg (by decide), if_pos (by omega)]
  congr 1
  omega
theorem ok_lines (T : Txt K mg) : Ok P w K mg base CX0 "lines_of" s_p_lines_of 1 ["words", "wide"] (spLines K) := by
  refine T.h_p_lines_of.ok sc_p_lines_of (fun vs H Q E h => ?_) (fun f cdv A outer s H vs Q E hr h => ?_)
  · obtain ⟨a, ws, wide, rfl, _⟩ := h; rfl
  obtain ⟨a, ws, wide, rfl, hs, hl, hw, q⟩ := h
  refine ⟨_, (pss_cons (ps_if (pt_cmpR op_eq (pe_callB call_len (by rfl) T.m_len (by decide +kernel) (pa_cons (pv 0) pa_nil)) pe_int (nomark _))
      (pss_one (ps_ret (pe_lst (pa_cons pe_str pa_nil))))
      pss_nil)
      (pss_cons (ps_set (i := 2) sc_p_lines_of.nd rfl (by first | exact Or.inl rfl | exact Or.inr rfl) (pe_lst (pa_cons (pe_ix ix_list (pv 0) pe_int (fun _ _ => rfl)) pa_nil)))
      (pss_cons (ps_for PassesOwn.never rfl (pi_list (pe_slice sl_list (pv 0) (po_some pe_int) po_none)) (pg_name (i := 3) sc_p_lines_of.nd rfl (by first | exact Or.inl rfl | exact Or.inr rfl))
      (pss_cons (ps_set (i := 4) sc_p_lines_of.nd rfl (by first | exact Or.inl rfl | exact Or.inr rfl) (pe_joined (PJ.cons (pe_fmt (pe_ix ix_list (pv 2) (pe_un un_neg pe_int) (fun _ _ => rfl))) (PJ.cons pe_str (PJ.cons (pe_fmt (pv 3)) PJ.nil)))))
      (pss_one (ps_if (pt_cmpR op_le (pe_callB call_len_str (by rfl) T.m_len (by decide +kernel) (pa_cons (pv 4) pa_nil)) (pv 1) (nomark _))
      (pss_one (ps_asg (pv 4) (pg_sub (pv 2) (pe_un un_neg pe_int) set_list)))
      (pss_one (ps_expr (pe_bm PySem.F.plainAttrs_list PySem.F.slot_list_append PySem.F.type_list_append mt_append (pv 2) (pa_cons (pv 3) pa_nil))))))))
      (pss_one (ps_ret (pv 2)))))), ?_⟩
  refine ⟨_, rfl, _, _, rfl, .inl ⟨_, hs, rfl⟩, rfl, _, rfl, ?_⟩
  cases ws with
  | nil =>
    refine iteT ?_
    refine ⟨(by show 1 ≤ sizeLine; decide), fun p np => ?_⟩
    exact q p _ (same_upd np) np upd_same
  | cons w0 r =>
    refine ite2 (fun e => ?_) (fun _ => ?_)
    · have e1 := V.int.inj (of_decide_eq_true e)
      simp at e1
      omega
    refine ⟨_, rfl, _, _, _, _, rfl, rfl, hs, atI_nat (j := 0) rfl, (by show 1 ≤ sizeLine; decide), fun L nL => ?_⟩
    refine ⟨_, rfl, 1, rfl, a, _, rfl, (same_upd nL).seq hs, fun S nS => ?_⟩
    have ec : cutV ((w0 :: r).map V.str) (some 1) none = r.map V.str := by
      unfold cutV
      rw [show HT.sIx ((w0 :: r).map V.str).length 0 (some 1) = min 1 ((w0 :: r).map V.str).length from HT.sIx_nat _ 0 1, HT.sIx_none]
      simp
      exact List.take_of_length_le (by simp)
    rw [ec]
    have eL : (upd (upd H L (.lst [.str w0])) S (.lst (r.map V.str))) L = some (.lst [.str w0]) := by
      rw [upd_ne (ne_of_none upd_same nS)]
      exact upd_same
    have eS : (upd (upd H L (.lst [.str w0])) S (.lst (r.map V.str))) S = some (.lst (r.map V.str)) := upd_same
    have sH : Same H (upd (upd H L (.lst [.str w0])) S (.lst (r.map V.str))) := (same_upd nL).trans (same_upd nS)
    have nSL : S ≠ L := (ne_of_none upd_same nS).symm
    generalize upd (upd H L (.lst [.str w0])) S (.lst (r.map V.str)) = HB at eL eS sH ⊢
    refine ⟨S, rfl, ⟨_, .of eS⟩, for_list (K := K) (a := S) (xs := r.map V.str) (fun i σ H2 => (∃ v3 v4, σ = [some (.ref a), some (.int wide), some (.ref L), v3, v4]) ∧ Off L HB H2 ∧
        ∃ (dn : List Str) (cur : Str), strsAt H2 L (dn ++ [cur]) ∧ dn.length ≤ i ∧ cur.length ≤ (i + 1) * 2001 ∧ dn ++ linesGo wide cur (r.drop i) = linesGo wide w0 r)
      ⟨⟨_, _, rfl⟩, .refl, [], w0, eL, Nat.le_refl _, Nat.le_trans (hw w0 List.mem_cons_self) (by omega), rfl⟩ (fun i σ H2 _ h2 => .of (h2.2.1 _ _ eS nSL)) ?_ ?_⟩
    · rintro i y σ H2 hi ⟨⟨v3, v4, rfl⟩, o2, dn, cur, e2, hd, hc, hg⟩
      obtain ⟨wd, rfl, hwd⟩ := str_at hi
      have hil : i < r.length := (List.getElem?_eq_some_iff.mp hwd).1
      have hrl : r.length ≤ 2000 := by simp at hl; omega
      have hwl : wd.length ≤ 2000 := hw wd (List.mem_cons_of_mem _ (List.mem_of_getElem? hwd))
      have hdr : r.drop i = wd :: r.drop (i + 1) := by
        obtain ⟨h1, h2⟩ := List.getElem?_eq_some_iff.mp hwd
        rw [List.drop_eq_getElem_cons h1, h2]
      have al : atI ((dn ++ [cur]).map V.str) (-1) = some (.str cur) := by
        rw [List.map_append]
        exact atI_last _ _
      have hcb : cur.length ≤ 4004001 := Nat.le_trans hc (Nat.le_trans (Nat.mul_le_mul_right 2001 (show i + 1 ≤ 2001 by omega)) (by decide))
      have b1 : (Str.empty ++ cur).length = cur.length := by rw [len_append]; exact Nat.zero_add _
      have b2 : (Str.empty ++ cur ++ Str.ofString " ").length = cur.length + 1 := by rw [len_append, b1]; rfl
      have b3 : (Str.empty ++ cur ++ Str.ofString " " ++ wd).length = cur.length + 1 + wd.length := by rw [len_append, b2]
      refine ⟨_, rfl, 1, rfl, _, _, _, _, rfl, rfl, .of e2, al, .inl ⟨cur, rfl, bigl (by omega), cur, rfl, bigl (by omega), ?_⟩⟩
      refine ⟨_, rfl, bigl (by omega), _, rfl, .inl ⟨wd, rfl, bigl (by omega), wd, rfl, bigl (by omega), ?_⟩⟩
      show tJs [] (Str.empty ++ cur ++ Str.ofString " " ++ wd) _ _ _
      rw [join3] at b3 ⊢
      refine ⟨_, rfl, _, rfl, bigl (by omega), _, rfl, _, _, rfl, rfl, _, rfl, ite2 (fun e => ?_) (fun e => ?_)⟩
      · have e1 : ((gapS cur wd).length : Int) ≤ wide := of_decide_eq_true e
        refine ⟨_, rfl, _, rfl, 1, rfl, _, _, _, dn.length, rfl, rfl, e2, ?_, ?_⟩
        · rw [List.length_map, List.length_append]
          exact ixN_last
        · have es : ((dn ++ [cur]).map V.str).set dn.length (.str (gapS cur wd)) = (dn ++ [gapS cur wd]).map V.str := by
            rw [List.map_append, List.set_append_right _ _ (by simp)]
            simp
          rw [es]
          refine ⟨⟨_, _, rfl⟩, o2.trans off_upd, dn, gapS cur wd, upd_same, by omega, ?_, ?_⟩
          · rw [len_gap]
            have : (i + 1 + 1) * 2001 = (i + 1) * 2001 + 2001 := by omega
            omega
          · rw [← hg, hdr]
            show _ = dn ++ (if ((gapS cur wd).length : Int) ≤ wide then _ else _)
            rw [if_pos e1]
      · have e1 : ¬ ((gapS cur wd).length : Int) ≤ wide := fun z => e (decide_eq_true z)
        refine ⟨_, rfl, .inl ⟨rfl, _, .of e2⟩, _, rfl, _, _, _, rfl, rfl, e2, ?_, ?_⟩
        · rw [List.length_map, List.length_append]
          simp
          exact big (by omega)
        · refine ⟨⟨_, _, rfl⟩, o2.trans off_upd, dn ++ [cur], wd, ?_, ?_, ?_, ?_⟩
          · show (upd H2 L _) L = _
            rw [upd_same, List.map_append (l₁ := dn ++ [cur])]
            rfl
          · simp; omega
          · have : (i + 1 + 1) * 2001 = (i + 1) * 2001 + 2001 := by omega
            omega
          · rw [← hg, hdr, List.append_assoc]
            show _ = dn ++ (if ((gapS cur wd).length : Int) ≤ wide then _ else _)
            rw [if_neg e1]
            rfl
    · rintro σ H2 ⟨⟨v3, v4, rfl⟩, o2, dn, cur, e2, hd, hc, hg⟩
      rw [List.length_map, List.drop_length] at hg
      have hg2 : dn ++ [cur] = linesS wide (w0 :: r) := hg
      rw [hg2] at e2
      refine ⟨_, rfl, ?_⟩
      refine q L H2 (fun b o hb => ?_) nL e2
      exact o2 _ _ (sH _ _ hb) (ne_of_none hb nL)
theorem ok_wrapped (T : Txt K mg) : Ok P w K mg base CX0 "wrapped" s_p_wrapped 3 ["text", "wide"] spWrapped := by
  have O_p_refuse_no_text := ok_no_text (P := P) (w := w) (base := base) T
  have O_p_is_count := ok_countI (P := P) (w := w) (base := base) T
  have O_p_parts_of := ok_parts (P := P) (w := w) (base := base) T
  have O_p_lines_of := ok_lines (P := P) (w := w) (base := base) T
  refine T.h_p_wrapped.ok sc_p_wrapped (fun vs H Q E h => ?_) (fun f cdv A outer s H vs Q E hr h => ?_)
  · obtain ⟨x, wide, rfl, _⟩ := h; rfl
  obtain ⟨x, wide, rfl, hx, hw, q⟩ := h
  obtain ⟨c1, c2⟩ := partsS_small hx
  refine ⟨_, (pss_cons (ps_expr (callO O_p_refuse_no_text (hr.mono (by decide)) (by rfl) (pa_cons (pv 0) pa_nil)))
      (pss_cons (ps_if (pt_not (pt_val (callO O_p_is_count (hr.mono (by decide)) (by rfl) (pa_cons (pv 1) pa_nil))))
      (pss_one ps_never)
      pss_nil)
      (pss_cons (ps_set (i := 2) sc_p_wrapped.nd rfl (by first | exact Or.inl rfl | exact Or.inr rfl) (pe_lst pa_nil))
      (pss_cons (ps_for PassesOwn.never rfl (pi_list (callO O_p_parts_of (hr.mono (by decide)) (by rfl) (pa_cons (pv 0) pa_nil))) (pg_name (i := 3) sc_p_wrapped.nd rfl (by first | exact Or.inl rfl | exact Or.inr rfl))
      (pss_one (ps_expr (pe_bm PySem.F.plainAttrs_list PySem.F.slot_list_extend PySem.F.type_list_extend mt_extend (pv 2) (pa_cons (callO O_p_lines_of (hr.mono (by decide)) (by rfl) (pa_cons (pv 3) (pa_cons (pv 1) pa_nil))) pa_nil)))))
      (pss_one (ps_ret (pv 2))))))), ?_⟩
  refine ⟨_, rfl, x, rfl, ?_⟩
  refine ⟨_, rfl, wide, rfl, hw, true, rfl, iteF ?_⟩
  refine ⟨(by show 0 ≤ sizeLine; decide), fun L nL => ?_⟩
  refine ⟨_, rfl, x, rfl, hx, fun p as HB sB nP eP pr => ?_⟩
  have eL : HB L = some (.lst []) := sB _ _ upd_same
  have nPL : p ≠ L := fun e => by
    rw [e, upd_same] at nP
    cases nP
  refine ⟨p, rfl, ⟨_, .of eP⟩, for_list (K := K) (a := p) (xs := as.map V.ref) (fun i σ H2 => (∃ v3, σ = [some (.str x), some (.int wide), some (.ref L), v3]) ∧ Off L HB H2 ∧ strsAt H2 L ((((partsS x).take i).map (linesS wide)).flatten))
    ⟨⟨_, rfl⟩, .refl, by rw [List.take_zero]; exact eL⟩ (fun i σ H2 _ h2 => .of (h2.2.1 _ _ eP nPL)) ?_ ?_⟩
  · rintro i y σ H2 hi ⟨⟨v3, rfl⟩, o2, e2⟩
    obtain ⟨a, rfl, ha⟩ := ref_at hi
    obtain ⟨ws, hws, fa, nap, ea⟩ := paired_get pr ha
    have naL : a ≠ L := fun e => by
      rw [e, upd_same] at fa
      cases fa
    have ea2 : H2 a = some (.lst (ws.map V.str)) := o2 _ _ ea naL
    obtain ⟨d1, d2⟩ := c2 ws (List.mem_of_getElem? hws)
    have hil : i < (partsS x).length := (List.getElem?_eq_some_iff.mp hws).1
    refine ⟨_, rfl, .inl ⟨rfl, _, .of e2⟩, _, rfl, _, rfl, a, ws, wide, rfl, .of ea2, d1, d2, fun b H3 s3 nb eb => ?_⟩
    have e3 : H3 L = _ := s3 _ _ e2
    have nbL : b ≠ L := fun e => by
      rw [e, e2] at nb
      cases nb
    have ln : ((((partsS x).take i).map (linesS wide)).flatten).length ≤ 2001 * 2002 := by
      refine Nat.le_trans (flat_len (linesS wide) 2002 _ fun ws' h' => ?_) (Nat.mul_le_mul_right _ ?_)
      · have z1 := (c2 ws' (List.mem_of_mem_take h')).1
        have z2 := linesS_len wide ws'
        omega
      · rw [List.length_take]
        omega
    have l2 : (linesS wide ws).length ≤ 2002 := by
      have z2 := linesS_len wide ws
      omega
    refine ⟨L, b, _, _, rfl, rfl, e3, eb, ?_, ?_⟩
    · rw [List.length_map, List.length_map]
      exact bigl (by omega)
    · refine ⟨⟨_, rfl⟩, ?_, ?_⟩
      · exact (o2.trans (.of s3)).trans off_upd
      · show (upd H3 L _) L = _
        rw [upd_same, flat_take_succ (linesS wide) _ _ _ hws, List.map_append]
  · rintro σ H2 ⟨⟨v3, rfl⟩, o2, e2⟩
    have e : (partsS x).take (as.map V.ref).length = partsS x := by
      apply List.take_of_length_le
      rw [List.length_map, pr.length]
      exact Nat.le_refl _
    rw [e] at e2
    refine ⟨_, rfl, q L H2 (fun b o hb => ?_) nL e2⟩
    exact o2 _ _ (sB _ _ (same_upd nL _ _ hb)) (ne_of_none hb nL)
end

/-! ### signs that may stand -/
def okS (z : Str) : Prop := ∀ c ∈ TL.tl z, c < 128
theorem okS.app {a b : Str} (ha : okS a) (hb : okS b) : okS (a ++ b) := fun c hc => by
  rw [TL.tl_append] at hc
  rcases List.mem_append.mp hc with h | h
  · exact ha c h
  · exact hb c h
theorem okS.none : okS (Str.ofString "") := fun c hc => by rw [tl_none] at hc; cases hc
theorem okS.blank : okS (Str.ofString " ") := fun c hc => by
  rw [tl_blank] at hc
  simp at hc
  omega
theorem okS.feed : okS (Str.ofString "\n") := fun c hc => by
  rw [tl_feed] at hc
  simp at hc
  omega
theorem okS.cut {z : Str} (h : okS z) (lo hi : Option Int) : okS (cutS z lo hi) := fun c hc => by
  have h1 : c ∈ (z.cps.toList.drop (HT.sIx z.length 0 lo)).take (HT.sIx z.length z.length hi - HT.sIx z.length 0 lo) := hc
  exact h c (List.mem_of_mem_drop (List.mem_of_mem_take h1))
theorem okS.ok {z : Str} (h : okS z) : PyData.strOk z = true := by
  unfold PyData.strOk
  rw [← Array.all_toList, List.all_eq_true]
  intro c hc
  have := h c hc
  simp
  omega
theorem cutC_sub (s : Nat) : ∀ (l : List Nat), ∀ p ∈ cutC s l, ∀ c ∈ p, c ∈ l
  | [], p, h, c, hc => by simp [cutC] at h; rw [h] at hc; cases hc
  | d :: r, p, h, c, hc => by
    unfold cutC at h
    split at h
    · rcases List.mem_cons.mp h with e | h
      · rw [e] at hc; cases hc
      · exact List.mem_cons_of_mem _ (cutC_sub s r p h c hc)
    · cases e : cutC s r with
      | nil => exact absurd e (cutC_ne s r)
      | cons a t =>
        rw [e] at h
        rcases List.mem_cons.mp h with h | h
        · rw [h] at hc
          rcases List.mem_cons.mp hc with h2 | h2
          · rw [h2]; exact List.mem_cons_self
          · exact List.mem_cons_of_mem _ (cutC_sub s r a (by rw [e]; exact List.mem_cons_self) c h2)
        · exact List.mem_cons_of_mem _ (cutC_sub s r p (by rw [e]; exact List.mem_cons_of_mem _ h) c hc)
theorem okS.split {x y : Str} {s : Nat} (ey : TL.tl y = [s]) (hk : s < 256) (h : okS x) : ∀ p ∈ Txt.split x y, okS p := fun p hp c hc =>
  h c (cutC_sub s (TL.tl x) (TL.tl p) (by rw [← split_cut ey hk]; exact List.mem_map.mpr ⟨p, hp, rfl⟩) c hc)
theorem okS.parts {x : Str} (h : okS x) : ∀ ws ∈ partsS x, ∀ w ∈ ws, okS w := fun ws hws w hw => by
  obtain ⟨p, hp, rfl⟩ := List.mem_map.mp hws
  exact okS.split tl_blank (by decide) (okS.split tl_feed (by decide) h p hp) w (List.mem_filter.mp hw).1
theorem okS_linesGo {wide : Int} : ∀ {ws : List Str} {cur : Str}, okS cur → (∀ w ∈ ws, okS w) → ∀ l ∈ linesGo wide cur ws, okS l
  | [], cur, hc, _, l, hl => by
    rw [List.mem_singleton.mp (show l ∈ [cur] from hl)]
    exact hc
  | w :: r, cur, hc, hw, l, hl => by
    unfold linesGo at hl
    have hw0 := hw w List.mem_cons_self
    have hwr : ∀ v ∈ r, okS v := fun v hv => hw v (List.mem_cons_of_mem _ hv)
    split at hl
    · exact okS_linesGo ((hc.app okS.blank).app hw0) hwr l hl
    · rcases List.mem_cons.mp hl with e | hl
      · rw [e]; exact hc
      · exact okS_linesGo hw0 hwr l hl
theorem okS.lines {wide : Int} {ws : List Str} (hw : ∀ w ∈ ws, okS w) : ∀ l ∈ linesS wide ws, okS l := fun l hl => by
  cases ws with
  | nil =>
    rw [List.mem_singleton.mp (show l ∈ [Str.ofString ""] from hl)]
    exact okS.none
  | cons w r => exact okS_linesGo (hw w List.mem_cons_self) (fun v hv => hw v (List.mem_cons_of_mem _ hv)) l hl
theorem okS.wrapped {x : Str} {wide : Int} (h : okS x) : ∀ l ∈ wrappedS x wide, okS l := fun l hl => by
  obtain ⟨ls, h1, h2⟩ := List.mem_flatten.mp hl
  obtain ⟨ws, h3, rfl⟩ := List.mem_map.mp h1
  exact okS.lines (h.parts ws h3) l h2
/-! ### lists of texts as data -/
def dat (ws : List Str) : PyData := .list (ws.map PyData.str)
theorem dp_all {K : PySem.W.Frag} {H : Hp} : ∀ ws : List Str, DpAll K H (ws.map V.str) (ws.map PyData.str)
  | [] => .nil
  | w :: r => .cons (.str w) (dp_all r)
theorem dp_strs {K : PySem.W.Frag} {H : Hp} {a : Addr} {ws : List Str} (h : SqL K H a (ws.map V.str)) : Dp K H (.ref a) (dat ws) := .lst h (dp_all ws)
theorem can_strs : ∀ ws : List Str, (∀ w ∈ ws, okS w) → PyData.canLayAll0 (ws.map PyData.str) = true
  | [], _ => rfl
  | w :: r, h => by
    show (PyData.strOk w && PyData.canLayAll0 (r.map PyData.str)) = true
    rw [(h w List.mem_cons_self).ok, can_strs r fun v hv => h v (List.mem_cons_of_mem _ hv)]
    rfl
theorem depth_strs : ∀ ws : List Str, PyData.depthAll (ws.map PyData.str) = 0
  | [] => rfl
  | w :: r => by
    show max 0 (PyData.depthAll (r.map PyData.str)) = 0
    rw [depth_strs r]
    rfl
theorem shaped_strs {ws : List Str} (h : ∀ w ∈ ws, okS w) : SeqAt.shaped (dat ws) = true := by
  unfold SeqAt.shaped dat
  rw [Bool.and_eq_true]
  refine ⟨can_strs ws h, ?_⟩
  show decide (PyData.depthAll (ws.map PyData.str) + 1 ≤ 64) = true
  rw [depth_strs]
  rfl
theorem eqv_dat : ∀ ws vs : List Str, PyData.eqv (dat ws) (dat vs) = decide (ws = vs) := by
  have key : ∀ ws vs : List Str, PyData.eqvAll (ws.map PyData.str) (vs.map PyData.str) = decide (ws = vs) := by
    intro ws
    induction ws with
    | nil =>
      intro vs
      cases vs with
      | nil => rfl
      | cons v r => simp [PyData.eqvAll]
    | cons w r ih =>
      intro vs
      cases vs with
      | nil => simp [PyData.eqvAll]
      | cons v q =>
        show (PyData.eqv (.str w) (.str v) && PyData.eqvAll (r.map PyData.str) (q.map PyData.str)) = _
        rw [ih q]
        show ((w == v) && decide (r = q)) = _
        by_cases h1 : w = v
        · by_cases h2 : r = q
          · simp [h1, h2]
          · simp [h1, h2]
        · simp [h1]
  intro ws vs
  exact key ws vs

/-! ### texts that are drawn -/
section
variable {X : Cx}
theorem op_rep_str : OpR X (binaryOp .Mult) (fun x y H Q => ∃ (c : Nat) (n : Int), x = .str ⟨#[c]⟩ ∧ y = .int n ∧ 0 ≤ n ∧ n ≤ 1000 ∧ ∀ out : Str, TL.tl out = List.replicate n.toNat c → Q (.str out) H) := by
  intro pins s σ H x y v u Q I rx ry h
  obtain ⟨c, n, rfl, rfl, n0, n1, q⟩ := h
  obtain ⟨t, rfl⟩ := rx
  obtain ⟨t2, rfl⟩ := ry
  have hz : (⟨#[c]⟩ : Str).length = 1 := rfl
  refine PySem.SB.mul ⟨?_, fun h1 _ => ?_, fun _ _ => ?_⟩ fun t' k => ⟨.str _, H, I.tok k, ⟨t', rfl⟩, q _ (PyProof.Rows.mul_one_list c n)⟩
  · rw [decide_eq_false (by omega), decide_eq_false (by omega)]
    rfl
  · have h2 : (2 ^ 63 - 1) / n ≥ (2 ^ 63 - 1) / 1000 := by
      have h3 : (2 ^ 63 - 1 : Int) / 1000 * n ≤ (2 ^ 63 - 1) / 1000 * 1000 := Int.mul_le_mul_of_nonneg_left n1 (by decide)
      exact Int.le_ediv_of_mul_le (by omega) (Int.le_trans h3 (by decide))
    have h4 : (2 ^ 63 - 1 : Int) / 1000 > 1000 := by decide
    rw [hz]
    omega
  · unfold Builtin.Str.tooLong
    rw [sizeLine_eq, hz]
    simp
    omega
end
theorem v_feed : V.str (Str.ofString "\n") = V.str ⟨#[10]⟩ := congrArg V.str (TL.ext_tl tl_feed)
theorem v_blank : V.str (Str.ofString " ") = V.str ⟨#[32]⟩ := congrArg V.str (TL.ext_tl tl_blank)
theorem okS_rep {out : Str} {n c : Nat} (h : TL.tl out = List.replicate n c) (hc : c < 128) : okS out ∧ out.length = n := by
  constructor
  · intro d hd
    rw [h] at hd
    rw [List.eq_of_mem_replicate hd]
    exact hc
  · rw [TL.len_tl, h, List.length_replicate]
theorem for_str {x : Str} {g : TG} {tb : TS} {D : Ends} {σ : L2.St} {H : Hp} (Pv : Nat → L2.St → Hp → Prop) (h0 : Pv 0 σ H)
    (hs : ∀ i c σ H, (TL.tl x)[i]? = some c → Pv i σ H → g (.str ⟨#[c]⟩) σ H fun σ2 H2 => tb { D with nx := Pv (i + 1), ct := Pv (i + 1), bk := D.nx } σ2 H2) (hd : ∀ σ H, Pv (TL.tl x).length σ H → D.nx σ H) :
    ∃ W : Nat → Nat → L2.St → Hp → Prop, (∃ m, W 0 m σ H) ∧ ∀ i m σ H, W i m σ H →
      ((Its x).stop i H ∧ D.nx σ H) ∨ ((Its x).go i H ∧ ∃ N : L2.St → Hp → Prop, (∀ σ' H', N σ' H' → ∃ m', m' < m ∧ W (i + 1) m' σ' H') ∧ ∀ y H', (Its x).yld i H y H' → g y σ H' fun σ2 H2 => tb { D with nx := N, ct := N, bk := D.nx } σ2 H2) := by
  have ex : x.cps.size = (TL.tl x).length := by simp [TL.tl]
  refine ⟨fun i m σ H => m = (TL.tl x).length - i ∧ i ≤ (TL.tl x).length ∧ Pv i σ H, ⟨_, rfl, Nat.zero_le _, h0⟩, ?_⟩
  rintro i m σ H ⟨rfl, hi, p⟩
  by_cases hl : i < (TL.tl x).length
  · refine .inr ⟨by show i < x.cps.size; omega, Pv (i + 1), fun σ' H' p' => ⟨_, by omega, rfl, hl, p'⟩, ?_⟩
    rintro y H' ⟨rfl, c, hc, rfl⟩
    refine hs i c _ _ ?_ p
    simpa [TL.tl] using hc
  · have e : i = (TL.tl x).length := by omega
    subst e
    exact .inl ⟨by show x.cps.size ≤ _; omega, hd _ _ p⟩
def spWord : Sp := fun vs H Q _ => ∃ p : Addr, vs = [.ref p] ∧ Src H p ∧ ∀ (z : Str) H', z.length ≤ 40 → okS z → Src H' p → Off p H H' → Q (.str z) H'
def spText : Sp := fun vs H Q _ => ∃ (p : Addr) (most : Nat), vs = [.ref p, .int (most : Int)] ∧ Src H p ∧ ∀ (z : Str) H', z.length ≤ most → okS z → Src H' p → Off p H H' → Q (.str z) H'
theorem joinL_nil_len : ∀ l : List (List Nat), (∀ w ∈ l, w.length ≤ 1) → (TL.joinL [] l).length ≤ l.length
  | [], _ => Nat.le_refl _
  | [w], h => by
    have := h w List.mem_cons_self
    show w.length ≤ 1
    exact this
  | w :: v :: r, h => by
    have h1 := h w List.mem_cons_self
    have h2 := joinL_nil_len (v :: r) fun z hz => h z (List.mem_cons_of_mem _ hz)
    show (w ++ ([] ++ TL.joinL [] (v :: r))).length ≤ _
    simp only [List.nil_append, List.length_append, List.length_cons] at h2 ⊢
    omega
theorem join_none_len {ys : List Str} (h : ∀ y ∈ ys, y.length ≤ 1) : (Txt.join (Str.ofString "") ys).length ≤ ys.length := by
  rw [TL.join_eq, TL.len_tl, TL.tl_join, tl_none]
  refine Nat.le_trans (joinL_nil_len _ ?_) (by rw [List.length_map]; exact Nat.le_refl _)
  intro w hw
  obtain ⟨y, hy, rfl⟩ := List.mem_map.mp hw
  rw [← TL.len_tl]
  exact h y hy
theorem joinL_nil_ok : ∀ l : List (List Nat), (∀ w ∈ l, ∀ c ∈ w, c < 128) → ∀ c ∈ TL.joinL [] l, c < 128
  | [], _, c, hc => by cases hc
  | [w], h, c, hc => h w List.mem_cons_self c hc
  | w :: v :: r, h, c, hc => by
    rcases List.mem_append.mp (show c ∈ w ++ ([] ++ TL.joinL [] (v :: r)) from hc) with h1 | h1
    · exact h w List.mem_cons_self c h1
    · exact joinL_nil_ok (v :: r) (fun z hz => h z (List.mem_cons_of_mem _ hz)) c h1
theorem join_none_ok {ys : List Str} (h : ∀ y ∈ ys, okS y) : okS (Txt.join (Str.ofString "") ys) := fun c hc => by
  rw [TL.join_eq, TL.tl_join, tl_none] at hc
  refine joinL_nil_ok _ ?_ c hc
  intro w hw
  obtain ⟨y, hy, rfl⟩ := List.mem_map.mp hw
  exact h y hy
theorem lit_ok : ∀ c ∈ TL.tl (Str.ofString "!\"#$&'()*+,-./0123456789:;<=>?@ABCDEFGHIJKLMNOPQRSTUVWXYZ[\\]^_`abcdefghijklmnopqrstuvwxyz{}~"), c < 128 := by decide +kernel
theorem sum_ones : ∀ (ys : List Str), (∀ y ∈ ys, y.length ≤ 1) → (ys.map (·.length)).sum ≤ ys.length
  | [], _ => by simp
  | y :: r, h => by
    have h1 := h y List.mem_cons_self
    have h2 := sum_ones r fun z hz => h z (List.mem_cons_of_mem _ hz)
    simp
    omega
theorem cut_most (z : Str) (most : Nat) : (cutS z none (some (most : Int))).length ≤ most := by
  show (((z.cps.toList.drop (HT.sIx z.length 0 none)).take (HT.sIx z.length z.length (some (most : Int)) - HT.sIx z.length 0 none)).toArray).size ≤ most
  rw [List.size_toArray, List.length_take, HT.sIx_none, show HT.sIx z.length z.length (some (most : Int)) = min most z.length from HT.sIx_nat _ _ most]
  omega
section
variable {P : Program} {w : World} {K : PySem.W.Frag} {mg : Str → Option Value} {base : Heap}
theorem ok_word (T : Txt K mg) : Ok P w K mg base CX0 "_law_word" s_word 3 ["_law_source_here"] spWord := by
  have O_next := ok_next (P := P) (w := w) (base := base) T
  refine T.h_word.ok sc_word (fun vs H Q E h => ?_) (fun f cdv A outer s H vs Q E hr h => ?_)
  · obtain ⟨p, rfl, _⟩ := h; rfl
  obtain ⟨p, rfl, hs, q⟩ := h
  refine ⟨_, (pss_cons (ps_set (i := 1) sc_word.nd rfl (by first | exact Or.inl rfl | exact Or.inr rfl) pe_str)
      (pss_cons (ps_set (i := 2) sc_word.nd rfl (by first | exact Or.inl rfl | exact Or.inr rfl) (pe_op op_add pe_int (callO O_next (hr.mono (by decide)) (by rfl) (pa_cons (pv 0) (pa_cons (pe_ix ix_list (pe_lst (pa_cons pe_int (pa_cons pe_int (pa_cons pe_int (pa_cons pe_int pa_nil))))) (callO O_next (hr.mono (by decide)) (by rfl) (pa_cons (pv 0) (pa_cons pe_int pa_nil))) (fun _ _ => rfl)) pa_nil)))))
      (pss_cons (ps_set (i := 3) sc_word.nd rfl (by first | exact Or.inl rfl | exact Or.inr rfl) (callO O_next (hr.mono (by decide)) (by rfl) (pa_cons (pv 0) (pa_cons pe_int pa_nil))))
      (pss_cons (ps_set (i := 4) sc_word.nd rfl (by first | exact Or.inl rfl | exact Or.inr rfl) (callO O_next (hr.mono (by decide)) (by rfl) (pa_cons (pv 0) (pa_cons pe_int pa_nil))))
      (pss_one (ps_ret (pe_join pe_str (pe_lc (own := [("_law_k", 5)]) (by rfl) sc_word.nd (pi_range1 (by rfl) T.m_range (pa_cons (pv 2) pa_nil)) (blkOk_by (own := [("_law_k", 5)]) (N := n_word) (sc := defScope s_word) (by decide +kernel)) (fun _ _ _ _ _ => (pg_name (i := 5) sc_word.nd rfl (by first | exact Or.inl rfl | exact Or.inr rfl))) (fun _ _ _ _ _ => pts_nil) (fun _ _ _ _ _ => (pe_ix ix_str (pv 1) (pe_op op_mod (pe_op op_add (pv 3) (pe_op op_mul (pv 4) (pv 5))) pe_int) (fun _ _ => rfl))))))))))), ?_⟩
  refine ⟨_, rfl, (by show 4 ≤ sizeLine; decide), fun l1 n1 => ?_⟩
  refine ⟨_, rfl, p, 4, rfl, by decide, by decide, hs.keep n1, fun r1 H1 a1 b1 s1 o1 => ?_⟩
  obtain ⟨m, ha, m0, m1⟩ : ∃ m : Int, atI [V.int 2, V.int 5, V.int 9, V.int 40] r1 = some (.int m) ∧ 0 < m ∧ m ≤ 40 := by
    rcases (show r1 = 0 ∨ r1 = 1 ∨ r1 = 2 ∨ r1 = 3 by omega) with rfl | rfl | rfl | rfl
    · exact ⟨2, rfl, by decide, by decide⟩
    · exact ⟨5, rfl, by decide, by decide⟩
    · exact ⟨9, rfl, by decide, by decide⟩
    · exact ⟨40, rfl, by decide, by decide⟩
  refine ⟨l1, _, _, _, rfl, rfl, .of (o1 _ _ upd_same (hs.ne_new n1)), ha, ?_⟩
  refine ⟨p, m, rfl, m0, by omega, s1, fun r2 H2 a2 b2 s2 o2 => ⟨_, _, rfl, rfl, ?_⟩⟩
  refine ⟨_, rfl, p, 92, rfl, by decide, by decide, s2, fun r3 H3 a3 b3 s3 o3 => ?_⟩
  refine ⟨_, rfl, p, 92, rfl, by decide, by decide, s3, fun r4 H4 a4 b4 s4 o4 => ?_⟩
  refine ⟨⟨_, rfl⟩, _, rfl, _, rfl, by omega, by omega, fun D nD => ?_⟩
  refine lc_range (lo := 0) (n := (1 + r2).toNat) (fun i H' => ∃ ys : List Str, strsAt H' D ys ∧ ys.length = i ∧ (∀ y ∈ ys, y.length ≤ 1 ∧ okS y) ∧ Same H4 H')
    ⟨[], upd_same, rfl, (fun y hy => by cases hy), same_upd nD⟩ ?_ ?_
  · rintro i H' hi ⟨ys, eD, el, hy, sm⟩
    refine ⟨rfl, yes_if ?_⟩
    have hk : (0 : Int) ≤ (r3 + r4 * (0 + i)) % 92 ∧ (r3 + r4 * (0 + i)) % 92 < 92 := ⟨Int.emod_nonneg _ (by decide), Int.emod_lt_of_pos _ (by decide)⟩
    refine ⟨_, rfl, _, rfl, _, rfl, _, rfl, _, _, rfl, rfl, .inl ⟨by omega, by omega⟩, _, _, rfl, rfl, _, _, rfl, rfl, (by show (0 : Int) < 92; decide), ?_⟩
    obtain ⟨c, hcm, hc⟩ := atI_mem (xs := (TL.tl (Str.ofString "!\"#$&'()*+,-./0123456789:;<=>?@ABCDEFGHIJKLMNOPQRSTUVWXYZ[\\]^_`abcdefghijklmnopqrstuvwxyz{}~"))) (i := (r3 + r4 * (0 + i)) % 92) hk.1 (by
      rw [show (TL.tl (Str.ofString "!\"#$&'()*+,-./0123456789:;<=>?@ABCDEFGHIJKLMNOPQRSTUVWXYZ[\\]^_`abcdefghijklmnopqrstuvwxyz{}~")).length = 92 by decide +kernel]
      exact hk.2)
    refine ⟨_, _, c, rfl, rfl, bigl (by decide +kernel), hc, _, eD, ?_, ys ++ [⟨#[c]⟩], ?_, ?_, ?_, ?_⟩
    · rw [List.length_map]
      exact big (by omega)
    · show (upd H' D _) D = _
      rw [upd_same, List.map_append]
      rfl
    · simp [el]
    · intro y hy2
      rcases List.mem_append.mp hy2 with h | h
      · exact hy y h
      · rw [List.mem_singleton.mp h]
        refine ⟨Nat.le_refl _, fun d hd => ?_⟩
        have e : d = c := List.mem_singleton.mp (show d ∈ [c] from hd)
        rw [e]
        exact lit_ok c hcm
    · intro b o hb
      have nb : b ≠ D := ne_of_none hb nD
      rw [upd_ne nb]
      exact sm _ _ hb
  · rintro H' ⟨ys, eD, el, hy, sm⟩
    have hl : ys.length ≤ 40 := by omega
    have hsum := sum_ones ys fun y h => (hy y h).1
    refine ⟨_, _, ys, rfl, rfl, .inl (.of eD), ?_, ?_⟩
    · have : ys.length * (Str.ofString "").length = 0 := by
        rw [show (Str.ofString "").length = 0 from rfl]
        exact Nat.mul_zero _
      omega
    · refine q _ H' (Nat.le_trans (join_none_len fun y h => (hy y h).1) hl) (join_none_ok fun y h => (hy y h).2) (s4.same sm) ?_
      exact (off_new n1).trans (o1.trans (o2.trans (o3.trans (o4.trans (.of sm)))))
theorem ok_text (T : Txt K mg) : Ok P w K mg base CX0 "_law_text" s_text 4 ["_law_source_here", "_law_most"] spText := by
  have O_next := ok_next (P := P) (w := w) (base := base) T
  have O_word := ok_word (P := P) (w := w) (base := base) T
  refine T.h_text.ok sc_text (fun vs H Q E h => ?_) (fun f cdv A outer s H vs Q E hr h => ?_)
  · obtain ⟨p, most, rfl, _⟩ := h; rfl
  obtain ⟨p, most, rfl, hs, q⟩ := h
  refine ⟨_, (pss_cons (ps_set (i := 2) sc_text.nd rfl (by first | exact Or.inl rfl | exact Or.inr rfl) pe_str)
      (pss_cons (ps_for PassesOwn.never rfl (pi_range1 (by rfl) T.m_range (pa_cons (callO O_next (hr.mono (by decide)) (by rfl) (pa_cons (pv 0) (pa_cons (pe_ix ix_list (pe_lst (pa_cons pe_int (pa_cons pe_int (pa_cons pe_int pa_nil)))) (callO O_next (hr.mono (by decide)) (by rfl) (pa_cons (pv 0) (pa_cons pe_int pa_nil))) (fun _ _ => rfl)) pa_nil))) pa_nil)) (pg_name (i := 3) sc_text.nd rfl (by first | exact Or.inl rfl | exact Or.inr rfl))
      (pss_cons (ps_set (i := 4) sc_text.nd rfl (by first | exact Or.inl rfl | exact Or.inr rfl) (callO O_next (hr.mono (by decide)) (by rfl) (pa_cons (pv 0) (pa_cons pe_int pa_nil))))
      (pss_cons (ps_if (pt_cmpR op_eq (pv 4) pe_int (nomark _))
      (pss_one (ps_set (i := 2) sc_text.nd rfl (by first | exact Or.inl rfl | exact Or.inr rfl) (pe_op op_add_str (pv 2) (pe_op op_rep_str pe_str (pe_op op_add pe_int (callO O_next (hr.mono (by decide)) (by rfl) (pa_cons (pv 0) (pa_cons pe_int pa_nil))))))))
      pss_nil)
      (pss_cons (ps_if (pt_cmpR op_eq (pv 4) pe_int (nomark _))
      (pss_one (ps_set (i := 2) sc_text.nd rfl (by first | exact Or.inl rfl | exact Or.inr rfl) (pe_op op_add_str (pv 2) (pe_op op_rep_str pe_str (pe_op op_add pe_int (callO O_next (hr.mono (by decide)) (by rfl) (pa_cons (pv 0) (pa_cons pe_int pa_nil))))))))
      pss_nil)
      (pss_one (ps_if (pt_cmpR op_gt (pv 4) pe_int (nomark _))
      (pss_one (ps_set (i := 2) sc_text.nd rfl (by first | exact Or.inl rfl | exact Or.inr rfl) (pe_op op_add_str (pe_op op_add_str (pv 2) (callO O_word (hr.mono (by decide)) (by rfl) (pa_cons (pv 0) pa_nil))) (pe_ix ix_list (pe_lst (pa_cons pe_str (pa_cons pe_str (pa_cons pe_str (pa_cons pe_str pa_nil))))) (callO O_next (hr.mono (by decide)) (by rfl) (pa_cons (pv 0) (pa_cons pe_int pa_nil))) (fun _ _ => rfl)))))
      pss_nil))))))
      (pss_one (ps_ret (pe_slice sl_str (pv 2) po_none (po_some (pv 1))))))), ?_⟩
  refine ⟨_, rfl, (by show 3 ≤ sizeLine; decide), fun l1 n1 => ?_⟩
  refine ⟨_, rfl, p, 3, rfl, by decide, by decide, hs.keep n1, fun r1 H1 a1 b1 s1 o1 => ?_⟩
  obtain ⟨m, ha, m0, m1⟩ : ∃ m : Int, atI [V.int 3, V.int 12, V.int 40] r1 = some (.int m) ∧ 0 < m ∧ m ≤ 40 := by
    rcases (show r1 = 0 ∨ r1 = 1 ∨ r1 = 2 by omega) with rfl | rfl | rfl
    · exact ⟨3, rfl, by decide, by decide⟩
    · exact ⟨12, rfl, by decide, by decide⟩
    · exact ⟨40, rfl, by decide, by decide⟩
  refine ⟨l1, _, _, _, rfl, rfl, .of (o1 _ _ upd_same (hs.ne_new n1)), ha, ?_⟩
  refine ⟨p, m, rfl, m0, by omega, s1, fun r2 H2 a2 b2 s2 o2 => ?_⟩
  have oA : Off p H H2 := (off_new n1).trans (o1.trans o2)
  refine ⟨r2, rfl, by omega, by omega, for_range (lo := 0) (n := r2.toNat) (fun i σ H' => (∃ (z : Str) (v3 v4 : Option V), z.length ≤ i * 45 ∧ okS z ∧ σ = [some (.ref p), some (.int (most : Int)), some (.str z), v3, v4]) ∧ Src H' p ∧ Off p H H')
    ⟨⟨_, _, _, Nat.zero_le _, okS.none, rfl⟩, s2, oA⟩ ?_ ?_⟩
  · rintro i σ H' hi ⟨⟨z, v3, v4, hz, okz, rfl⟩, sH, oH⟩
    refine ⟨_, rfl, p, 8, rfl, by decide, by decide, sH, fun r3 H3 a3 b3 s3 o3 => ?_⟩
    have o3' : Off p H H3 := oH.trans o3
    have hz2 : (i + 1) * 45 = i * 45 + 45 := by omega
    have zb : z.length ≤ 2000 := Nat.le_trans hz (Nat.le_trans (Nat.mul_le_mul_right 45 (show i ≤ 40 by omega)) (by decide))
    have no2 : ∀ {k : Int}, r3 = k → ¬ k = 0 → ¬ decide (V.int r3 = V.int 0) = true := fun e n h => n (e ▸ V.int.inj (of_decide_eq_true h))
    have no1 : ∀ {k : Int}, r3 = k → ¬ k = 1 → ¬ decide (V.int r3 = V.int 1) = true := fun e n h => n (e ▸ V.int.inj (of_decide_eq_true h))
    rcases (show r3 = 0 ∨ r3 = 1 ∨ 1 < r3 by omega) with e | e | e
    · refine ⟨_, rfl, rfl, _, rfl, ite2 (fun _ => ?_) (fun h => absurd (decide_eq_true (congrArg V.int e)) h)⟩
      refine ⟨_, rfl, _, rfl, p, 2, rfl, by decide, by decide, s3, fun r4 H4 a4 b4 s4 o4 => ⟨_, _, rfl, rfl, ?_⟩⟩
      refine ⟨10, _, v_feed, rfl, by omega, by omega, fun out ho => ?_⟩
      obtain ⟨ok4, ol4⟩ := okS_rep ho (by decide)
      have ho2 : out.length ≤ 2 := by omega
      refine ⟨_, _, rfl, rfl, bigl (by omega), ?_⟩
      refine ⟨_, rfl, rfl, _, rfl, ite2 (fun h => absurd h (no1 e (by decide))) (fun _ => ?_)⟩
      refine ⟨_, rfl, _, _, rfl, rfl, _, rfl, ite2 (fun h => ?_) (fun _ => ?_)⟩
      · have := of_decide_eq_true h; omega
      · exact ⟨⟨z ++ out, _, _, by rw [len_append]; omega, okz.app ok4, rfl⟩, s4, o3'.trans o4⟩
    · refine ⟨_, rfl, rfl, _, rfl, ite2 (fun h => absurd h (no2 e (by decide))) (fun _ => ?_)⟩
      refine ⟨_, rfl, rfl, _, rfl, ite2 (fun _ => ?_) (fun h => absurd (decide_eq_true (congrArg V.int e)) h)⟩
      refine ⟨_, rfl, _, rfl, p, 3, rfl, by decide, by decide, s3, fun r4 H4 a4 b4 s4 o4 => ⟨_, _, rfl, rfl, ?_⟩⟩
      refine ⟨32, _, v_blank, rfl, by omega, by omega, fun out ho => ?_⟩
      obtain ⟨ok4, ol4⟩ := okS_rep ho (by decide)
      have ho2 : out.length ≤ 3 := by omega
      refine ⟨_, _, rfl, rfl, bigl (by omega), ?_⟩
      refine ⟨_, rfl, _, _, rfl, rfl, _, rfl, ite2 (fun h => ?_) (fun _ => ?_)⟩
      · have := of_decide_eq_true h; omega
      · exact ⟨⟨z ++ out, _, _, by rw [len_append]; omega, okz.app ok4, rfl⟩, s4, o3'.trans o4⟩
    · refine ⟨_, rfl, rfl, _, rfl, ite2 (fun h => ?_) (fun _ => ?_)⟩
      · have := V.int.inj (of_decide_eq_true h); omega
      refine ⟨_, rfl, rfl, _, rfl, ite2 (fun h => ?_) (fun _ => ?_)⟩
      · have := V.int.inj (of_decide_eq_true h); omega
      refine ⟨_, rfl, _, _, rfl, rfl, _, rfl, ite2 (fun _ => ?_) (fun h => absurd (decide_eq_true e) h)⟩
      refine ⟨_, rfl, _, rfl, p, rfl, s3, fun wd H4 hwd okw s4 o4 => ?_⟩
      refine ⟨_, _, rfl, rfl, bigl (by omega), ?_⟩
      refine ⟨(by show 4 ≤ sizeLine; decide), fun l5 n5 => ?_⟩
      refine ⟨_, rfl, p, 4, rfl, by decide, by decide, s4.keep n5, fun r5 H5 a5 b5 s5 o5 => ?_⟩
      obtain ⟨tail, hat, htl, okt⟩ : ∃ t : Str, atI [V.str (Str.ofString " "), V.str (Str.ofString " "), V.str (Str.ofString " "), V.str (Str.ofString "")] r5 = some (.str t) ∧ t.length ≤ 1 ∧ okS t := by
        rcases (show r5 = 0 ∨ r5 = 1 ∨ r5 = 2 ∨ r5 = 3 by omega) with rfl | rfl | rfl | rfl
        · exact ⟨_, rfl, by decide +kernel, okS.blank⟩
        · exact ⟨_, rfl, by decide +kernel, okS.blank⟩
        · exact ⟨_, rfl, by decide +kernel, okS.blank⟩
        · exact ⟨_, rfl, by decide +kernel, okS.none⟩
      refine ⟨l5, _, _, _, rfl, rfl, .of (o5 _ _ upd_same (s4.ne_new n5)), hat, ?_⟩
      refine ⟨_, _, rfl, rfl, bigl (by rw [len_append]; omega), ?_⟩
      exact ⟨⟨z ++ wd ++ tail, _, _, by rw [len_append, len_append]; omega, (okz.app okw).app okt, rfl⟩, s5, o3'.trans (o4.trans ((off_new n5).trans o5))⟩
  · rintro σ H' ⟨⟨z, v3, v4, hz, okz, rfl⟩, sH, oH⟩
    have zb : z.length ≤ 2000 := Nat.le_trans hz (Nat.le_trans (Nat.mul_le_mul_right 45 (show r2.toNat ≤ 40 by omega)) (by decide))
    refine ⟨_, rfl, _, rfl, _, rfl, _, rfl, bigl (by omega), ?_⟩
    exact q _ H' (cut_most z most) (okz.cut _ _) sH oH
end

/-! ### the law's own parts of a text -/
def flushC (last : List (List Nat)) (word : List Nat) : List (List Nat) := if word = [] then last else last ++ [word]
def scanC : List Nat → List (List Nat) → List Nat → List (List (List Nat))
  | [], last, word => [flushC last word]
  | c :: r, last, word => if c = 10 then flushC last word :: scanC r [] [] else if c = 32 then scanC r (flushC last word) [] else scanC r last (word ++ [c])
def keepC (l : List (List Nat)) : List (List Nat) := l.filter fun w => !w.isEmpty
theorem flush_keep (last : List (List Nat)) (word : List Nat) (t : List (List Nat)) : last ++ keepC (word :: t) = flushC last word ++ keepC t := by
  unfold flushC keepC
  cases word with
  | nil => simp
  | cons a b => simp
/-- the first part goes on with what is pending -/
def pend (last : List (List Nat)) (word : List Nat) : List (List Nat) → List (List (List Nat))
  | [] => []
  | h :: t => (last ++ keepC (appHead word (cutC 32 h))) :: t.map wordsC
theorem scan_pend : ∀ (l : List Nat) (last : List (List Nat)) (word : List Nat), scanC l last word = pend last word (cutC 10 l)
  | [], last, word => by
    show [flushC last word] = [last ++ keepC [word ++ []]]
    rw [List.append_nil, flush_keep]
    simp [keepC]
  | c :: r, last, word => by
    unfold scanC cutC
    by_cases h : c = 10
    · rw [if_pos h, if_pos h, scan_pend r [] []]
      show _ = (last ++ keepC [word ++ []]) :: (cutC 10 r).map wordsC
      rw [List.append_nil, flush_keep]
      congr 1
      · simp [keepC]
      · cases e : cutC 10 r with
        | nil => exact absurd e (cutC_ne 10 r)
        | cons a t =>
          show ([] ++ keepC (appHead [] (cutC 32 a))) :: t.map wordsC = wordsC a :: t.map wordsC
          rw [appHead_nil (cutC_ne 32 a)]
          rfl
    · rw [if_neg h, if_neg h]
      cases e : cutC 10 r with
      | nil => exact absurd e (cutC_ne 10 r)
      | cons a t =>
        show _ = (last ++ keepC (appHead word (cutC 32 (c :: a)))) :: t.map wordsC
        by_cases h2 : c = 32
        · rw [if_pos h2, scan_pend r, e]
          show (flushC last word ++ keepC (appHead [] (cutC 32 a))) :: _ = _
          rw [appHead_nil (cutC_ne 32 a)]
          have e2 : cutC 32 (c :: a) = [] :: cutC 32 a := by
            show (if c = 32 then _ else _) = _
            rw [if_pos h2]
          rw [e2]
          show _ = (last ++ keepC ((word ++ []) :: cutC 32 a)) :: _
          rw [List.append_nil, flush_keep]
        · rw [if_neg h2, scan_pend r, e]
          show (last ++ keepC (appHead (word ++ [c]) (cutC 32 a))) :: _ = _
          have e2 : cutC 32 (c :: a) = consHead c (cutC 32 a) := by
            show (if c = 32 then _ else _) = _
            rw [if_neg h2]
          rw [e2, appHead_cons]
theorem scan_parts (l : List Nat) : scanC l [] [] = partsC l := by
  rw [scan_pend]
  unfold partsC
  cases e : cutC 10 l with
  | nil => exact absurd e (cutC_ne 10 l)
  | cons a t =>
    show ([] ++ keepC (appHead [] (cutC 32 a))) :: t.map wordsC = wordsC a :: t.map wordsC
    rw [appHead_nil (cutC_ne 32 a)]
    rfl

/-- the same over the signs with a line feed behind -/
theorem map_map_inj : ∀ {l m : List (List Str)}, l.map (·.map TL.tl) = m.map (·.map TL.tl) → l = m
  | [], [], _ => rfl
  | [], _ :: _, h => by simp at h
  | _ :: _, [], h => by simp at h
  | x :: l, y :: m, h => by
    rw [List.map_cons, List.map_cons] at h
    injection h with h1 h2
    rw [TL.map_tl_inj h1, map_map_inj h2]
def spWordsOf : Sp := fun vs H Q _ => ∃ x : Str, vs = [.str x] ∧ x.length ≤ 1000 ∧ ∀ (p : Addr) (as : List Addr) (H' : Hp), Same H H' → H p = none → H' p = some (.lst (as.map V.ref)) →
  Paired (fun a ws => H a = none ∧ a ≠ p ∧ strsAt H' a ws) as (partsS x) → Q (.ref p) H'
theorem paired_take {α β : Type} {G : α → β → Prop} : ∀ {l : List α} {m : List β}, Paired G l m → l.length = m.length
  | _, _, .nil => rfl
  | _, _, .cons _ r => congrArg Nat.succ (paired_take r)
theorem drop_at {l : List Nat} {i c : Nat} (h : l[i]? = some c) : l.drop i = c :: l.drop (i + 1) := by
  obtain ⟨h1, h2⟩ := List.getElem?_eq_some_iff.mp h
  rw [List.drop_eq_getElem_cons h1, h2]
section
variable {P : Program} {w : World} {K : PySem.W.Frag} {mg : Str → Option Value} {base : Heap}
theorem ok_words (T : Txt K mg) : Ok P w K mg base CX0 "_law_words" s_words 1 ["_law_text_here"] spWordsOf := by
  refine T.h_words.ok sc_words (fun vs H Q E h => ?_) (fun f cdv A outer s H vs Q E hr h => ?_)
  · obtain ⟨x, rfl, _⟩ := h; rfl
  obtain ⟨x, rfl, hx, q⟩ := h
  refine ⟨_, (pss_cons (ps_set (i := 1) sc_words.nd rfl (by first | exact Or.inl rfl | exact Or.inr rfl) (pe_lst (pa_cons (pe_lst pa_nil) pa_nil)))
      (pss_cons (ps_set (i := 2) sc_words.nd rfl (by first | exact Or.inl rfl | exact Or.inr rfl) pe_str)
      (pss_cons (ps_for PassesOwn.never rfl (pi_str (pe_op op_add_str (pv 0) pe_str)) (pg_name (i := 3) sc_words.nd rfl (by first | exact Or.inl rfl | exact Or.inr rfl))
      (pss_cons (ps_if (pt_cmpR op_notIn_sign (pv 3) pe_str (by rfl))
      (pss_one (ps_set (i := 2) sc_words.nd rfl (by first | exact Or.inl rfl | exact Or.inr rfl) (pe_op op_add_str (pv 2) (pv 3))))
      (pss_one (ps_if (pt_cmpR op_ne (pv 2) pe_str (nomark _))
      (pss_cons (ps_expr (pe_bm PySem.F.plainAttrs_list PySem.F.slot_list_append PySem.F.type_list_append mt_append (pe_ix ix_list (pv 1) (pe_un un_neg pe_int) (fun _ _ => rfl)) (pa_cons (pv 2) pa_nil)))
      (pss_one (ps_set (i := 2) sc_words.nd rfl (by first | exact Or.inl rfl | exact Or.inr rfl) pe_str)))
      pss_nil)))
      (pss_one (ps_if (pt_cmpR op_eq (pv 3) pe_str (nomark _))
      (pss_one (ps_expr (pe_bm PySem.F.plainAttrs_list PySem.F.slot_list_append PySem.F.type_list_append mt_append (pv 1) (pa_cons (pe_lst pa_nil) pa_nil))))
      pss_nil))))
      (pss_one (ps_ret (pe_slice sl_list (pv 1) po_none (po_some (pe_un un_neg pe_int)))))))), ?_⟩
  refine ⟨(by show 0 ≤ sizeLine; decide), fun b0 nb0 => ⟨(by show 1 ≤ sizeLine; decide), fun F nF => ?_⟩⟩
  have e0 : (upd (upd H b0 (.lst [])) F (.lst [.ref b0])) b0 = some (.lst []) := by
    rw [upd_ne (ne_of_none upd_same nF)]
    exact upd_same
  have eF : (upd (upd H b0 (.lst [])) F (.lst [.ref b0])) F = some (.lst [.ref b0]) := upd_same
  have sB : Same H (upd (upd H b0 (.lst [])) F (.lst [.ref b0])) := (same_upd nb0).trans (same_upd nF)
  have nF0 : H F = none := (same_upd nb0).free nF
  have nbF : b0 ≠ F := ne_of_none upd_same nF
  generalize upd (upd H b0 (.lst [])) F (.lst [.ref b0]) = HB at e0 eF sB ⊢
  have el : (x ++ Str.ofString "\n").length ≤ 1001 := by
    rw [len_append]
    have : (Str.ofString "\n").length = 1 := by decide +kernel
    omega
  have etl : TL.tl (x ++ Str.ofString "\n") = TL.tl x ++ [10] := by rw [TL.tl_append, tl_feed]
  refine ⟨_, rfl, _, _, rfl, rfl, bigl (by rw [← len_append]; omega), ?_⟩
  refine ⟨_, rfl, for_str (x := x ++ Str.ofString "\n") (fun i σ H2 => ∃ (word : Str) (v3 : Option V) (as : List Addr) (b : Addr) (done : List (List Str)) (last : List Str),
      σ = [some (.str x), some (.ref F), some (.str word), v3] ∧ Same H H2 ∧ H2 F = some (.lst ((as ++ [b]).map V.ref)) ∧ strsAt H2 b last ∧ H b = none ∧ b ≠ F ∧
      Paired (fun a ws => (H a = none ∧ a ≠ F ∧ a ≠ b) ∧ strsAt H2 a ws) as done ∧ word.length ≤ i ∧ last.length ≤ i ∧ as.length ≤ i ∧
      done.map (·.map TL.tl) ++ scanC ((TL.tl x ++ [10]).drop i) (last.map TL.tl) (TL.tl word) = partsC (TL.tl x) ++ [[]])
    ⟨_, _, [], b0, [], [], rfl, sB, eF, e0, nb0, nbF, .nil, Nat.zero_le _, Nat.zero_le _, Nat.zero_le _, ?_⟩ ?_ ?_⟩
  · show [] ++ scanC (TL.tl x ++ [10]) [] (TL.tl (Str.ofString "")) = _
    rw [tl_none]
    have key : ∀ (l : List Nat) (last : List (List Nat)) (word : List Nat), scanC (l ++ [10]) last word = scanC l last word ++ [[]] := by
      intro l
      induction l with
      | nil => intro last word; rfl
      | cons c r ih =>
        intro last word
        rw [List.cons_append]
        show (if c = 10 then _ else if c = 32 then _ else _) = (if c = 10 then _ else if c = 32 then _ else _) ++ _
        by_cases h : c = 10
        · rw [if_pos h, if_pos h, ih]; rfl
        · rw [if_neg h, if_neg h]
          by_cases h2 : c = 32
          · rw [if_pos h2, if_pos h2, ih]
          · rw [if_neg h2, if_neg h2, ih]
    rw [List.nil_append, key, scan_parts]
  · rintro i c σ H2 hc ⟨word, v3, as, b, done, last, rfl, sm, eF2, eb, fb, nb, pr, hw, hl, ha, inv⟩
    rw [etl] at hc
    have hi : i ≤ 1001 := by
      have h1 := (List.getElem?_eq_some_iff.mp hc).1
      rw [← etl, ← TL.len_tl] at h1
      omega
    rw [drop_at hc] at inv
    have cases3 : (c = 10 ∨ c = 32) ∨ (c ≠ 10 ∧ c ≠ 32) := by omega
    have fl : ∀ (l : List Str) (u : Str), TL.tl u ≠ [] → flushC (l.map TL.tl) (TL.tl u) = (l ++ [u]).map TL.tl := fun l u hu => by
      unfold flushC
      rw [if_neg hu, List.map_append]
      rfl
    rcases cases3 with hsep | ⟨h10, h32⟩
    · -- a blank or a line feed
      have hin : decide (c ∈ (Str.ofString " \n").cps.toList) = true := by
        rw [decide_eq_true_eq]
        show c ∈ TL.tl (Str.ofString " \n")
        rw [show TL.tl (Str.ofString " \n") = [32, 10] by decide +kernel]
        rcases hsep with rfl | rfl <;> simp
      refine ⟨_, rfl, c, _, rfl, rfl, _, rfl, ?_⟩
      rw [hin]
      refine iteF ?_
      -- what stands behind the first if, whatever the word was
      have rest : ∀ (H3 : Hp) (last' : List Str), Same H H3 → H3 F = some (.lst ((as ++ [b]).map V.ref)) → strsAt H3 b last' → Paired (fun a ws => (H a = none ∧ a ≠ F ∧ a ≠ b) ∧ strsAt H3 a ws) as done → last'.length ≤ i + 1 →
          last'.map TL.tl = flushC (last.map TL.tl) (TL.tl word) →
          ∀ (D : Ends), (∀ σ' H', (∃ (word : Str) (v3 : Option V) (as : List Addr) (b : Addr) (done : List (List Str)) (last : List Str),
              σ' = [some (.str x), some (.ref F), some (.str word), v3] ∧ Same H H' ∧ H' F = some (.lst ((as ++ [b]).map V.ref)) ∧ strsAt H' b last ∧ H b = none ∧ b ≠ F ∧
              Paired (fun a ws => (H a = none ∧ a ≠ F ∧ a ≠ b) ∧ strsAt H' a ws) as done ∧ word.length ≤ i + 1 ∧ last.length ≤ i + 1 ∧ as.length ≤ i + 1 ∧
              done.map (·.map TL.tl) ++ scanC ((TL.tl x ++ [10]).drop (i + 1)) (last.map TL.tl) (TL.tl word) = partsC (TL.tl x) ++ [[]]) → D.nx σ' H') →
          tIfS (tTest (tOp rEq (tVar 3) (tC (.str (Str.ofString "\n"))))) (tDrop (tBM K "list" rAppend (tVar 1) (tCons (tLst tNil) tNil))) tNext D [some (.str x), some (.ref F), some (.str (Str.ofString "")), some (.str ⟨#[c]⟩)] H3 := by
        intro H3 last' sm3 eF3 eb3 pr3 hl3 hfl D hD
        refine ⟨_, rfl, rfl, _, rfl, ite2 (fun e => ?_) (fun e => ?_)⟩
        · have hc10 : c = 10 := by
            have e1 := V.str.inj (of_decide_eq_true e)
            have e2 : TL.tl (⟨#[c]⟩ : Str) = TL.tl (Str.ofString "\n") := by rw [e1]
            rw [tl_feed] at e2
            exact (List.cons.inj e2).1
          refine ⟨_, rfl, .inl ⟨rfl, _, .of eF3⟩, (by show 0 ≤ sizeLine; decide), fun b' nb' => ⟨F, (as ++ [b]).map V.ref, _, rfl, rfl, ?_, ?_, ?_⟩⟩
          · rw [upd_ne (ne_of_none eF3 nb')]
            exact eF3
          · rw [List.length_map, List.length_append]
            simp
            exact big (by omega)
          · have nbF' : b' ≠ F := (ne_of_none eF3 nb').symm
            have nbb : b ≠ b' := ne_of_none eb3 nb'
            refine hD _ _ ⟨Str.ofString "", _, as ++ [b], b', done ++ [last'], [], rfl, ?_, ?_, ?_, ?_, nbF', ?_, ?_, ?_, ?_, ?_⟩
            · intro d o hd
              have n1 : d ≠ F := ne_of_none hd nF0
              have n2 : d ≠ b' := ne_of_none (sm3 _ _ hd) nb'
              rw [upd_ne n1, upd_ne n2]
              exact sm3 _ _ hd
            · rw [upd_same, List.map_append (l₁ := as ++ [b])]
              rfl
            · show (upd _ F _) b' = _
              rw [upd_ne nbF', upd_same]
              rfl
            · exact sm3.free nb'
            · refine Paired.snoc (paired_same ?_ pr3) ⟨⟨fb, nb, nbb⟩, ?_⟩
              · rintro a ws ⟨⟨z1, z2, z3⟩, z4⟩
                have n2 : a ≠ b' := ne_of_none z4 nb'
                refine ⟨⟨z1, z2, n2⟩, ?_⟩
                show (upd _ F _) a = _
                rw [upd_ne z2, upd_ne n2]
                exact z4
              · show (upd _ F _) b = _
                rw [upd_ne nb, upd_ne nbb]
                exact eb3
            · exact Nat.zero_le _
            · exact Nat.zero_le _
            · rw [List.length_append]
              simp
              omega
            · rw [← inv]
              show _ = _ ++ (if c = 10 then _ else _)
              rw [if_pos hc10, List.map_append, hfl.symm, List.append_assoc, tl_none]
              rfl
        · have hc32 : c = 32 := by
            rcases hsep with h | h
            · exfalso
              apply e
              rw [decide_eq_true_eq, h]
              exact congrArg V.str (TL.ext_tl tl_feed.symm)
            · exact h
          refine hD _ _ ⟨Str.ofString "", _, as, b, done, last', rfl, sm3, eF3, eb3, fb, nb, pr3, Nat.zero_le _, hl3, by omega, ?_⟩
          rw [← inv]
          show _ = _ ++ (if c = 10 then _ else if c = 32 then _ else _)
          rw [if_neg (by omega), if_pos hc32, hfl, tl_none]
      refine ⟨_, rfl, rfl, _, rfl, ite2 (fun e => ?_) (fun e => ?_)⟩
      · -- a word stands: it is put behind the last list
        have hne : TL.tl word ≠ [] := fun z => by
          have e2 : word = Str.ofString "" := TL.ext_tl (z.trans tl_none.symm)
          rw [e2] at e
          rw [decide_eq_true rfl] at e
          cases e
        have al : atI ((as ++ [b]).map V.ref) (-1) = some (.ref b) := by
          rw [List.map_append]
          exact atI_last _ _
        refine ⟨_, rfl, 1, rfl, _, _, _, _, rfl, rfl, .of eF2, al, .inl ⟨rfl, _, .of eb⟩, _, rfl, b, _, _, rfl, rfl, eb, ?_, ?_⟩
        · rw [List.length_map]
          exact big (by omega)
        · refine rest _ (last ++ [word]) ?_ ?_ ?_ ?_ ?_ (fl last word hne).symm _ (fun σ' H' h => h)
          · intro d o hd
            rw [upd_ne (ne_of_none hd fb)]
            exact sm _ _ hd
          · rw [upd_ne nb.symm]
            exact eF2
          · show (upd H2 b _) b = _
            rw [upd_same, List.map_append]
            rfl
          · refine paired_same ?_ pr
            rintro a ws ⟨⟨z1, z2, z3⟩, z4⟩
            refine ⟨⟨z1, z2, z3⟩, ?_⟩
            show (upd H2 b _) a = _
            rw [upd_ne z3]
            exact z4
          · simp
            omega
      · have hw0 : word = Str.ofString "" := by
          by_cases h : word = Str.ofString ""
          · exact h
          · exfalso
            apply e
            rw [decide_eq_false (fun z => h (V.str.inj z))]
            rfl
        subst hw0
        refine rest H2 last sm eF2 eb pr (by omega) ?_ _ (fun σ' H' h => h)
        rw [tl_none]
        rfl
    · -- a sign of a word
      have hin : decide (c ∈ (Str.ofString " \n").cps.toList) = false := by
        rw [decide_eq_false_iff_not]
        show ¬ c ∈ TL.tl (Str.ofString " \n")
        rw [show TL.tl (Str.ofString " \n") = [32, 10] by decide +kernel]
        simp
        omega
      refine ⟨_, rfl, c, _, rfl, rfl, _, rfl, ?_⟩
      rw [hin]
      refine iteT ?_
      refine ⟨_, rfl, _, rfl, _, _, rfl, rfl, bigl (by show word.length + 1 ≤ _; omega), ?_⟩
      refine ⟨_, rfl, rfl, _, rfl, ite2 (fun e => ?_) (fun _ => ?_)⟩
      · exfalso
        have e1 := V.str.inj (of_decide_eq_true e)
        have e2 : TL.tl (⟨#[c]⟩ : Str) = TL.tl (Str.ofString "\n") := by rw [e1]
        rw [tl_feed] at e2
        exact h10 (List.cons.inj e2).1
      · refine ⟨word ++ ⟨#[c]⟩, _, as, b, done, last, rfl, sm, eF2, eb, fb, nb, pr, ?_, by omega, by omega, ?_⟩
        · rw [len_append]
          show word.length + 1 ≤ _
          omega
        · rw [← inv]
          show _ = _ ++ (if c = 10 then _ else if c = 32 then _ else _)
          rw [if_neg h10, if_neg h32, TL.tl_append]
  · rintro σ H2 ⟨word, v3, as, b, done, last, rfl, sm, eF2, eb, fb, nb, pr, hw, hl, ha, inv⟩
    rw [etl, List.drop_length] at inv
    have inv2 : done.map (·.map TL.tl) ++ [flushC (last.map TL.tl) (TL.tl word)] = partsC (TL.tl x) ++ [[]] := inv
    have ed : done = partsS x := by
      apply map_map_inj
      rw [partsS_tl]
      exact (List.append_inj' inv2 rfl).1
    subst ed
    have ec : cutV ((as ++ [b]).map V.ref) none (some (-1)) = as.map V.ref := by
      unfold cutV
      rw [HT.sIx_none, List.map_append]
      show ((as.map V.ref ++ [V.ref b]).drop 0).take (HT.sIx (as.map V.ref ++ [V.ref b]).length (as.map V.ref ++ [V.ref b]).length (some (-1)) - 0) = _
      have e3 : HT.sIx (as.map V.ref ++ [V.ref b]).length (as.map V.ref ++ [V.ref b]).length (some (-1)) = as.length := by
        rw [List.length_append, List.length_map]
        show HT.sIx (as.length + 1) (as.length + 1) (some (-1)) = as.length
        unfold HT.sIx
        simp
        omega
      rw [e3, Nat.sub_zero, List.drop_zero]
      rw [List.take_append_of_le_length (by simp)]
      exact List.take_of_length_le (by simp)
    refine ⟨_, rfl, 1, rfl, _, rfl, F, _, rfl, .of eF2, fun R nR => ?_⟩
    rw [ec]
    refine q R as _ ?_ (sm.free nR) upd_same ?_
    · exact sm.trans (same_upd nR)
    · refine paired_same ?_ pr
      rintro a ws ⟨⟨z1, z2, z3⟩, z4⟩
      have n2 : a ≠ R := ne_of_none z4 nR
      refine ⟨z1, n2, ?_⟩
      show (upd H2 R _) a = _
      rw [upd_ne n2]
      exact z4
end

/-! ### greedy lines -/
def joinS (ws : List Str) : Str := Txt.join (Str.ofString " ") ws
def glue : Str → List Str → Str
  | cur, [] => cur
  | cur, w :: r => glue (gapS cur w) r
def fitGo (wide : Int) : Str → List Str → Nat
  | _, [] => 0
  | cur, w :: r => if ((gapS cur w).length : Int) ≤ wide then fitGo wide (gapS cur w) r + 1 else 0
def tailLines (wide : Int) (ws : List Str) : List Str := match ws with
  | [] => []
  | w :: r => linesGo wide w r
theorem joinL_snoc : ∀ (l : List (List Nat)) (w : List Nat), l ≠ [] → TL.joinL [32] (l ++ [w]) = TL.joinL [32] l ++ (32 :: w)
  | [], _, h => absurd rfl h
  | [p], w, _ => rfl
  | p :: q :: r, w, _ => by
    have ih := joinL_snoc (q :: r) w (by simp)
    show p ++ ([32] ++ TL.joinL [32] ((q :: r) ++ [w])) = (p ++ ([32] ++ TL.joinL [32] (q :: r))) ++ (32 :: w)
    rw [ih]
    simp
theorem join_snoc {l : List Str} (h : l ≠ []) (w : Str) : joinS (l ++ [w]) = gapS (joinS l) w := by
  apply TL.ext_tl
  unfold joinS gapS
  rw [TL.join_eq, TL.tl_join, TL.tl_append, TL.tl_append, TL.join_eq, TL.tl_join, tl_blank, List.map_append]
  show TL.joinL [32] (l.map TL.tl ++ [TL.tl w]) = _
  rw [joinL_snoc _ _ (by simpa using h)]
  simp
theorem join_one (w : Str) : joinS [w] = w := by
  apply TL.ext_tl
  unfold joinS
  rw [TL.join_eq, TL.tl_join]
  rfl
theorem glue_snoc : ∀ (l : List Str) (cur w : Str), glue cur (l ++ [w]) = gapS (glue cur l) w
  | [], _, _ => rfl
  | v :: r, cur, w => glue_snoc r (gapS cur v) w
theorem join_glue_from : ∀ (l pre : List Str), pre ≠ [] → joinS (pre ++ l) = glue (joinS pre) l
  | [], pre, _ => by rw [List.append_nil]; rfl
  | w :: r, pre, h => by
    have ih := join_glue_from r (pre ++ [w]) (by simp)
    rw [List.append_assoc] at ih
    rw [show pre ++ w :: r = pre ++ ([w] ++ r) from rfl, ih, join_snoc h]
    rfl
theorem join_glue (w0 : Str) (l : List Str) : joinS (w0 :: l) = glue w0 l := by
  have h := join_glue_from l [w0] (by simp)
  rw [join_one] at h
  exact h
theorem fit_le (wide : Int) : ∀ (r : List Str) (cur : Str), fitGo wide cur r ≤ r.length
  | [], _ => Nat.le_refl _
  | w :: r, cur => by
    unfold fitGo
    split
    · have := fit_le wide r (gapS cur w); simp; omega
    · simp
theorem lines_head (wide : Int) : ∀ (r : List Str) (cur : Str), linesGo wide cur r = glue cur (r.take (fitGo wide cur r)) :: tailLines wide (r.drop (fitGo wide cur r))
  | [], cur => rfl
  | w :: r, cur => by
    unfold linesGo fitGo
    split
    · rw [lines_head wide r (gapS cur w)]
      rfl
    · rfl
theorem tail_cons (wide : Int) (w : Str) (r : List Str) : tailLines wide (w :: r) = joinS ((w :: r).take (1 + fitGo wide w r)) :: tailLines wide ((w :: r).drop (1 + fitGo wide w r)) := by
  show linesGo wide w r = _
  rw [lines_head, Nat.add_comm 1, List.take_succ_cons, List.drop_succ_cons, join_glue]
theorem lines_tail (wide : Int) {ws : List Str} (h : ws ≠ []) : linesS wide ws = tailLines wide ws := by
  cases ws with
  | nil => exact absurd rfl h
  | cons w r => rfl
theorem fit_step {wide : Int} {ws : List Str} {k : Nat} {v : Str} (h : ws[k]? = some v) (h1 : 1 ≤ k) : fitGo wide (joinS (ws.take k)) (ws.drop k) = if ((joinS (ws.take (k + 1))).length : Int) ≤ wide then fitGo wide (joinS (ws.take (k + 1))) (ws.drop (k + 1)) + 1 else 0 := by
  obtain ⟨hk, hv⟩ := List.getElem?_eq_some_iff.mp h
  have e1 : joinS (ws.take (k + 1)) = gapS (joinS (ws.take k)) v := by
    rw [List.take_add_one, h]
    exact join_snoc (fun z => by
      have := congrArg List.length z
      rw [List.length_take, List.length_nil] at this
      omega) v
  rw [e1, List.drop_eq_getElem_cons hk, hv]
  rfl
theorem join_sum_len : ∀ l : List (List Nat), (TL.joinL [32] l).length ≤ (l.map (fun w => w.length + 1)).sum
  | [] => Nat.le_refl _
  | [p] => by simp [TL.joinL]
  | p :: q :: r => by
    have ih := join_sum_len (q :: r)
    show (p ++ ([32] ++ TL.joinL [32] (q :: r))).length ≤ _
    simp only [List.length_append, List.length_cons, List.length_nil, List.map_cons, List.sum_cons] at ih ⊢
    omega
theorem sum_le {α : Type} (f : α → Nat) (b : Nat) : ∀ l : List α, (∀ a ∈ l, f a ≤ b) → (l.map f).sum ≤ l.length * b
  | [], _ => by simp
  | a :: r, h => by
    have h1 := h a List.mem_cons_self
    have h2 := sum_le f b r fun x hx => h x (List.mem_cons_of_mem _ hx)
    simp only [List.map_cons, List.sum_cons, List.length_cons, Nat.add_mul, Nat.one_mul]
    omega
theorem joinS_len {ws : List Str} (hn : ws.length ≤ 2001) (hw : ∀ w ∈ ws, w.length ≤ 2000) : (joinS ws).length ≤ 4004001 := by
  unfold joinS
  rw [TL.join_eq, TL.len_tl, TL.tl_join, tl_blank]
  refine Nat.le_trans (join_sum_len _) ?_
  rw [List.map_map]
  refine Nat.le_trans (sum_le _ 2001 ws fun w h => ?_) (Nat.le_trans (Nat.mul_le_mul_right 2001 hn) (by decide))
  show (TL.tl w).length + 1 ≤ 2001
  rw [← TL.len_tl]
  have := hw w h
  omega
theorem join_size {ws : List Str} (hn : ws.length ≤ 2001) (hw : ∀ w ∈ ws, w.length ≤ 2000) : (ws.map (·.length)).sum + ws.length * (Str.ofString " ").length ≤ 16777216 := by
  have h1 : (ws.map (·.length)).sum ≤ ws.length * 2000 := sum_le _ 2000 ws hw
  have h2 : ws.length * 2000 ≤ 2001 * 2000 := Nat.mul_le_mul_right _ hn
  rw [show (Str.ofString " ").length = 1 by decide +kernel]
  omega
theorem cut_to {α : Type} (f : α → V) (l : List α) (k : Nat) : cutV (l.map f) none (some (k : Int)) = (l.take k).map f := by
  unfold cutV
  rw [HT.sIx_none, show HT.sIx (l.map f).length (l.map f).length (some (k : Int)) = min k (l.map f).length from HT.sIx_nat _ _ k, List.drop_zero, Nat.sub_zero, ← List.map_take, List.length_map]
  congr 1
  rcases Nat.le_total k l.length with h | h
  · rw [Nat.min_eq_left h]
  · rw [Nat.min_eq_right h, List.take_length, List.take_of_length_le h]
theorem cut_from {α : Type} (f : α → V) (l : List α) (k : Nat) : cutV (l.map f) (some (k : Int)) none = (l.drop k).map f := by
  unfold cutV
  rw [HT.sIx_none, show HT.sIx (l.map f).length 0 (some (k : Int)) = min k (l.map f).length from HT.sIx_nat _ _ k, ← List.map_drop, ← List.map_take, List.length_map]
  congr 1
  rcases Nat.le_total k l.length with h | h
  · rw [Nat.min_eq_left h]
    exact List.take_of_length_le (by rw [List.length_drop]; exact Nat.le_refl _)
  · rw [Nat.min_eq_right h, List.drop_length, List.drop_eq_nil_of_le h]
    simp
theorem cut_at {α : Type} (f : α → V) (l : List α) (k : Nat) : cutV (l.map f) (some (k : Int)) (some ((k + 1 : Nat) : Int)) = ((l.drop k).take 1).map f := by
  unfold cutV
  rw [show HT.sIx (l.map f).length 0 (some (k : Int)) = min k (l.map f).length from HT.sIx_nat _ _ k, show HT.sIx (l.map f).length (l.map f).length (some ((k + 1 : Nat) : Int)) = min (k + 1) (l.map f).length from HT.sIx_nat _ _ (k + 1), ← List.map_drop, ← List.map_take, List.length_map]
  congr 1
  rcases Nat.lt_or_ge k l.length with h | h
  · rw [Nat.min_eq_left (Nat.le_of_lt h), Nat.min_eq_left h, show k.succ - k = 1 by omega]
  · rw [Nat.min_eq_right h, List.drop_length, List.drop_eq_nil_of_le h]
    simp
/-- sep.join(xs), K told -/
def rJoin (K : PySem.W.Frag) : V → List V → Hp → VK → Prop := fun x xs H Q =>
  ∃ a p, ∃ ys : List Str, x = .str a ∧ xs = [.ref p] ∧ (SqL K H p (ys.map V.str) ∨ SqT K H p (ys.map V.str)) ∧ (ys.map (·.length)).sum + ys.length * a.length ≤ 16777216 ∧ Q (.str (Txt.join a ys)) H

/-! ### the longest word, the wish -/
theorem walk_list {K : PySem.W.Frag} {a : Addr} {xs : List V} {g : TG} {σ : L2.St} {H1 : Hp} {Qd : Hp → Prop} {Bd : L2.St → Hp → (Hp → Prop) → Prop} (Pv : Nat → Hp → Prop) (h0 : Pv 0 H1) (hl : ∀ i H, i ≤ xs.length → Pv i H → SqL K H a xs)
    (hs : ∀ i x H, xs[i]? = some x → Pv i H → g x σ H fun σ2 H2 => Bd σ2 H2 (Pv (i + 1))) (hd : ∀ H, Pv xs.length H → Qd H) :
    ∃ W : Nat → Nat → Hp → Prop, (∃ m, W 0 m H1) ∧ ∀ i m H, W i m H → ((Itl K a).stop i H ∧ Qd H) ∨
      ((Itl K a).go i H ∧ ∃ Nx : Hp → Prop, (∀ H', Nx H' → ∃ m', m' < m ∧ W (i + 1) m' H') ∧ ∀ x H', (Itl K a).yld i H x H' → g x σ H' fun σ2 H2 => Bd σ2 H2 Nx) := by
  refine ⟨fun i m H => m = xs.length - i ∧ i ≤ xs.length ∧ Pv i H, ⟨_, rfl, Nat.zero_le _, h0⟩, ?_⟩
  rintro i m H ⟨rfl, hi, p⟩
  have q := hl i H hi p
  by_cases hlt : i < xs.length
  · refine .inr ⟨⟨xs, xs[i], q, List.getElem?_eq_getElem hlt⟩, Pv (i + 1), fun H' p' => ⟨_, by omega, rfl, hlt, p'⟩, ?_⟩
    rintro x H' ⟨rfl, y⟩
    exact hs i x _ (y xs q) p
  · have e : i = xs.length := by omega
    subst e
    exact .inl ⟨⟨xs, q, Nat.le_refl _⟩, hd H p⟩
def maxN : List Nat → Nat
  | [] => 0
  | a :: r => max a (maxN r)
theorem maxN_ge : ∀ {l : List Nat} {a : Nat}, a ∈ l → a ≤ maxN l
  | b :: r, a, h => by
    rcases List.mem_cons.mp h with h | h
    · rw [h]; exact Nat.le_max_left _ _
    · exact Nat.le_trans (maxN_ge h) (Nat.le_max_right _ _)
theorem maxN_le : ∀ {l : List Nat} {b : Nat}, (∀ a ∈ l, a ≤ b) → maxN l ≤ b
  | [], _, _ => Nat.zero_le _
  | a :: r, b, h => Nat.max_le.mpr ⟨h a List.mem_cons_self, maxN_le fun x hx => h x (List.mem_cons_of_mem _ hx)⟩
theorem maxN_app (l m : List Nat) : maxN (l ++ m) = max (maxN l) (maxN m) := by
  induction l with
  | nil => exact (Nat.zero_max _).symm
  | cons a r ih =>
    show max a (maxN (r ++ m)) = max (max a (maxN r)) (maxN m)
    rw [ih, Nat.max_assoc]
theorem max_is {l : List Nat} {m : Int} (h1 : m ∈ l.map (fun n : Nat => (n : Int))) (h2 : ∀ y ∈ l.map (fun n : Nat => (n : Int)), y ≤ m) : m = (maxN l : Int) := by
  obtain ⟨n, hn, rfl⟩ := List.mem_map.mp h1
  have h3 := maxN_ge hn
  have h4 : maxN l ≤ n := maxN_le fun a ha => by
    have := h2 _ (List.mem_map.mpr ⟨a, ha, rfl⟩)
    omega
  omega
def longN (x : Str) : Nat := maxN ((partsS x).flatten.map (·.length))
def wishN (x : Str) : Nat := maxN ((partsS x).map fun ws => (joinS ws).length)
def spLongest : Sp := fun vs H Q _ => ∃ x : Str, vs = [.str x] ∧ x.length ≤ 2000 ∧ ∀ H', Same H H' → Q (.int (longN x : Int)) H'
def spWished : Sp := fun vs H Q _ => ∃ x : Str, vs = [.str x] ∧ x.length ≤ 2000 ∧ ∀ H', Same H H' → Q (.int (wishN x : Int)) H'
theorem parts_ne (x : Str) : partsS x ≠ [] := fun z => by
  have h := congrArg List.length (split_cut tl_feed (by decide) x)
  rw [List.length_map] at h
  unfold partsS at z
  rw [List.map_eq_nil_iff] at z
  rw [z] at h
  have h2 := cutC_ne 10 (TL.tl x)
  cases e : cutC 10 (TL.tl x) with
  | nil => exact absurd e h2
  | cons a b => rw [e] at h; cases h
theorem flat_id_take {β : Type} {l : List (List β)} {i : Nat} {a : List β} (h : l[i]? = some a) : (l.take (i + 1)).flatten = (l.take i).flatten ++ a := by
  rw [List.take_add_one, h, List.flatten_append]
  simp
theorem flat_le {l : List (List Str)} (h1 : l.length ≤ 2001) (h2 : ∀ ws ∈ l, ws.length ≤ 2001) : l.flatten.length ≤ 2001 * 2001 := by
  have h := flat_len (fun ws : List Str => ws) 2001 l h2
  rw [List.map_id'] at h
  exact Nat.le_trans h (Nat.mul_le_mul_right _ h1)

/-! ### lines that are wrapped again -/
theorem cutC_app (s : Nat) : ∀ a b : List Nat, cutC s (a ++ s :: b) = cutC s a ++ cutC s b
  | [], b => by
    show (if s = s then [] :: cutC s b else _) = [[]] ++ cutC s b
    rw [if_pos rfl]
    rfl
  | c :: r, b => by
    have ih := cutC_app s r b
    rw [List.cons_append]
    show (if c = s then [] :: cutC s (r ++ s :: b) else consHead c (cutC s (r ++ s :: b))) = (if c = s then [] :: cutC s r else consHead c (cutC s r)) ++ cutC s b
    rw [ih]
    split
    · rfl
    · cases e : cutC s r with
      | nil => exact absurd e (cutC_ne s r)
      | cons h t => rfl
theorem map_map_inj2 : ∀ {l m : List (List Str)}, l.map (·.map TL.tl) = m.map (·.map TL.tl) → l = m
  | [], [], _ => rfl
  | [], _ :: _, h => by simp at h
  | _ :: _, [], h => by simp at h
  | x :: l, y :: m, h => by
    rw [List.map_cons, List.map_cons] at h
    injection h with h1 h2
    rw [TL.map_tl_inj h1, map_map_inj2 h2]
theorem parts_app (x y : Str) : partsS (x ++ Str.ofString "\n" ++ y) = partsS x ++ partsS y := by
  apply map_map_inj2
  rw [List.map_append, partsS_tl, partsS_tl, partsS_tl, TL.tl_append, TL.tl_append, tl_feed, List.append_assoc]
  unfold partsC
  show (cutC 10 (TL.tl x ++ 10 :: TL.tl y)).map wordsC = _
  rw [cutC_app, List.map_append]
theorem wrapped_app (x y : Str) (wide : Int) : wrappedS (x ++ Str.ofString "\n" ++ y) wide = wrappedS x wide ++ wrappedS y wide := by
  unfold wrappedS
  rw [parts_app, List.map_append, List.flatten_append]
/-- a word: signs, no blank and no line feed -/
def wordy (w : Str) : Prop := TL.tl w ≠ [] ∧ 32 ∉ TL.tl w ∧ 10 ∉ TL.tl w
theorem parts_wordy (x : Str) : ∀ ws ∈ partsS x, ∀ w ∈ ws, wordy w := fun ws hws w hw => by
  obtain ⟨p, hp, rfl⟩ := List.mem_map.mp hws
  obtain ⟨h1, h2⟩ := List.mem_filter.mp hw
  have m1 : TL.tl p ∈ cutC 10 (TL.tl x) := by rw [← split_cut tl_feed (by decide)]; exact List.mem_map.mpr ⟨p, hp, rfl⟩
  have m2 : TL.tl w ∈ cutC 32 (TL.tl p) := by rw [← split_cut tl_blank (by decide)]; exact List.mem_map.mpr ⟨w, h1, rfl⟩
  refine ⟨fun e => ?_, cutC_free 32 _ _ m2, fun h => cutC_free 10 _ _ m1 (cutC_sub 32 _ _ m2 _ h)⟩
  rw [keepW_tl, e] at h2
  cases h2
/-- a group of words that makes a line -/
structure Grp (wide : Int) (g : List Str) : Prop where
  ne : g ≠ []
  fits : ((joinS g).length : Int) ≤ wide ∨ g.length = 1
theorem go_groups (wide : Int) : ∀ (ws g0 : List Str), Grp wide g0 → ∃ gs : List (List Str), linesGo wide (joinS g0) ws = gs.map joinS ∧ gs.flatten = g0 ++ ws ∧ ∀ g ∈ gs, Grp wide g
  | [], g0, h => ⟨[g0], rfl, by simp, fun g hg => by rw [List.mem_singleton.mp hg]; exact h⟩
  | w :: r, g0, h => by
    unfold linesGo
    rw [← join_snoc h.ne]
    split
    · rename_i hf
      obtain ⟨gs, e1, e2, e3⟩ := go_groups wide r (g0 ++ [w]) ⟨by simp, .inl hf⟩
      exact ⟨gs, e1, by rw [e2]; simp, e3⟩
    · obtain ⟨gs, e1, e2, e3⟩ := go_groups wide r [w] ⟨by simp, .inr rfl⟩
      rw [join_one] at e1
      refine ⟨g0 :: gs, by rw [e1]; rfl, by rw [List.flatten_cons, e2]; rfl, fun g hg => ?_⟩
      rcases List.mem_cons.mp hg with rfl | hg
      · exact h
      · exact e3 g hg
theorem lines_groups (wide : Int) (ws : List Str) (h : ws ≠ []) : ∃ gs : List (List Str), linesS wide ws = gs.map joinS ∧ gs.flatten = ws ∧ ∀ g ∈ gs, Grp wide g := by
  cases ws with
  | nil => exact absurd rfl h
  | cons w r =>
    obtain ⟨gs, e1, e2, e3⟩ := go_groups wide r [w] ⟨by simp, .inr rfl⟩
    rw [join_one] at e1
    exact ⟨gs, e1, e2, e3⟩
theorem joinL_free {c : Nat} (hc : c ≠ 32) : ∀ l : List (List Nat), (∀ w ∈ l, c ∉ w) → c ∉ TL.joinL [32] l
  | [], _ => fun h => by cases h
  | [p], h => h p List.mem_cons_self
  | p :: q :: r, h => fun z => by
    rcases List.mem_append.mp (show c ∈ p ++ ([32] ++ TL.joinL [32] (q :: r)) from z) with z | z
    · exact h p List.mem_cons_self z
    · rcases List.mem_append.mp z with z | z
      · exact hc (List.mem_singleton.mp z)
      · exact joinL_free hc (q :: r) (fun w hw => h w (List.mem_cons_of_mem _ hw)) z
theorem join_free {g : List Str} (h : ∀ w ∈ g, wordy w) : 10 ∉ TL.tl (joinS g) := by
  unfold joinS
  rw [TL.join_eq, TL.tl_join, tl_blank]
  exact joinL_free (by decide) _ fun w hw => by
    obtain ⟨v, hv, rfl⟩ := List.mem_map.mp hw
    exact (h v hv).2.2
theorem blank_plain : (Str.ofString " ").cps.all (· < 256) = true := by decide +kernel
theorem feed_plain : (Str.ofString "\n").cps.all (· < 256) = true := by decide +kernel
theorem words_join {g : List Str} (hne : g ≠ []) (h : ∀ w ∈ g, wordy w) : wordsS (joinS g) = g := by
  unfold wordsS joinS
  rw [TL.split_join tl_blank blank_plain hne fun p hp => (h p hp).2.1]
  rw [List.filter_eq_self]
  intro w hw
  rw [keepW_tl]
  cases e : TL.tl w with
  | nil => exact absurd e (h w hw).1
  | cons a b => rfl
theorem words_none : wordsS (Str.ofString "") = [] := by
  apply TL.map_tl_inj
  rw [wordsS_tl, tl_none]
  rfl
theorem join_none : joinS [] = Str.ofString "" := by
  apply TL.ext_tl
  unfold joinS
  rw [TL.join_eq, TL.tl_join, tl_none]
  rfl
/-- what is known of each line of a wrapped text -/
structure LineOk (wide : Int) (l : Str) : Prop where
  free : 10 ∉ TL.tl l
  back : joinS (wordsS l) = l
  fits : ∀ w2, wide ≤ w2 → linesS w2 (wordsS l) = [l]
  short : (l.length : Int) ≤ wide ∨ (wordsS l).length ≤ 1
theorem go_all (w2 : Int) : ∀ (ws : List Str) (cur : Str), ((glue cur ws).length : Int) ≤ w2 → linesGo w2 cur ws = [glue cur ws]
  | [], _, _ => rfl
  | w :: r, cur, h => by
    have grow : ∀ (l : List Str) (c : Str), c.length ≤ (glue c l).length := by
      intro l
      induction l with
      | nil => intro c; exact Nat.le_refl _
      | cons v q ih =>
        intro c
        refine Nat.le_trans ?_ (ih (gapS c v))
        rw [len_gap]
        omega
    have h2 := grow r (gapS cur w)
    have h3 : glue cur (w :: r) = glue (gapS cur w) r := rfl
    unfold linesGo
    rw [h3] at h
    rw [if_pos (by omega)]
    exact go_all w2 r (gapS cur w) h
theorem grp_line {wide : Int} {g : List Str} (hg : Grp wide g) (h : ∀ w ∈ g, wordy w) : LineOk wide (joinS g) := by
  have e := words_join hg.ne h
  refine ⟨join_free h, by rw [e], fun w2 hw => ?_, ?_⟩
  · rw [e]
    cases g with
    | nil => exact absurd rfl hg.ne
    | cons w r =>
      show linesGo w2 w r = _
      rw [join_glue]
      rcases hg.fits with hf | hf
      · rw [join_glue] at hf
        exact go_all w2 r w (by omega)
      · have : r = [] := List.eq_nil_of_length_eq_zero (by simpa using hf)
        subst this
        rfl
  · rw [e]
    rcases hg.fits with hf | hf
    · exact .inl hf
    · exact .inr (by omega)
theorem none_line (wide : Int) (h0 : 0 ≤ wide) : LineOk wide (Str.ofString "") := by
  refine ⟨by rw [tl_none]; simp, by rw [words_none]; exact join_none, fun w2 _ => by rw [words_none]; rfl, .inr (by rw [words_none]; simp)⟩
theorem lines_ok {wide : Int} (h0 : 0 ≤ wide) {ws : List Str} (h : ∀ w ∈ ws, wordy w) : ∀ l ∈ linesS wide ws, LineOk wide l := by
  by_cases hne : ws = []
  · subst hne
    intro l hl
    rw [List.mem_singleton.mp (show l ∈ [Str.ofString ""] from hl)]
    exact none_line wide h0
  · obtain ⟨gs, e1, e2, e3⟩ := lines_groups wide ws hne
    intro l hl
    rw [e1] at hl
    obtain ⟨g, hg, rfl⟩ := List.mem_map.mp hl
    refine grp_line (e3 g hg) fun w hw => h w ?_
    rw [← e2]
    exact List.mem_flatten.mpr ⟨g, hg, hw⟩
theorem wrapped_ok {wide : Int} (h0 : 0 ≤ wide) (x : Str) : ∀ l ∈ wrappedS x wide, LineOk wide l := fun l hl => by
  obtain ⟨ls, h1, h2⟩ := List.mem_flatten.mp hl
  obtain ⟨ws, h3, rfl⟩ := List.mem_map.mp h1
  exact lines_ok h0 (parts_wordy x ws h3) l h2
theorem lines_words {wide : Int} {ws : List Str} (h : ∀ w ∈ ws, wordy w) : ((linesS wide ws).map wordsS).flatten = ws := by
  by_cases hne : ws = []
  · subst hne
    show ([Str.ofString ""].map wordsS).flatten = []
    rw [List.map_singleton, words_none]
    rfl
  · obtain ⟨gs, e1, e2, e3⟩ := lines_groups wide ws hne
    rw [e1, List.map_map]
    have e4 : gs.map (wordsS ∘ joinS) = gs := by
      conv => rhs; rw [← List.map_id gs]
      apply List.map_congr_left
      intro g hg
      exact words_join (e3 g hg).ne fun w hw => h w (by rw [← e2]; exact List.mem_flatten.mpr ⟨g, hg, hw⟩)
    rw [e4, e2]
theorem wrapped_words (x : Str) (wide : Int) : ((wrappedS x wide).map wordsS).flatten = (partsS x).flatten := by
  have key : ∀ l : List (List Str), (∀ ws ∈ l, ∀ w ∈ ws, wordy w) → (((l.map (linesS wide)).flatten).map wordsS).flatten = l.flatten := by
    intro l
    induction l with
    | nil => intro _; rfl
    | cons a r ih =>
      intro h
      rw [List.map_cons, List.flatten_cons, List.map_append, List.flatten_append, lines_words (h a List.mem_cons_self), ih fun ws hw => h ws (List.mem_cons_of_mem _ hw), List.flatten_cons]
  exact key _ (parts_wordy x)
theorem wrapped_ne (x : Str) (wide : Int) : wrappedS x wide ≠ [] := fun z => by
  cases e : partsS x with
  | nil => exact parts_ne x e
  | cons ws r =>
    unfold wrappedS at z
    rw [e, List.map_cons, List.flatten_cons] at z
    have h := (List.append_eq_nil_iff.mp z).1
    cases ws with
    | nil => cases h
    | cons w q =>
      have h2 : tailLines wide (w :: q) = [] := h
      rw [tail_cons] at h2
      cases h2
def againS (ls : List Str) : Str := Txt.join (Str.ofString "\n") ls
theorem parts_again {x : Str} {wide : Int} (h0 : 0 ≤ wide) : partsS (againS (wrappedS x wide)) = (wrappedS x wide).map wordsS := by
  unfold partsS againS
  rw [TL.split_join tl_feed feed_plain (wrapped_ne x wide) fun p hp => (wrapped_ok h0 x p hp).free]
theorem wrapped_again {x : Str} {wide w2 : Int} (h0 : 0 ≤ wide) (h : wide ≤ w2) : wrappedS (againS (wrappedS x wide)) w2 = wrappedS x wide := by
  rw [wrappedS.eq_1 (againS _), parts_again h0, List.map_map]
  have key : ∀ l : List Str, (∀ y ∈ l, LineOk wide y) → (l.map (linesS w2 ∘ wordsS)).flatten = l := by
    intro l
    induction l with
    | nil => intro _; rfl
    | cons a r ih =>
      intro hl
      rw [List.map_cons, List.flatten_cons, ih fun y hy => hl y (List.mem_cons_of_mem _ hy)]
      show linesS w2 (wordsS a) ++ r = _
      rw [(hl a List.mem_cons_self).fits w2 h]
      rfl
  exact key _ (wrapped_ok h0 x)
theorem wish_again {x : Str} {wide : Int} (h0 : 0 ≤ wide) : wishN (againS (wrappedS x wide)) = maxN ((wrappedS x wide).map (·.length)) := by
  unfold wishN
  rw [parts_again h0, List.map_map]
  congr 1
  apply List.map_congr_left
  intro l hl
  show (joinS (wordsS l)).length = l.length
  rw [(wrapped_ok h0 x l hl).back]
theorem long_again {x : Str} {wide : Int} (h0 : 0 ≤ wide) : longN (againS (wrappedS x wide)) = longN x := by
  unfold longN
  rw [parts_again h0, wrapped_words]
/-! ### how long it is -/
def tot (ws : List Str) : Nat := (ws.map fun w => w.length + 1).sum
theorem tot_go (wide : Int) : ∀ (ws : List Str) (cur : Str), tot (linesGo wide cur ws) = cur.length + 1 + tot ws
  | [], cur => by simp [linesGo, tot]
  | w :: r, cur => by
    unfold linesGo
    have e : tot (w :: r) = w.length + 1 + tot r := by simp [tot]
    split
    · rw [tot_go wide r (gapS cur w), len_gap, e]
      omega
    · have e2 : tot (cur :: linesGo wide w r) = cur.length + 1 + tot (linesGo wide w r) := by simp [tot]
      rw [e2, tot_go wide r w, e]
theorem cut_tot (s : Nat) : ∀ l : List Nat, ((cutC s l).map fun w => w.length + 1).sum = l.length + 1
  | [] => by simp [cutC]
  | c :: r => by
    have ih := cut_tot s r
    unfold cutC
    split
    · simp [ih]
      omega
    · cases e : cutC s r with
      | nil => exact absurd e (cutC_ne s r)
      | cons a t =>
        rw [e] at ih
        simp [consHead] at ih ⊢
        omega
theorem split_tot {x y : Str} {s : Nat} (ey : TL.tl y = [s]) (hk : s < 256) : tot (Txt.split x y) = x.length + 1 := by
  have h := cut_tot s (TL.tl x)
  rw [← split_cut ey hk, List.map_map, ← TL.len_tl] at h
  rw [← h]
  unfold tot
  congr 1
theorem tot_filter (f : Str → Bool) : ∀ l : List Str, tot (l.filter f) ≤ tot l
  | [] => Nat.le_refl _
  | a :: r => by
    have ih := tot_filter f r
    have e : tot (a :: r) = a.length + 1 + tot r := by simp [tot]
    rw [List.filter_cons, e]
    split
    · have e2 : tot (a :: r.filter f) = a.length + 1 + tot (r.filter f) := by simp [tot]
      omega
    · omega
theorem tot_lines (wide : Int) (p : Str) : tot (linesS wide (wordsS p)) ≤ p.length + 1 := by
  have h1 : tot (wordsS p) ≤ p.length + 1 := by
    rw [← split_tot (x := p) tl_blank (by decide)]
    exact tot_filter _ _
  cases e : wordsS p with
  | nil =>
    show tot [Str.ofString ""] ≤ _
    have : tot [Str.ofString ""] = 1 := by decide +kernel
    omega
  | cons w r =>
    show tot (linesGo wide w r) ≤ _
    rw [tot_go]
    rw [e] at h1
    have e2 : tot (w :: r) = w.length + 1 + tot r := by simp [tot]
    omega
theorem tot_app (a b : List Str) : tot (a ++ b) = tot a + tot b := by
  unfold tot
  rw [List.map_append, List.sum_append]
theorem tot_wrapped (x : Str) (wide : Int) : tot (wrappedS x wide) ≤ x.length + 1 := by
  have key : ∀ l : List Str, tot ((l.map (fun p => linesS wide (wordsS p))).flatten) ≤ tot l := by
    intro l
    induction l with
    | nil => exact Nat.le_refl _
    | cons a r ih =>
      rw [List.map_cons, List.flatten_cons, tot_app]
      have h1 := tot_lines wide a
      have e : tot (a :: r) = a.length + 1 + tot r := by simp [tot]
      omega
  have h := key (Txt.split x (Str.ofString "\n"))
  rw [split_tot tl_feed (by decide)] at h
  unfold wrappedS partsS
  rw [List.map_map]
  exact h
theorem joinL_tot {c : Nat} : ∀ l : List (List Nat), (TL.joinL [c] l).length ≤ (l.map fun w => w.length + 1).sum - 1
  | [] => Nat.zero_le _
  | [p] => by simp [TL.joinL]
  | p :: q :: r => by
    have ih := joinL_tot (c := c) (q :: r)
    show (p ++ ([c] ++ TL.joinL [c] (q :: r))).length ≤ _
    simp only [List.length_append, List.length_cons, List.length_nil, List.map_cons, List.sum_cons] at ih ⊢
    omega
theorem again_len (x : Str) (wide : Int) : (againS (wrappedS x wide)).length ≤ x.length := by
  unfold againS
  rw [TL.join_eq, TL.len_tl, TL.tl_join, tl_feed]
  refine Nat.le_trans (joinL_tot _) ?_
  have h := tot_wrapped x wide
  unfold tot at h
  rw [List.map_map]
  have e : (wrappedS x wide).map ((fun w : List Nat => w.length + 1) ∘ TL.tl) = (wrappedS x wide).map fun w => w.length + 1 := by
    apply List.map_congr_left
    intro w _
    show (TL.tl w).length + 1 = w.length + 1
    rw [← TL.len_tl]
  rw [e]
  omega
theorem wrapped_few (x : Str) (wide : Int) : (wrappedS x wide).length ≤ x.length + 1 ∧ ∀ l ∈ wrappedS x wide, l.length ≤ x.length := by
  have h := tot_wrapped x wide
  have key : ∀ l : List Str, l.length ≤ tot l ∧ ∀ w ∈ l, w.length + 1 ≤ tot l := by
    intro l
    induction l with
    | nil => exact ⟨Nat.zero_le _, fun w hw => by cases hw⟩
    | cons a r ih =>
      have e : tot (a :: r) = a.length + 1 + tot r := by simp [tot]
      refine ⟨by rw [List.length_cons]; omega, fun w hw => ?_⟩
      rcases List.mem_cons.mp hw with rfl | hw
      · omega
      · have := ih.2 w hw
        omega
  obtain ⟨h1, h2⟩ := key (wrappedS x wide)
  exact ⟨by omega, fun l hl => by have := h2 l hl; omega⟩

/-! ### two lists walked side by side -/
theorem walk_zip {K : PySem.W.Frag} {a b : Addr} {xs ys : List V} {g : TG} {σ : L2.St} {H1 : Hp} {Qd : Hp → Prop} {Bd : L2.St → Hp → (Hp → Prop) → Prop} (Pv : Nat → Hp → Prop) (h0 : Pv 0 H1) (hl : ∀ i H, Pv i H → SqL K H a xs ∧ SqL K H b ys)
    (hs : ∀ i x y T H, xs[i]? = some x → ys[i]? = some y → Pv i H → H T = none → g (.ref T) σ (upd H T (.tup [x, y])) fun σ2 H2 => Bd σ2 H2 (Pv (i + 1))) (hd : ∀ H, Pv (min xs.length ys.length) H → Qd H) :
    ∃ W : Nat → Nat → Hp → Prop, (∃ m, W 0 m H1) ∧ ∀ i m H, W i m H → ((Itz K a b).stop i H ∧ Qd H) ∨
      ((Itz K a b).go i H ∧ ∃ Nx : Hp → Prop, (∀ H', Nx H' → ∃ m', m' < m ∧ W (i + 1) m' H') ∧ ∀ x H', (Itz K a b).yld i H x H' → g x σ H' fun σ2 H2 => Bd σ2 H2 Nx) := by
  refine ⟨fun i m H => m = min xs.length ys.length - i ∧ i ≤ min xs.length ys.length ∧ Pv i H, ⟨_, rfl, Nat.zero_le _, h0⟩, ?_⟩
  rintro i m H ⟨rfl, hi, p⟩
  obtain ⟨q1, q2⟩ := hl i H p
  by_cases hlt : i < min xs.length ys.length
  · have l1 : i < xs.length := by omega
    have l2 : i < ys.length := by omega
    refine .inr ⟨⟨xs, ys, xs[i], ys[i], q1, q2, List.getElem?_eq_getElem l1, List.getElem?_eq_getElem l2⟩, Pv (i + 1), fun H' p' => ⟨_, by omega, rfl, hlt, p'⟩, ?_⟩
    rintro v H' ⟨T, x, y, rfl, nT, rfl, f1, f2⟩
    exact hs i x y T H (f1 xs q1) (f2 ys q2) p nT
  · have e : i = min xs.length ys.length := by omega
    subst e
    exact .inl ⟨⟨xs, ys, q1, q2, by omega⟩, hd H p⟩
theorem walk_zipF {K : PySem.W.Frag} {a b : Addr} {xs ys : List V} {g : TG} {σ : L2.St} {H1 : Hp} {Qd : L2.St → Hp → Prop} {Bd : L2.St → Hp → (L2.St → Hp → Prop) → Prop} (Pv : Nat → L2.St → Hp → Prop) (h0 : Pv 0 σ H1) (hl : ∀ i σ H, Pv i σ H → SqL K H a xs ∧ SqL K H b ys)
    (hs : ∀ i x y T σ H, xs[i]? = some x → ys[i]? = some y → Pv i σ H → H T = none → g (.ref T) σ (upd H T (.tup [x, y])) fun σ2 H2 => Bd σ2 H2 (Pv (i + 1))) (hd : ∀ σ H, Pv (min xs.length ys.length) σ H → Qd σ H) :
    ∃ W : Nat → Nat → L2.St → Hp → Prop, (∃ m, W 0 m σ H1) ∧ ∀ i m σ H, W i m σ H → ((Itz K a b).stop i H ∧ Qd σ H) ∨
      ((Itz K a b).go i H ∧ ∃ N : L2.St → Hp → Prop, (∀ σ' H', N σ' H' → ∃ m', m' < m ∧ W (i + 1) m' σ' H') ∧ ∀ x H', (Itz K a b).yld i H x H' → g x σ H' fun σ2 H2 => Bd σ2 H2 N) := by
  refine ⟨fun i m σ H => m = min xs.length ys.length - i ∧ i ≤ min xs.length ys.length ∧ Pv i σ H, ⟨_, rfl, Nat.zero_le _, h0⟩, ?_⟩
  rintro i m σ H ⟨rfl, hi, p⟩
  obtain ⟨q1, q2⟩ := hl i σ H p
  by_cases hlt : i < min xs.length ys.length
  · have l1 : i < xs.length := by omega
    have l2 : i < ys.length := by omega
    refine .inr ⟨⟨xs, ys, xs[i], ys[i], q1, q2, List.getElem?_eq_getElem l1, List.getElem?_eq_getElem l2⟩, Pv (i + 1), fun σ' H' p' => ⟨_, by omega, rfl, hlt, p'⟩, ?_⟩
    rintro v H' ⟨T, x, y, rfl, nT, rfl, f1, f2⟩
    exact hs i x y T σ H (f1 xs q1) (f2 ys q2) p nT
  · have e : i = min xs.length ys.length := by omega
    subst e
    exact .inl ⟨⟨xs, ys, q1, q2, by omega⟩, hd σ H p⟩
/-! ### lists of numbers as data -/
def datI (ns : List Int) : PyData := .list (ns.map PyData.int)
theorem dpI_all {K : PySem.W.Frag} {H : Hp} : ∀ ns : List Int, DpAll K H (ns.map V.int) (ns.map PyData.int)
  | [] => .nil
  | n :: r => .cons (.int n) (dpI_all r)
theorem dp_ints {K : PySem.W.Frag} {H : Hp} {a : Addr} {ns : List Int} (h : SqL K H a (ns.map V.int)) : Dp K H (.ref a) (datI ns) := .lst h (dpI_all ns)
theorem can_ints : ∀ ns : List Int, PyData.canLayAll0 (ns.map PyData.int) = true
  | [] => rfl
  | n :: r => by
    show (true && PyData.canLayAll0 (r.map PyData.int)) = true
    rw [can_ints r]
    rfl
theorem depth_ints : ∀ ns : List Int, PyData.depthAll (ns.map PyData.int) = 0
  | [] => rfl
  | n :: r => by
    show max 0 (PyData.depthAll (r.map PyData.int)) = 0
    rw [depth_ints r]
    rfl
theorem shaped_ints (ns : List Int) : SeqAt.shaped (datI ns) = true := by
  unfold SeqAt.shaped datI
  rw [Bool.and_eq_true]
  refine ⟨can_ints ns, ?_⟩
  show decide (PyData.depthAll (ns.map PyData.int) + 1 ≤ 64) = true
  rw [depth_ints]
  rfl
theorem eqv_datI : ∀ ns ms : List Int, PyData.eqv (datI ns) (datI ms) = decide (ns = ms) := by
  have key : ∀ ns ms : List Int, PyData.eqvAll (ns.map PyData.int) (ms.map PyData.int) = decide (ns = ms) := by
    intro ns
    induction ns with
    | nil =>
      intro ms
      cases ms with
      | nil => rfl
      | cons m r => simp [PyData.eqvAll]
    | cons n r ih =>
      intro ms
      cases ms with
      | nil => simp [PyData.eqvAll]
      | cons m q =>
        show (PyData.eqv (.int n) (.int m) && PyData.eqvAll (r.map PyData.int) (q.map PyData.int)) = _
        rw [ih q]
        show ((n == m) && decide (r = q)) = _
        by_cases h1 : n = m
        · by_cases h2 : r = q
          · simp [h1, h2]
          · simp [h1, h2]
        · simp [h1]
  intro ns ms
  exact key ns ms

/-! ### greedy stays ahead -/
def fitN (wide : Int) : List Str → Nat
  | [] => 0
  | w :: r => 1 + fitGo wide w r
theorem fitN_le (wide : Int) (ws : List Str) : fitN wide ws ≤ ws.length := by
  cases ws with
  | nil => exact Nat.le_refl _
  | cons w r =>
    have := fit_le wide r w
    show 1 + fitGo wide w r ≤ r.length + 1
    omega
theorem fitN_pos (wide : Int) {ws : List Str} (h : ws ≠ []) : 1 ≤ fitN wide ws := by
  cases ws with
  | nil => exact absurd rfl h
  | cons w r => exact Nat.le_add_right 1 _
theorem glue_grow : ∀ (l : List Str) (c : Str), c.length ≤ (glue c l).length
  | [], _ => Nat.le_refl _
  | v :: q, c => by
    refine Nat.le_trans ?_ (glue_grow q (gapS c v))
    rw [len_gap]
    omega
theorem fitGo_fits (wide : Int) : ∀ (r : List Str) (cur : Str), 1 ≤ fitGo wide cur r → ((glue cur (r.take (fitGo wide cur r))).length : Int) ≤ wide
  | [], _, h => absurd h (by show ¬ 1 ≤ 0; decide)
  | w :: r, cur, h => by
    unfold fitGo at h ⊢
    by_cases hf : ((gapS cur w).length : Int) ≤ wide
    · rw [if_pos hf]
      show ((glue (gapS cur w) (r.take (fitGo wide (gapS cur w) r))).length : Int) ≤ wide
      by_cases h0 : fitGo wide (gapS cur w) r = 0
      · rw [h0]
        exact hf
      · exact fitGo_fits wide r (gapS cur w) (by omega)
    · rw [if_neg hf] at h
      omega
theorem fitGo_max (wide : Int) : ∀ (r : List Str) (cur : Str) (k : Nat), k ≤ r.length → ((glue cur (r.take k)).length : Int) ≤ wide → k ≤ fitGo wide cur r
  | _, _, 0, _, _ => Nat.zero_le _
  | [], _, k + 1, h, _ => by simp at h
  | w :: r, cur, k + 1, h, hf => by
    have hf2 : ((glue (gapS cur w) (r.take k)).length : Int) ≤ wide := hf
    have hg := glue_grow (r.take k) (gapS cur w)
    have ih := fitGo_max wide r (gapS cur w) k (by simpa using h) hf2
    unfold fitGo
    rw [if_pos (by omega)]
    omega
theorem fitN_fits {wide : Int} {ws : List Str} (h : 2 ≤ fitN wide ws) : ((joinS (ws.take (fitN wide ws))).length : Int) ≤ wide := by
  cases ws with
  | nil => exact absurd h (by show ¬ 2 ≤ 0; decide)
  | cons w r =>
    have h1 : 1 ≤ fitGo wide w r := by
      have : fitN wide (w :: r) = 1 + fitGo wide w r := rfl
      omega
    have h2 := fitGo_fits wide r w h1
    show ((joinS ((w :: r).take (1 + fitGo wide w r))).length : Int) ≤ wide
    rw [Nat.add_comm, List.take_succ_cons, join_glue]
    exact h2
theorem fitN_max {wide : Int} {ws : List Str} {k : Nat} (h1 : 1 ≤ k) (h2 : k ≤ ws.length) (hf : ((joinS (ws.take k)).length : Int) ≤ wide) : k ≤ fitN wide ws := by
  cases ws with
  | nil =>
    have : ([] : List Str).length = 0 := rfl
    omega
  | cons w r =>
    cases k with
    | zero => omega
    | succ k =>
      rw [List.take_succ_cons, join_glue] at hf
      have := fitGo_max wide r w k (by simpa using h2) hf
      show k + 1 ≤ 1 + fitGo wide w r
      omega
theorem joinL_toteq {c : Nat} : ∀ l : List (List Nat), l ≠ [] → (TL.joinL [c] l).length + 1 = (l.map fun w => w.length + 1).sum
  | [], h => absurd rfl h
  | [p], _ => by simp [TL.joinL]
  | p :: q :: r, _ => by
    have ih := joinL_toteq (c := c) (q :: r) (by simp)
    show (p ++ ([c] ++ TL.joinL [c] (q :: r))).length + 1 = _
    simp only [List.length_append, List.length_cons, List.length_nil, List.map_cons, List.sum_cons] at ih ⊢
    omega
def totS (ws : List Str) : Nat := (ws.map fun w => w.length + 1).sum
theorem join_tot {ws : List Str} (h : ws ≠ []) : (joinS ws).length + 1 = totS ws := by
  unfold joinS totS
  rw [TL.join_eq, TL.len_tl, TL.tl_join, tl_blank, joinL_toteq _ (by simpa using h), List.map_map]
  congr 1
theorem join_suffix {a b : List Str} (h : b ≠ []) : (joinS b).length ≤ (joinS (a ++ b)).length := by
  have h1 := join_tot h
  have h2 := join_tot (ws := a ++ b) (by simp [h])
  have h3 : totS (a ++ b) = totS a + totS b := by
    unfold totS
    rw [List.map_append, List.sum_append]
  omega
theorem end_mono {wide : Int} {ws : List Str} {p q : Nat} (h1 : p ≤ q) (h2 : q < ws.length) : p + fitN wide (ws.drop p) ≤ q + fitN wide (ws.drop q) := by
  have hq : ws.drop q ≠ [] := fun z => by
    have := congrArg List.length z
    rw [List.length_drop, List.length_nil] at this
    omega
  have h3 := fitN_pos wide hq
  have h4 := fitN_le wide (ws.drop p)
  rw [List.length_drop] at h4
  by_cases hc : p + fitN wide (ws.drop p) ≤ q + 1
  · omega
  · have h5 := fitN_fits (wide := wide) (ws := ws.drop p) (by omega)
    have e1 : (ws.drop p).take (fitN wide (ws.drop p)) = (ws.drop p).take (q - p) ++ (ws.drop q).take (p + fitN wide (ws.drop p) - q) := by
      have e2 : fitN wide (ws.drop p) = (q - p) + (p + fitN wide (ws.drop p) - q) := by omega
      conv => lhs; rw [e2]
      rw [List.take_add, List.drop_drop, show p + (q - p) = q by omega]
    have hb : (ws.drop q).take (p + fitN wide (ws.drop p) - q) ≠ [] := fun z => by
      have := congrArg List.length z
      rw [List.length_take, List.length_drop, List.length_nil] at this
      omega
    have h6 := join_suffix (a := (ws.drop p).take (q - p)) hb
    rw [← e1] at h6
    have h7 := fitN_max (wide := wide) (ws := ws.drop q) (k := p + fitN wide (ws.drop p) - q) (by omega) (by rw [List.length_drop]; omega) (by omega)
    omega
/-- where the greedy lines end -/
def grd (wide : Int) (ws : List Str) : Nat → Nat
  | 0 => 0
  | n + 1 => if grd wide ws n < ws.length then grd wide ws n + fitN wide (ws.drop (grd wide ws n)) else grd wide ws n
theorem grd_le (wide : Int) (ws : List Str) : ∀ n, grd wide ws n ≤ ws.length
  | 0 => Nat.zero_le _
  | n + 1 => by
    have ih := grd_le wide ws n
    have h := fitN_le wide (ws.drop (grd wide ws n))
    rw [List.length_drop] at h
    unfold grd
    split <;> omega
theorem tail_grd (wide : Int) (ws : List Str) : ∀ j, tailLines wide (ws.drop (grd wide ws j)) = (tailLines wide ws).drop j
  | 0 => rfl
  | j + 1 => by
    have ih := tail_grd wide ws j
    unfold grd
    by_cases h : grd wide ws j < ws.length
    · rw [if_pos h, Nat.add_comm j 1, Nat.add_comm 1 j, ← List.drop_drop (i := 1), ← ih, ← List.drop_drop]
      cases e : ws.drop (grd wide ws j) with
      | nil =>
        have := congrArg List.length e
        rw [List.length_drop, List.length_nil] at this
        omega
      | cons w r =>
        rw [tail_cons wide w r]
        rfl
    · rw [if_neg h, ih, ← List.drop_drop (i := 1), ← ih, List.drop_eq_nil_of_le (by omega)]
      rfl
theorem grd_item {wide : Int} {ws : List Str} {j : Nat} (h : grd wide ws j < ws.length) : (tailLines wide ws)[j]? = some (joinS ((ws.drop (grd wide ws j)).take (fitN wide (ws.drop (grd wide ws j))))) := by
  have ih := tail_grd wide ws j
  cases e : ws.drop (grd wide ws j) with
  | nil =>
    have := congrArg List.length e
    rw [List.length_drop, List.length_nil] at this
    omega
  | cons w r =>
    rw [e, tail_cons] at ih
    have h2 := congrArg (fun l => l[0]?) ih
    simp only [List.getElem?_drop, Nat.add_zero, List.getElem?_cons_zero] at h2
    exact h2.symm
theorem grd_lt {wide : Int} {ws : List Str} {j : Nat} : grd wide ws j < ws.length ↔ j < (tailLines wide ws).length := by
  constructor
  · intro h
    exact (List.getElem?_eq_some_iff.mp (grd_item h)).1
  · intro h
    refine Classical.byContradiction fun hn => ?_
    have ih := tail_grd wide ws j
    rw [List.drop_eq_nil_of_le (by omega)] at ih
    have := congrArg List.length ih
    rw [List.length_drop] at this
    have h0 : (tailLines wide ([] : List Str)).length = 0 := rfl
    omega
theorem grd_end {wide : Int} {ws : List Str} : grd wide ws (tailLines wide ws).length = ws.length := by
  have h1 := grd_le wide ws (tailLines wide ws).length
  have h2 : ¬ grd wide ws (tailLines wide ws).length < ws.length := fun z => Nat.lt_irrefl _ (grd_lt.mp z)
  omega
/-- another breaking, so far -/
inductive Brk (wide : Int) (ws : List Str) : List Nat → Nat → Prop where
  | nil : Brk wide ws [] 0
  | snoc {os : List Nat} {at' o : Nat} : Brk wide ws os at' → at' < ws.length → at' < o → o ≤ at' + fitN wide (ws.drop at') → Brk wide ws (os ++ [o]) o
theorem brk_ahead {wide : Int} {ws : List Str} {os : List Nat} {e : Nat} (h : Brk wide ws os e) : e ≤ grd wide ws os.length ∧ e ≤ ws.length ∧ ∀ i o, os[i]? = some o → o ≤ grd wide ws (i + 1) := by
  induction h with
  | nil => exact ⟨Nat.le_refl _, Nat.zero_le _, fun i o h => by simp at h⟩
  | @snoc os at' o hb hlt ho hf ih =>
    obtain ⟨i1, i2, i3⟩ := ih
    have hfl := fitN_le wide (ws.drop at')
    rw [List.length_drop] at hfl
    have key : o ≤ grd wide ws (os.length + 1) := by
      unfold grd
      by_cases h : grd wide ws os.length < ws.length
      · rw [if_pos h]
        exact Nat.le_trans hf (end_mono i1 h)
      · rw [if_neg h]
        omega
    refine ⟨by rw [List.length_append]; exact key, by omega, fun i v hv => ?_⟩
    rcases Nat.lt_or_ge i os.length with hi | hi
    · rw [List.getElem?_append_left hi] at hv
      exact i3 i v hv
    · rw [List.getElem?_append_right hi] at hv
      have h0 : i - os.length = 0 := by
        have := (List.getElem?_eq_some_iff.mp hv).1
        simp at this
        omega
      rw [h0] at hv
      have e1 : o = v := Option.some.inj hv
      have e2 : i = os.length := by omega
      rw [← e1, e2]
      exact key
theorem brk_more {wide : Int} {ws : List Str} {os : List Nat} (h : Brk wide ws os ws.length) : (tailLines wide ws).length ≤ os.length := by
  have h1 := (brk_ahead h).1
  refine Classical.byContradiction fun hn => ?_
  have h2 : grd wide ws os.length < ws.length := grd_lt.mpr (by omega)
  omega
theorem brk_len {wide : Int} {ws : List Str} {os : List Nat} {e : Nat} (h : Brk wide ws os e) : os.length ≤ e := by
  induction h with
  | nil => exact Nat.le_refl _
  | @snoc os at' o hb hlt ho hf ih =>
    rw [List.length_append]
    simp
    omega
theorem joinL_app {c : Nat} : ∀ (l m : List (List Nat)), l ≠ [] → m ≠ [] → TL.joinL [c] (l ++ m) = TL.joinL [c] l ++ (c :: TL.joinL [c] m)
  | [], _, h, _ => absurd rfl h
  | [p], m, _, hm => by
    cases m with
    | nil => exact absurd rfl hm
    | cons q r => rfl
  | p :: q :: r, m, _, hm => by
    have ih := joinL_app (c := c) (q :: r) m (by simp) hm
    show p ++ ([c] ++ TL.joinL [c] ((q :: r) ++ m)) = (p ++ ([c] ++ TL.joinL [c] (q :: r))) ++ (c :: TL.joinL [c] m)
    rw [ih]
    simp
theorem joinL_flat {c : Nat} : ∀ gs : List (List (List Nat)), (∀ g ∈ gs, g ≠ []) → TL.joinL [c] (gs.map (TL.joinL [c])) = TL.joinL [c] gs.flatten
  | [], _ => rfl
  | [g], _ => by
    show TL.joinL [c] g = TL.joinL [c] (g ++ [])
    rw [List.append_nil]
  | g :: h :: r, hn => by
    have ih := joinL_flat (c := c) (h :: r) fun x hx => hn x (List.mem_cons_of_mem _ hx)
    show TL.joinL [c] g ++ ([c] ++ TL.joinL [c] ((h :: r).map (TL.joinL [c]))) = _
    rw [ih]
    show _ = TL.joinL [c] (g ++ (h :: r).flatten)
    rw [joinL_app g (h :: r).flatten (hn g List.mem_cons_self) (by
      rw [List.flatten_cons]
      intro z
      exact hn h (List.mem_cons_of_mem _ List.mem_cons_self) (List.append_eq_nil_iff.mp z).1)]
    rfl
theorem join_lines {wide : Int} {ws : List Str} (h : ws ≠ []) : joinS (linesS wide ws) = joinS ws := by
  obtain ⟨gs, e1, e2, e3⟩ := lines_groups wide ws h
  apply TL.ext_tl
  have tlj : ∀ l : List Str, TL.tl (joinS l) = TL.joinL [32] (l.map TL.tl) := fun l => by
    unfold joinS
    rw [TL.join_eq, TL.tl_join, tl_blank]
  rw [tlj, tlj, e1, ← e2, List.map_map]
  have e4 : gs.map (TL.tl ∘ joinS) = (gs.map (·.map TL.tl)).map (TL.joinL [32]) := by
    rw [List.map_map]
    apply List.map_congr_left
    intro g _
    exact tlj g
  rw [e4, joinL_flat _ fun g hg => by
    obtain ⟨g', hg', rfl⟩ := List.mem_map.mp hg
    simpa using (e3 g' hg').ne]
  congr 1
  have key : ∀ l : List (List Str), (l.map (·.map TL.tl)).flatten = l.flatten.map TL.tl := by
    intro l
    induction l with
    | nil => rfl
    | cons a r ih => rw [List.map_cons, List.flatten_cons, ih, List.flatten_cons, List.map_append]
  exact key gs

/-! ### the cells that a law walks -/
theorem cells_it {K : PySem.W.Frag} {σ : L2.St} {H : Hp} {a : Addr} {ns : List Int} {n : Int} {R : It → Hp → Prop} (h0 : σ[0]? = some (some (.ref a))) (hS : SqL K H a (ns.map V.int)) (hl : ns.length ≤ 63)
    (k : ∀ (L : Addr) (zs : List Int) (HB : Hp), HB L = some (.lst (zs.map V.int)) → Same H HB → R (Itl K L) HB) :
    iList K (tOp rCat (tLst (tCons (tCall (spCellAt K) [] E0 (tCons (tVar 0) (tCons (tC (.int 0)) tNil))) tNil)) (tSl (rSlL K) (tVar 0) (tPart (tC (.int 1))) (tPart (tC (.int n))))) σ H R := by
  refine ⟨_, h0, a, ns, 0, rfl, hS, fun z0 => ⟨(by show 1 ≤ sizeLine; decide), fun p1 n1 => ?_⟩⟩
  obtain ⟨ms, hms, ecut⟩ := cut_ints ns (some 1) (some n)
  refine ⟨_, h0, 1, rfl, n, rfl, a, ns.map V.int, rfl, (same_upd n1).seq hS, fun p2 n2 => ?_⟩
  have g1 : (upd (upd H p1 (.lst [.int z0])) p2 (.lst (cutV (ns.map V.int) (some 1) (some n)))) p1 = some (.lst [.int z0]) := by
    rw [upd_ne (ne_of_none upd_same n2)]
    exact upd_same
  refine ⟨p1, p2, _, _, rfl, rfl, g1, upd_same, ?_, fun L nL => ?_⟩
  · rw [ecut, List.length_map]
    show 1 + ms.length ≤ sizeLine
    exact Nat.le_trans (by omega : 1 + ms.length ≤ 64) (by decide)
  have sB := (same_upd (o := .lst [.int z0]) n1).trans ((same_upd n2).trans (same_upd (o := .lst ([V.int z0] ++ cutV (ns.map V.int) (some 1) (some n))) nL))
  refine ⟨L, rfl, ⟨_, .of upd_same⟩, k L (z0 :: ms) _ ?_ sB⟩
  rw [upd_same, ecut]
  rfl
/-- what a for asks of the thing that it walks -/
def forR (g : TG) (tb : TS) (D : Ends) (σ : L2.St) (J : It) (H1 : Hp) : Prop :=
  ∃ W : Nat → Nat → L2.St → Hp → Prop, (∃ m, W 0 m σ H1) ∧ ∀ i m σ H, W i m σ H → (J.stop i H ∧ D.nx σ H) ∨
    (J.go i H ∧ ∃ N : L2.St → Hp → Prop, (∀ σ' H', N σ' H' → ∃ m', m' < m ∧ W (i + 1) m' σ' H') ∧ ∀ x H', J.yld i H x H' → g x σ H' fun σ2 H2 => tb { D with nx := N, ct := N, bk := D.nx } σ2 H2)
theorem cells_for {K : PySem.W.Frag} {σ : L2.St} {H : Hp} {a : Addr} {ns : List Int} {n : Int} {g : TG} {tb u : TS} {D : Ends} (h0 : σ[0]? = some (some (.ref a))) (hS : SqL K H a (ns.map V.int)) (hl : ns.length ≤ 63)
    (k : ∀ (L : Addr) (zs : List Int) (HB : Hp), HB L = some (.lst (zs.map V.int)) → Same H HB → forR g tb { D with nx := u D } σ (Itl K L) HB) :
    tSeq (tFor (iList K (tOp rCat (tLst (tCons (tCall (spCellAt K) [] E0 (tCons (tVar 0) (tCons (tC (.int 0)) tNil))) tNil)) (tSl (rSlL K) (tVar 0) (tPart (tC (.int 1))) (tPart (tC (.int n)))))) g tb) u D σ H :=
  cells_it (R := forR g tb { D with nx := u D } σ) h0 hS hl k

def spFit (K : PySem.W.Frag) : Sp := fun vs H Q _ => ∃ (a : Addr) (ws : List Str) (wide : Int), vs = [.ref a, .int wide] ∧ SqL K H a (ws.map V.str) ∧ ws ≠ [] ∧ ws.length ≤ 2001 ∧ (∀ w ∈ ws, w.length ≤ 2000) ∧ ∀ H', Same H H' → Q (.int (fitN wide ws : Int)) H'
def cast (os : List Nat) : List Int := os.map fun n => ((n : Nat) : Int)
def spBroken : Sp := fun vs H Q _ => ∃ (p a : Addr) (ws : List Str) (wide : Int), vs = [.ref p, .ref a, .int wide] ∧ Src H p ∧ a ≠ p ∧ strsAt H a ws ∧ ws.length ≤ 2001 ∧ (∀ w ∈ ws, w.length ≤ 2000) ∧
  ∀ (R : Addr) (os : List Nat) H', Brk wide ws os ws.length → R ≠ p → H' R = some (.lst ((cast os).map V.int)) → Src H' p → Off p H H' → Q (.ref R) H'
def spTold (K : PySem.W.Frag) : Sp := fun vs H Q _ => ∃ (L a : Addr) (ws post : List Str) (wide : Int), vs = [.ref L, .ref a] ∧ SqL K H L ((tailLines wide ws ++ post).map V.str) ∧ SqL K H a (ws.map V.str) ∧ ws ≠ [] ∧ ws.length ≤ 2001 ∧ (∀ w ∈ ws, w.length ≤ 2000 ∧ wordy w) ∧ 0 ≤ wide ∧
  ∀ (R : Addr) H', H R = none → H' R = some (.lst ((cast ((List.range (tailLines wide ws).length).map fun i => grd wide ws (i + 1))).map V.int)) → Same H H' → Q (.ref R) H'
def spPartR : Sp := fun vs H Q _ => ∃ (p L a : Addr) (ws post : List Str) (wide : Int), vs = [.ref p, .ref L, .ref a, .int wide] ∧ Src H p ∧ L ≠ p ∧ a ≠ p ∧ strsAt H L (tailLines wide ws ++ post) ∧ strsAt H a ws ∧ ws ≠ [] ∧ ws.length ≤ 2001 ∧ (∀ w ∈ ws, w.length ≤ 2000 ∧ wordy w) ∧ 0 ≤ wide ∧
  (tailLines wide ws).length ≤ 2001 ∧ (∀ l ∈ tailLines wide ws, l.length ≤ 2000) ∧ ∀ H', Src H' p → Off p H H' → Q (.bl true) H'
def spLaw (K : PySem.W.Frag) : Sp := fun vs H Q _ => ∃ (a : Addr) (ns : List Int), vs = [.ref a] ∧ SqL K H a (ns.map V.int) ∧ ns.length ≤ 63 ∧ ∀ H', Q (.bl true) H'
theorem range_snoc {α : Type} (f : Nat → α) (j : Nat) : (List.range (j + 1)).map f = (List.range j).map f ++ [f j] := by
  rw [List.range_succ, List.map_append]
  rfl
section
variable {P : Program} {w : World} {K : PySem.W.Frag} {mg : Str → Option Value} {base : Heap}
theorem ok_fit (T : Txt K mg) : Ok P w K mg base CX0 "_law_fit" s_fit 1 ["_law_words_here", "_law_wide"] (spFit K) := by
  refine T.h_fit.ok sc_fit (fun vs H Q E h => ?_) (fun f cdv A outer s H vs Q E hr h => ?_)
  · obtain ⟨a, ws, wide, rfl, _⟩ := h; rfl
  obtain ⟨a, ws, wide, rfl, hs, hne, hn, hw, q⟩ := h
  obtain ⟨w0, r, rfl⟩ : ∃ w0 r, ws = w0 :: r := by
    cases ws with
    | nil => exact absurd rfl hne
    | cons w0 r => exact ⟨w0, r, rfl⟩
  refine ⟨_, (pss_cons (ps_set (i := 2) sc_fit.nd rfl (by first | exact Or.inl rfl | exact Or.inr rfl) pe_int)
      (pss_cons (ps_while PassesOwn.never (PW.pt (pw_and (pt_cmpR op_lt (pv 2) (pe_callB call_len (by rfl) T.m_len (by decide +kernel) (pa_cons (pv 0) pa_nil)) (nomark _)) (pw_and1 (pt_cmpR op_le (pe_callB call_len_str (by rfl) T.m_len (by decide +kernel) (pa_cons (pe_join pe_str (pe_slice sl_list (pv 0) po_none (po_some (pe_op op_add (pv 2) pe_int)))) pa_nil)) (pv 1) (nomark _)))))
      (pss_one (ps_set (i := 2) sc_fit.nd rfl (by first | exact Or.inl rfl | exact Or.inr rfl) (pe_op op_add (pv 2) pe_int))))
      (pss_one (ps_ret (pv 2))))), ?_⟩
  refine ⟨fun m σ H' => ∃ k : Nat, σ = [some (.ref a), some (.int wide), some (.int (k : Int))] ∧ 1 ≤ k ∧ k ≤ (w0 :: r).length ∧ m = (w0 :: r).length - k ∧
      k + fitGo wide (joinS ((w0 :: r).take k)) ((w0 :: r).drop k) = 1 + fitGo wide w0 r ∧ Same H H', ⟨_, 1, rfl, Nat.le_refl _, by simp, rfl, ?_, .refl _⟩, ?_⟩
  · show 1 + fitGo wide (joinS [w0]) r = _
    rw [join_one]
  rintro m σ H' ⟨k, rfl, k1, k2, rfl, hf, sm⟩
  have tk : ∀ j, ((w0 :: r).take j).length ≤ 2001 ∧ ∀ w ∈ (w0 :: r).take j, w.length ≤ 2000 := fun j => ⟨by rw [List.length_take]; omega, fun w h => hw w (List.mem_of_mem_take h)⟩
  have fin : k = 1 + fitGo wide w0 r → ∀ H1, Same H H1 → tRet (tVar 2) { nx := fun _ H' => Q .non H', rt := Q } [some (.ref a), some (.int wide), some (.int (k : Int))] H1 := by
    intro hk H1 sm1
    refine ⟨_, rfl, ?_⟩
    rw [hk]
    exact q H1 sm1
  refine ⟨_, rfl, _, rfl, _, _, rfl, .inl ⟨_, sm.seq hs, rfl⟩, _, _, rfl, rfl, _, rfl, ite2 (fun e => ?_) (fun e => ?_)⟩
  · have e1 : (k : Int) < (((w0 :: r).map V.str).length : Int) := of_decide_eq_true e
    rw [List.length_map] at e1
    have hk : k < (w0 :: r).length := by omega
    obtain ⟨v, hv⟩ : ∃ v, (w0 :: r)[k]? = some v := ⟨_, List.getElem?_eq_getElem hk⟩
    have fs := fit_step (wide := wide) hv k1
    refine ⟨⟨_, rfl⟩, _, rfl, _, rfl, _, _, rfl, rfl, _, rfl, a, _, rfl, sm.seq hs, fun S nS => ?_⟩
    have ec : cutV ((w0 :: r).map V.str) none (some ((k : Int) + 1)) = ((w0 :: r).take (k + 1)).map V.str := cut_to V.str (w0 :: r) (k + 1)
    rw [ec]
    have jl := joinS_len (tk (k + 1)).1 (tk (k + 1)).2
    refine ⟨_, S, (w0 :: r).take (k + 1), rfl, rfl, .inl (.of upd_same), join_size (tk _).1 (tk _).2, ?_⟩
    refine ⟨_, rfl, bigl (by unfold joinS at jl; omega), _, rfl, _, _, rfl, rfl, _, rfl, ite2 (fun e2 => ?_) (fun e2 => ?_)⟩
    · have e3 : ((joinS ((w0 :: r).take (k + 1))).length : Int) ≤ wide := of_decide_eq_true e2
      rw [if_pos e3] at fs
      refine ⟨fun σ' H2 => σ' = [some (.ref a), some (.int wide), some (.int ((k + 1 : Nat) : Int))] ∧ Same H H2, ?_, ?_⟩
      · rintro σ' H2 ⟨rfl, sm2⟩
        exact ⟨_, by omega, k + 1, rfl, by omega, hk, rfl, by omega, sm2⟩
      · exact ⟨_, rfl, _, _, rfl, rfl, rfl, sm.trans (same_upd nS)⟩
    · have e3 : ¬ ((joinS ((w0 :: r).take (k + 1))).length : Int) ≤ wide := fun z => e2 (decide_eq_true z)
      rw [if_neg e3] at fs
      exact fin (by omega) _ (sm.trans (same_upd nS))
  · have e1 : ¬ (k : Int) < (((w0 :: r).map V.str).length : Int) := fun z => e (decide_eq_true z)
    rw [List.length_map] at e1
    have hk : k = (w0 :: r).length := by omega
    refine iteF ?_
    refine fin ?_ _ sm
    rw [hk, List.drop_length] at hf
    have : fitGo wide (joinS ((w0 :: r).take (w0 :: r).length)) [] = 0 := rfl
    omega
theorem ok_broken (T : Txt K mg) : Ok P w K mg base CX0 "_law_broken" s_broken 3 ["_law_source_here", "_law_words_here", "_law_wide"] spBroken := by
  have O_next := ok_next (P := P) (w := w) (base := base) T
  have O_fit := ok_fit (P := P) (w := w) (base := base) T
  refine T.h_broken.ok sc_broken (fun vs H Q E h => ?_) (fun f cdv A outer s H vs Q E hr h => ?_)
  · obtain ⟨p, a, ws, wide, rfl, _⟩ := h; rfl
  obtain ⟨p, a, ws, wide, rfl, hs, nap, ha, hn, hw, q⟩ := h
  refine ⟨_, (pss_cons (ps_set (i := 3) sc_broken.nd rfl (by first | exact Or.inl rfl | exact Or.inr rfl) (pe_lst pa_nil))
      (pss_cons (ps_set (i := 4) sc_broken.nd rfl (by first | exact Or.inl rfl | exact Or.inr rfl) pe_int)
      (pss_cons (ps_while PassesOwn.never (pt_cmpR op_lt (pv 4) (pe_callB call_len (by rfl) T.m_len (by decide +kernel) (pa_cons (pv 1) pa_nil)) (nomark _))
      (pss_cons (ps_set (i := 5) sc_broken.nd rfl (by first | exact Or.inl rfl | exact Or.inr rfl) (callO O_fit (hr.mono (by decide)) (by rfl) (pa_cons (pe_slice sl_list (pv 1) (po_some (pv 4)) po_none) (pa_cons (pv 2) pa_nil))))
      (pss_cons (ps_set (i := 4) sc_broken.nd rfl (by first | exact Or.inl rfl | exact Or.inr rfl) (pe_op op_add (pv 4) (pe_ix ix_list (pe_lst (pa_cons (pv 5) (pa_cons (pe_callB (call_max2 rfl) (by rfl) T.m_max (by decide +kernel) (pa_cons pe_int (pa_cons (pe_op op_sub (pv 5) pe_int) pa_nil))) (pa_cons (pe_op op_add pe_int (callO O_next (hr.mono (by decide)) (by rfl) (pa_cons (pv 0) (pa_cons (pv 5) pa_nil)))) (pa_cons pe_int pa_nil))))) (callO O_next (hr.mono (by decide)) (by rfl) (pa_cons (pv 0) (pa_cons pe_int pa_nil))) (fun _ _ => rfl))))
      (pss_one (ps_expr (pe_bm PySem.F.plainAttrs_list PySem.F.slot_list_append PySem.F.type_list_append mt_append (pv 3) (pa_cons (pv 4) pa_nil)))))))
      (pss_one (ps_ret (pv 3)))))), ?_⟩
  refine ⟨(by show 0 ≤ sizeLine; decide), fun R nR => ?_⟩
  have nRp : R ≠ p := hs.ne_new nR
  have nRa : a ≠ R := ne_of_none ha nR
  refine ⟨fun m σ H' => ∃ (c : Nat) (os : List Nat) (v5 : Option V), σ = [some (.ref p), some (.ref a), some (.int wide), some (.ref R), some (.int (c : Int)), v5] ∧ Brk wide ws os c ∧ m = ws.length - c ∧ H' R = some (.lst ((cast os).map V.int)) ∧ H' a = some (.lst (ws.map V.str)) ∧ Src H' p ∧ Off p H H',
    ⟨_, 0, [], none, rfl, .nil, rfl, upd_same, same_upd nR _ _ ha, hs.keep nR, off_new nR⟩, ?_⟩
  rintro m σ H' ⟨c, os, v5, rfl, hb, rfl, eR, ea, sH, oH⟩
  have hcl := (brk_ahead hb).2.1
  have hol := brk_len hb
  refine ⟨_, rfl, _, rfl, _, _, rfl, .inl ⟨_, .of ea, rfl⟩, _, _, rfl, rfl, _, rfl, ite2 (fun e => ?_) (fun e => ?_)⟩
  · have e1 : (c : Int) < ((ws.map V.str).length : Int) := of_decide_eq_true e
    rw [List.length_map] at e1
    have hc : c < ws.length := by omega
    have hdn : ws.drop c ≠ [] := fun z => by
      have := congrArg List.length z
      rw [List.length_drop, List.length_nil] at this
      omega
    have fp := fitN_pos wide hdn
    have fl := fitN_le wide (ws.drop c)
    rw [List.length_drop] at fl
    refine ⟨fun σ' H2 => ∃ (o : Nat) (v5' : Option V), σ' = [some (.ref p), some (.ref a), some (.int wide), some (.ref R), some (.int (o : Int)), v5'] ∧ c < o ∧ o ≤ c + fitN wide (ws.drop c) ∧ H2 R = some (.lst ((cast (os ++ [o])).map V.int)) ∧ H2 a = some (.lst (ws.map V.str)) ∧ Src H2 p ∧ Off p H H2, ?_, ?_⟩
    · rintro σ' H2 ⟨o, v5', rfl, ho1, ho2, eR2, ea2, s2, o2⟩
      exact ⟨_, by omega, o, os ++ [o], v5', rfl, .snoc hb hc ho1 ho2, rfl, eR2, ea2, s2, o2⟩
    · refine ⟨_, rfl, _, rfl, _, rfl, a, _, rfl, .of ea, fun S nS => ?_⟩
      rw [cut_from]
      refine ⟨_, rfl, S, ws.drop c, wide, rfl, .of upd_same, hdn, by rw [List.length_drop]; omega, fun w h => hw w (List.mem_of_mem_drop h), fun H2 s2 => ?_⟩
      have sS := (same_upd (o := .lst ((ws.drop c).map V.str)) nS).trans s2
      refine ⟨_, rfl, _, rfl, _, rfl, _, _, rfl, rfl, _, _, rfl, _, rfl, _, rfl, p, (fitN wide (ws.drop c) : Int), rfl, by omega, by omega, sH.same sS, fun r3 H3 a3 b3 s3 o3 => ?_⟩
      refine ⟨_, _, rfl, rfl, (by show 4 ≤ sizeLine; decide), fun l4 n4 => ?_⟩
      refine ⟨_, rfl, p, 4, rfl, by decide, by decide, s3.keep n4, fun r5 H5 a5 b5 s5 o5 => ?_⟩
      obtain ⟨d, hd, d1, d2⟩ : ∃ d : Nat, atI [V.int (fitN wide (ws.drop c) : Int), V.int (if (fitN wide (ws.drop c) : Int) - 1 > 1 then (fitN wide (ws.drop c) : Int) - 1 else 1), V.int (1 + r3), V.int 1] r5 = some (.int (d : Int)) ∧ 1 ≤ d ∧ d ≤ fitN wide (ws.drop c) := by
        rcases (show r5 = 0 ∨ r5 = 1 ∨ r5 = 2 ∨ r5 = 3 by omega) with rfl | rfl | rfl | rfl
        · exact ⟨fitN wide (ws.drop c), rfl, fp, Nat.le_refl _⟩
        · by_cases h : (fitN wide (ws.drop c) : Int) - 1 > 1
          · refine ⟨fitN wide (ws.drop c) - 1, ?_, by omega, by omega⟩
            rw [if_pos h, show (fitN wide (ws.drop c) : Int) - 1 = ((fitN wide (ws.drop c) - 1 : Nat) : Int) by omega]
            rfl
          · refine ⟨1, ?_, Nat.le_refl _, fp⟩
            rw [if_neg h]
            rfl
        · refine ⟨1 + r3.toNat, ?_, by omega, by omega⟩
          rw [show (1 + r3 : Int) = ((1 + r3.toNat : Nat) : Int) by omega]
          rfl
        · exact ⟨1, rfl, Nat.le_refl _, fp⟩
      refine ⟨l4, _, _, _, rfl, rfl, .of (o5 _ _ upd_same (s3.ne_new n4)), hd, _, _, rfl, rfl, ?_⟩
      have eR5 : H5 R = some (.lst ((cast os).map V.int)) := o5 _ _ (same_upd n4 _ _ (o3 _ _ (sS _ _ eR) nRp)) nRp
      have ea5 : H5 a = some (.lst (ws.map V.str)) := o5 _ _ (same_upd n4 _ _ (o3 _ _ (sS _ _ ea) nap)) nap
      have oA : Off p H H5 := oH.trans ((Off.of sS).trans (o3.trans ((off_new n4).trans o5)))
      refine ⟨_, rfl, .inl ⟨rfl, _, .of eR5⟩, _, rfl, R, _, _, rfl, rfl, eR5, ?_, ?_⟩
      · unfold cast
        rw [List.length_map, List.length_map]
        exact big (by omega)
      · refine ⟨c + d, some (.int (fitN wide (ws.drop c) : Int)), ?_, by omega, by omega, ?_, ?_, ?_, ?_⟩
        · rw [Int.natCast_add]
          rfl
        · rw [upd_same]
          unfold cast
          rw [List.map_append, List.map_append]
          rfl
        · rw [upd_ne nRa]
          exact ea5
        · obtain ⟨x1, x2, x3, x4⟩ := s5
          exact ⟨x1, x2, x3, by rw [upd_ne nRp.symm]; exact x4⟩
        · intro b o hb1 hb2
          rw [upd_ne (ne_of_none hb1 nR)]
          exact oA _ _ hb1 hb2
  · have e1 : ¬ (c : Int) < ((ws.map V.str).length : Int) := fun z => e (decide_eq_true z)
    rw [List.length_map] at e1
    have hc : c = ws.length := by omega
    subst hc
    exact ⟨_, rfl, q R os H' hb nRp eR sH oH⟩
theorem ok_told (T : Txt K mg) : Ok P w K mg base CX0 "_law_told" s_told 1 ["_law_lines", "_law_words_here"] (spTold K) := by
  refine T.h_told.ok sc_told (fun vs H Q E h => ?_) (fun f cdv A outer s H vs Q E hr h => ?_)
  · obtain ⟨L, a, ws, post, wide, rfl, _⟩ := h; rfl
  obtain ⟨L, a, ws, post, wide, rfl, hL, ha, hne, hn, hw, w0, q⟩ := h
  refine ⟨_, (pss_cons (ps_set (i := 2) sc_told.nd rfl (by first | exact Or.inl rfl | exact Or.inr rfl) (pe_lst pa_nil))
      (pss_cons (ps_set (i := 3) sc_told.nd rfl (by first | exact Or.inl rfl | exact Or.inr rfl) pe_int)
      (pss_cons (ps_while PassesOwn.never (PW.pt (pw_and (pt_cmpR op_lt (pv 3) (pe_callB call_len (by rfl) T.m_len (by decide +kernel) (pa_cons (pv 1) pa_nil)) (nomark _)) (pw_and1 (pt_cmpR op_lt (pe_callB call_len (by rfl) T.m_len (by decide +kernel) (pa_cons (pv 2) pa_nil)) (pe_callB call_len (by rfl) T.m_len (by decide +kernel) (pa_cons (pv 0) pa_nil)) (nomark _)))))
      (pss_cons (ps_set (i := 3) sc_told.nd rfl (by first | exact Or.inl rfl | exact Or.inr rfl) (pe_op op_add (pv 3) (pe_callB call_len (by rfl) T.m_len (by decide +kernel) (pa_cons (pe_split (pe_ix ix_list (pv 0) (pe_callB call_len (by rfl) T.m_len (by decide +kernel) (pa_cons (pv 2) pa_nil)) (fun _ _ => rfl)) pe_str) pa_nil))))
      (pss_one (ps_expr (pe_bm PySem.F.plainAttrs_list PySem.F.slot_list_append PySem.F.type_list_append mt_append (pv 2) (pa_cons (pv 3) pa_nil))))))
      (pss_one (ps_ret (pv 2)))))), ?_⟩
  refine ⟨(by show 0 ≤ sizeLine; decide), fun R nR => ?_⟩
  refine ⟨fun m σ H' => ∃ j : Nat, σ = [some (.ref L), some (.ref a), some (.ref R), some (.int (grd wide ws j : Int))] ∧ j ≤ (tailLines wide ws).length ∧ m = (tailLines wide ws).length - j ∧ H' R = some (.lst ((cast ((List.range j).map fun i => grd wide ws (i + 1))).map V.int)) ∧ Same H H',
    ⟨_, 0, rfl, Nat.zero_le _, rfl, upd_same, same_upd nR⟩, ?_⟩
  rintro m σ H' ⟨j, rfl, hj, rfl, eR, sm⟩
  have lenR : (List.map V.int (cast ((List.range j).map fun i => grd wide ws (i + 1)))).length = j := by
    unfold cast
    rw [List.length_map, List.length_map, List.length_map, List.length_range]
  refine ⟨_, rfl, _, rfl, _, _, rfl, .inl ⟨_, sm.seq ha, rfl⟩, _, _, rfl, rfl, _, rfl, ite2 (fun e => ?_) (fun e => ?_)⟩
  · have e1 : (grd wide ws j : Int) < ((ws.map V.str).length : Int) := of_decide_eq_true e
    rw [List.length_map] at e1
    have hg : grd wide ws j < ws.length := by omega
    have hjl := grd_lt.mp hg
    have hit := grd_item hg
    have hdn : ws.drop (grd wide ws j) ≠ [] := fun z => by
      have := congrArg List.length z
      rw [List.length_drop, List.length_nil] at this
      omega
    have fp := fitN_pos wide hdn
    have fl := fitN_le wide (ws.drop (grd wide ws j))
    rw [List.length_drop] at fl
    refine ⟨_, rfl, _, _, rfl, .inl ⟨_, .of eR, rfl⟩, _, rfl, _, _, rfl, .inl ⟨_, sm.seq hL, rfl⟩, _, _, rfl, rfl, _, rfl, ite2 (fun _ => ?_) (fun e2 => ?_)⟩
    · refine ⟨fun σ' H2 => σ' = [some (.ref L), some (.ref a), some (.ref R), some (.int (grd wide ws (j + 1) : Int))] ∧ H2 R = some (.lst ((cast ((List.range (j + 1)).map fun i => grd wide ws (i + 1))).map V.int)) ∧ Same H H2, ?_, ?_⟩
      · rintro σ' H2 ⟨rfl, eR2, s2⟩
        exact ⟨_, by omega, j + 1, rfl, hjl, rfl, eR2, s2⟩
      · have gl : ∀ v ∈ (ws.drop (grd wide ws j)).take (fitN wide (ws.drop (grd wide ws j))), wordy v ∧ v.length ≤ 2000 := fun v hv => ⟨(hw v (List.mem_of_mem_drop (List.mem_of_mem_take hv))).2, (hw v (List.mem_of_mem_drop (List.mem_of_mem_take hv))).1⟩
        have gne : (ws.drop (grd wide ws j)).take (fitN wide (ws.drop (grd wide ws j))) ≠ [] := fun z => by
          have := congrArg List.length z
          rw [List.length_take, List.length_drop, List.length_nil] at this
          omega
        have jl := joinS_len (ws := (ws.drop (grd wide ws j)).take (fitN wide (ws.drop (grd wide ws j)))) (by rw [List.length_take, List.length_drop]; omega) (fun v hv => (gl v hv).2)
        have ai : atI ((tailLines wide ws ++ post).map V.str) (j : Int) = some (.str (joinS ((ws.drop (grd wide ws j)).take (fitN wide (ws.drop (grd wide ws j)))))) := atI_nat (by rw [List.getElem?_map, List.getElem?_append_left hjl, hit]; rfl)
        have es : Txt.split (joinS ((ws.drop (grd wide ws j)).take (fitN wide (ws.drop (grd wide ws j))))) (Str.ofString " ") = (ws.drop (grd wide ws j)).take (fitN wide (ws.drop (grd wide ws j))) := by
          unfold joinS
          exact TL.split_join tl_blank blank_plain gne fun v hv => (gl v hv).1.2.1
        refine ⟨_, rfl, _, rfl, _, rfl, _, _, rfl, .inl ⟨_, .of eR, rfl⟩, _, _, _, _, rfl, rfl, sm.seq hL, by rw [lenR]; exact ai, ⟨_, rfl⟩, _, _, rfl, rfl, (by decide +kernel), bigl (by omega), fun S nS => ?_⟩
        rw [es]
        refine ⟨_, _, rfl, .inl ⟨_, .of upd_same, rfl⟩, _, _, rfl, rfl, ?_⟩
        have eR2 := same_upd (o := .lst (((ws.drop (grd wide ws j)).take (fitN wide (ws.drop (grd wide ws j)))).map V.str)) nS _ _ eR
        have eg : (grd wide ws j : Int) + (((((ws.drop (grd wide ws j)).take (fitN wide (ws.drop (grd wide ws j)))).map V.str).length : Nat) : Int) = (grd wide ws (j + 1) : Int) := by
          rw [List.length_map, List.length_take, List.length_drop]
          show _ = ((if grd wide ws j < ws.length then grd wide ws j + fitN wide (ws.drop (grd wide ws j)) else grd wide ws j : Nat) : Int)
          rw [if_pos hg]
          omega
        show gName 3 (V.int ((grd wide ws j : Int) + (((((ws.drop (grd wide ws j)).take (fitN wide (ws.drop (grd wide ws j)))).map V.str).length : Nat) : Int))) _ _ _
        rw [eg]
        refine ⟨_, rfl, .inl ⟨rfl, _, .of eR2⟩, _, rfl, R, _, _, rfl, rfl, eR2, ?_, ?_⟩
        · rw [lenR]
          have := grd_le wide ws j
          have h3 : (tailLines wide ws).length ≤ 2002 := by
            cases ws with
            | nil => exact absurd rfl hne
            | cons w1 r1 =>
              have := linesGo_len wide r1 w1
              show (linesGo wide w1 r1).length ≤ _
              simp at hn
              omega
          exact big (by omega)
        · refine ⟨rfl, ?_, ?_⟩
          · rw [upd_same, range_snoc]
            unfold cast
            rw [List.map_append, List.map_append]
            rfl
          · intro b o hb
            rw [upd_ne (ne_of_none hb nR)]
            exact same_upd nS _ _ (sm _ _ hb)
    · exfalso
      apply e2
      rw [decide_eq_true_eq, lenR, List.length_map, List.length_append]
      omega
  · have e1 : ¬ (grd wide ws j : Int) < ((ws.map V.str).length : Int) := fun z => e (decide_eq_true z)
    rw [List.length_map] at e1
    have hj2 : j = (tailLines wide ws).length := by
      have h2 : ¬ j < (tailLines wide ws).length := fun z => by
        have := grd_lt.mpr z
        omega
      omega
    refine iteF ?_
    refine ⟨_, rfl, q R H' nR ?_ sm⟩
    rw [← hj2]
    exact eR
theorem ok_part_right (T : Txt K mg) : Ok P w K mg base CX0 "_law_part_right" s_part_right 4 ["_law_source_here", "_law_lines", "_law_words_here", "_law_wide"] spPartR := by
  have O_told := ok_told (P := P) (w := w) (base := base) T
  have O_broken := ok_broken (P := P) (w := w) (base := base) T
  refine T.h_part_right.ok sc_part_right (fun vs H Q E h => ?_) (fun f cdv A outer s H vs Q E hr h => ?_)
  · obtain ⟨p, L, a, ws, post, wide, rfl, _⟩ := h; rfl
  obtain ⟨p, L, a, ws, post, wide, rfl, hs, nL, na, hL, ha, hne, hn, hw, w0, tl1, tl2, q⟩ := h
  have tne : (tailLines wide ws) ≠ [] := by
    cases ws with
    | nil => exact absurd rfl hne
    | cons w1 r1 => rw [tail_cons]; simp
  obtain ⟨m, hm⟩ : ∃ m, (tailLines wide ws).length = m + 1 := by
    cases e : tailLines wide ws with
    | nil => exact absurd e tne
    | cons x1 x2 => exact ⟨x2.length, rfl⟩
  refine ⟨_, (pss_cons (ps_set (i := 4) sc_part_right.nd rfl (by first | exact Or.inl rfl | exact Or.inr rfl) (callO O_told (hr.mono (by decide)) (by rfl) (pa_cons (pv 1) (pa_cons (pv 2) pa_nil))))
      (pss_cons (ps_if (PW.pt (pw_or (pt_cmpR (op_eqD hr.units) (pv 4) (pe_lst pa_nil) (nomark _)) (pw_or (pt_cmpR op_ne (pe_ix ix_list (pv 4) (pe_un un_neg pe_int) (fun _ _ => rfl)) (pe_callB call_len (by rfl) T.m_len (by decide +kernel) (pa_cons (pv 2) pa_nil)) (nomark _)) (pw_or1 (pt_cmpR op_ne (pe_join pe_str (pe_slice sl_list (pv 1) po_none (po_some (pe_callB call_len (by rfl) T.m_len (by decide +kernel) (pa_cons (pv 4) pa_nil))))) (pe_join pe_str (pv 2)) (nomark _))))))
      (pss_one (ps_ret pe_bl))
      pss_nil)
      (pss_cons (ps_for PassesOwn.never rfl (pi_range1 (by rfl) T.m_range (pa_cons pe_int pa_nil)) (pg_name (i := 5) sc_part_right.nd rfl (by first | exact Or.inl rfl | exact Or.inr rfl))
      (pss_cons (ps_set (i := 6) sc_part_right.nd rfl (by first | exact Or.inl rfl | exact Or.inr rfl) (callO O_broken (hr.mono (by decide)) (by rfl) (pa_cons (pv 0) (pa_cons (pv 2) (pa_cons (pv 3) pa_nil)))))
      (pss_one (ps_if (PW.pt (pw_or (pt_cmpR op_lt (pe_callB call_len (by rfl) T.m_len (by decide +kernel) (pa_cons (pv 6) pa_nil)) (pe_callB call_len (by rfl) T.m_len (by decide +kernel) (pa_cons (pv 4) pa_nil)) (nomark _)) (pw_or1 (pt_cmpR (op_neD hr.units) (pe_lc (own := [("_law_many", 7), ("_law_known", 8)]) (g := gTup K 2 (gCons (gName 7) (gCons (gName 8) gNil))) (by rfl) sc_part_right.nd (pi_zip (by rfl) T.m_zip (pa_cons (pv 4) (pa_cons (pv 6) pa_nil))) (blkOk_by (own := [("_law_many", 7), ("_law_known", 8)]) (N := n_part_right) (sc := defScope s_part_right) (by decide +kernel)) (fun _ _ _ _ _ => (pg_tup rfl (pgs_cons (pg_name (i := 7) sc_part_right.nd rfl (by first | exact Or.inl rfl | exact Or.inr rfl)) (pgs_cons (pg_name (i := 8) sc_part_right.nd rfl (by first | exact Or.inl rfl | exact Or.inr rfl)) pgs_nil)))) (fun _ _ _ _ _ => (pts_one (pt_cmpR op_lt (pv 7) (pv 8) (nomark _)))) (fun _ _ _ _ _ => pe_int)) (pe_lst pa_nil) (nomark _)))))
      (pss_one (ps_ret pe_bl))
      pss_nil))))
      (pss_one (ps_ret pe_bl))))), ?_⟩
  refine ⟨_, rfl, _, rfl, L, a, ws, post, wide, rfl, .of hL, .of ha, hne, hn, hw, w0, fun R H1 nR eR s1 => ?_⟩
  have lenR : (List.map V.int (cast ((List.range (tailLines wide ws).length).map fun i => grd wide ws (i + 1)))).length = m + 1 := by
    unfold cast
    rw [List.length_map, List.length_map, List.length_map, List.length_range, hm]
  have nRp : R ≠ p := hs.ne_new nR
  -- told_here == []
  refine ⟨_, rfl, (by show 0 ≤ sizeLine; decide), fun e0 ne0 => ⟨datI (cast ((List.range (tailLines wide ws).length).map fun i => grd wide ws (i + 1))), datI [], dp_ints (.of (same_upd ne0 _ _ eR)), dp_ints (.of upd_same), shaped_ints _, shaped_ints _, false, ?_, iteF ?_⟩⟩
  · rw [eqv_datI, decide_eq_false]
    intro z
    have := congrArg List.length z
    unfold cast at this
    rw [List.length_map, List.length_map, List.length_range, List.length_nil] at this
    omega
  have eR1 := same_upd (o := .lst []) ne0 _ _ eR
  have s2 := s1.trans (same_upd (o := .lst []) ne0)
  generalize upd H1 e0 (.lst []) = H2 at eR1 s2 ⊢
  -- told_here[-1]
  have al : atI ((cast ((List.range (tailLines wide ws).length).map fun i => grd wide ws (i + 1))).map V.int) (-1) = some (.int (ws.length : Int)) := by
    rw [hm, range_snoc]
    unfold cast
    rw [List.map_append, List.map_append]
    have e := atI_last (((((List.range m).map fun i => grd wide ws (i + 1)).map fun n => ((n : Nat) : Int))).map V.int) (V.int ((grd wide ws (m + 1) : Nat) : Int))
    rw [← hm, grd_end] at e
    rw [← hm, grd_end]
    exact e
  refine ⟨_, rfl, 1, rfl, _, _, _, _, rfl, rfl, .of eR1, al, _, rfl, _, _, rfl, .inl ⟨_, .of (s2 _ _ ha), rfl⟩, rfl, false, ?_, iteF ?_⟩
  · rw [List.length_map, decide_eq_true rfl]
    rfl
  -- the joined lines
  refine ⟨⟨_, rfl⟩, _, rfl, _, rfl, _, _, rfl, .inl ⟨_, .of eR1, rfl⟩, _, rfl, L, _, rfl, .of (s2 _ _ hL), fun S nS => ?_⟩
  have ec : cutV ((tailLines wide ws ++ post).map V.str) none (some (((List.map V.int (cast ((List.range (tailLines wide ws).length).map fun i => grd wide ws (i + 1)))).length : Nat) : Int)) = (tailLines wide ws).map V.str := by
    rw [cut_to, lenR, ← hm, List.take_left]
  rw [ec]
  have bw : ∀ w ∈ ws, w.length ≤ 2000 := fun w h => (hw w h).1
  refine ⟨_, S, tailLines wide ws, rfl, rfl, .inl (.of upd_same), join_size tl1 tl2, ⟨_, rfl⟩, _, rfl, _, a, ws, rfl, rfl, .inl (.of (same_upd nS _ _ (s2 _ _ ha))), join_size hn bw, rfl, false, ?_, iteF ?_⟩
  · have e1 : Txt.join (Str.ofString " ") (tailLines wide ws) = Txt.join (Str.ofString " ") ws := by
      have h := join_lines (wide := wide) hne
      rw [lines_tail wide hne] at h
      exact h
    rw [e1, decide_eq_true rfl]
    rfl
  have s3 := s2.trans (same_upd (o := .lst ((tailLines wide ws).map V.str)) nS)
  have eR3 := same_upd (o := .lst ((tailLines wide ws).map V.str)) nS _ _ eR1
  generalize upd H2 S (.lst ((tailLines wide ws).map V.str)) = H3 at s3 eR3 ⊢
  -- three breakings
  refine ⟨3, rfl, by decide, by decide, for_range (lo := 0) (n := 3) (fun i σ G => (∃ v5 v6 v7 v8, σ = [some (.ref p), some (.ref L), some (.ref a), some (.int wide), some (.ref R), v5, v6, v7, v8]) ∧ Src G p ∧ Off p H3 G)
    ⟨⟨_, _, _, _, rfl⟩, hs.same s3, .refl⟩ ?_ ?_⟩
  · rintro i σ G hi ⟨⟨v5, v6, v7, v8, rfl⟩, sG, oG⟩
    have eRG := oG _ _ eR3 nRp
    have eaG : strsAt G a ws := oG _ _ (s3 _ _ ha) na
    refine ⟨_, rfl, _, rfl, _, rfl, p, a, ws, wide, rfl, sG, na, eaG, hn, bw, fun O os G1 hb nOp eO sG1 oG1 => ?_⟩
    have eR4 := oG1 _ _ eRG nRp
    obtain ⟨ah1, ah2, ah3⟩ := brk_ahead hb
    have hmo := brk_more hb
    have lenO : (List.map V.int (cast os)).length = os.length := by
      unfold cast
      rw [List.length_map, List.length_map]
    refine ⟨_, rfl, _, _, rfl, .inl ⟨_, .of eO, rfl⟩, _, rfl, _, _, rfl, .inl ⟨_, .of eR4, rfl⟩, _, _, rfl, rfl, _, rfl, ite2 (fun e => ?_) (fun _ => ?_)⟩
    · exfalso
      have e1 := of_decide_eq_true e
      rw [lenR, lenO] at e1
      omega
    refine ⟨_, rfl, _, rfl, R, O, _, _, rfl, .of eR4, .of eO, fun D nD => ?_⟩
    refine walk_zip (K := K) (a := R) (b := O) (xs := (cast ((List.range (tailLines wide ws).length).map fun i => grd wide ws (i + 1))).map V.int) (ys := (cast os).map V.int) (fun j G2 => G2 D = some (.lst []) ∧ Same G1 G2)
      ⟨upd_same, same_upd nD⟩ (fun j G2 h => ⟨.of (h.2 _ _ eR4), .of (h.2 _ _ eO)⟩) ?_ ?_
    · rintro j x y Tp G2 hx hy ⟨eD, sG2⟩ nT
      obtain ⟨n1, rfl, hn1⟩ := int_at hx
      obtain ⟨n2, rfl, hn2⟩ := int_at hy
      unfold cast at hn1 hn2
      have hle : n2 ≤ n1 := by
        rw [List.getElem?_map] at hn1 hn2
        cases e2 : os[j]? with
        | none => rw [e2] at hn2; cases hn2
        | some o =>
          rw [e2] at hn2
          have := ah3 j o e2
          have h5 : n2 = (o : Int) := (Option.some.inj hn2).symm
          cases e3 : ((List.range (tailLines wide ws).length).map fun i => grd wide ws (i + 1))[j]? with
          | none => rw [e3] at hn1; cases hn1
          | some g =>
            rw [e3] at hn1
            have h6 : n1 = (g : Int) := (Option.some.inj hn1).symm
            rw [List.getElem?_map] at e3
            cases e4 : (List.range (tailLines wide ws).length)[j]? with
            | none => rw [e4] at e3; cases e3
            | some i2 =>
              rw [e4] at e3
              have h7 : i2 = j := by
                have h8 := (List.getElem?_eq_some_iff.mp e4).1
                rw [List.length_range] at h8
                rw [List.getElem?_range h8] at e4
                exact (Option.some.inj e4).symm
              have h9 : g = grd wide ws (j + 1) := by
                rw [← h7]
                exact (Option.some.inj e3).symm
              omega
      refine ⟨Tp, _, rfl, .of upd_same, rfl, _, _, rfl, _, _, rfl, rfl, rfl, ?_⟩
      refine ⟨_, rfl, _, rfl, _, _, rfl, rfl, _, rfl, ite2 (fun e => ?_) (fun _ => ?_)⟩
      · exfalso
        have e1 := of_decide_eq_true e
        omega
      · exact ⟨same_upd nT _ _ eD, sG2.trans (same_upd nT)⟩
    · rintro G2 ⟨eD, sG2⟩
      refine ⟨(by show 0 ≤ sizeLine; decide), fun e5 ne5 => ⟨datI [], datI [], dp_ints (.of (same_upd ne5 _ _ eD)), dp_ints (.of upd_same), shaped_ints _, shaped_ints _, false, ?_, iteF ?_⟩⟩
      · rw [eqv_datI, decide_eq_true rfl]
        rfl
      · exact ⟨⟨_, _, _, _, rfl⟩, (sG1.same sG2).keep ne5, oG.trans (oG1.trans ((Off.of sG2).trans (off_new ne5)))⟩
  · rintro σ G ⟨_, sG, oG⟩
    exact q G sG ((Off.of s3).trans oG)
end

section
variable {P : Program} {w : World} {K : PySem.W.Frag} {mg : Str → Option Value} {base : Heap}
theorem ok_law {f : Addr} {fd : FuncData} (F : Fun K "law" "law" s_law f fd) (T : Txt K mg) : FnOk P w K mg base CX0 5 f fd ["_law_script"] (spLaw K) := by
  have O_cell_at := ok_cell_at (P := P) (w := w) (base := base) T
  have O_source := ok_source (P := P) (w := w) (base := base) T
  have O_next := ok_next (P := P) (w := w) (base := base) T
  have O_text := ok_text (P := P) (w := w) (base := base) T
  have O_words := ok_words (P := P) (w := w) (base := base) T
  have O_p_wrapped := ok_wrapped (P := P) (w := w) (base := base) T
  have O_told := ok_told (P := P) (w := w) (base := base) T
  have O_part_right := ok_part_right (P := P) (w := w) (base := base) T
  refine F.ok sc_law (fun vs H Q E h => ?_) (fun cdv A outer s H vs Q E hr h => ?_)
  · obtain ⟨a, ns, rfl, _⟩ := h; rfl
  obtain ⟨a, ns, rfl, hS, hlen, k⟩ := h
  refine ⟨_, (pss_cons (ps_for PassesOwn.never rfl (pi_list (pe_op op_cat (pe_lst (pa_cons (callO O_cell_at (hr.mono (by decide)) (by rfl) (pa_cons (pv 0) (pa_cons pe_int pa_nil))) pa_nil)) (pe_slice sl_list (pv 0) (po_some pe_int) (po_some pe_int)))) (pg_name (i := 1) sc_law.nd rfl (by first | exact Or.inl rfl | exact Or.inr rfl))
      (pss_cons (ps_set (i := 2) sc_law.nd rfl (by first | exact Or.inl rfl | exact Or.inr rfl) (callO O_source (hr.mono (by decide)) (by rfl) (pa_cons (pv 1) pa_nil)))
      (pss_cons (ps_set (i := 3) sc_law.nd rfl (by first | exact Or.inl rfl | exact Or.inr rfl) (callO O_next (hr.mono (by decide)) (by rfl) (pa_cons (pv 2) (pa_cons pe_int pa_nil))))
      (pss_cons (ps_set (i := 4) sc_law.nd rfl (by first | exact Or.inl rfl | exact Or.inr rfl) (callO O_text (hr.mono (by decide)) (by rfl) (pa_cons (pv 2) (pa_cons pe_int pa_nil))))
      (pss_cons (ps_set (i := 5) sc_law.nd rfl (by first | exact Or.inl rfl | exact Or.inr rfl) (callO O_words (hr.mono (by decide)) (by rfl) (pa_cons (pv 4) pa_nil)))
      (pss_cons (ps_set (i := 6) sc_law.nd rfl (by first | exact Or.inl rfl | exact Or.inr rfl) (pe_callB (cr_max rfl) (by rfl) T.m_max (by decide +kernel) (pa_cons (pe_op op_cat (pe_lst (pa_cons pe_int pa_nil)) (pe_lc (own := [("_law_words_here", 8)]) (te := (tCB (rMax K) (tCons (tOp _ (tLst (tCons _ tNil)) (tLc (iList K (tVar 8)) _ tYes (tCB _ (tCons (tVar 7) tNil)) [7])) tNil))) (by rfl) sc_law.nd (pi_list (pv 5)) (blkOk_by (own := [("_law_words_here", 8)]) (N := n_law) (sc := defScope s_law) (by decide +kernel)) (fun _ _ _ _ _ => (pg_name (i := 8) sc_law.nd rfl (by first | exact Or.inl rfl | exact Or.inr rfl))) (fun _ _ _ _ _ => pts_nil) (fun _ _ _ _ _ => (pe_callB (cr_max rfl) (by rfl) T.m_max (by decide +kernel) (pa_cons (pe_op op_cat (pe_lst (pa_cons pe_int pa_nil)) (pe_lc (own := [("_law_word_here", 7)]) (by rfl) sc_law.nd (pi_list (pv 8)) (blkOk_by (own := [("_law_word_here", 7)]) (N := n_law) (sc := relS _ (defScope s_law)) (by decide +kernel)) (fun _ _ _ _ _ => (pg_name (i := 7) sc_law.nd rfl (by first | exact Or.inl rfl | exact Or.inr rfl))) (fun _ _ _ _ _ => pts_nil) (fun _ _ _ _ _ => (pe_callB call_len_str (by rfl) T.m_len (by decide +kernel) (pa_cons (pv 7) pa_nil))))) pa_nil))))) pa_nil)))
      (pss_cons (ps_set (i := 9) sc_law.nd rfl (by first | exact Or.inl rfl | exact Or.inr rfl) (pe_ix ix_list (pe_lst (pa_cons (pv 3) (pa_cons (pv 6) (pa_cons (pe_op op_add (pv 6) (pv 3)) (pa_cons (pe_op op_add (pe_op op_mul pe_int (pv 6)) (pe_op op_fdiv (pv 3) pe_int)) (pa_cons (pe_op op_mul pe_int (pv 6)) pa_nil)))))) (callO O_next (hr.mono (by decide)) (by rfl) (pa_cons (pv 2) (pa_cons pe_int pa_nil))) (fun _ _ => rfl)))
      (pss_cons (ps_set (i := 10) sc_law.nd rfl (by first | exact Or.inl rfl | exact Or.inr rfl) (callO O_p_wrapped (hr.mono (by decide)) (by rfl) (pa_cons (pv 4) (pa_cons (pv 9) pa_nil))))
      (pss_cons (ps_for PassesOwn.never rfl (pi_list (pv 5)) (pg_name (i := 8) sc_law.nd rfl (by first | exact Or.inl rfl | exact Or.inr rfl))
      (pss_cons (ps_set (i := 11) sc_law.nd rfl (by first | exact Or.inl rfl | exact Or.inr rfl) pe_int)
      (pss_cons (ps_if (pt_cmpR (op_neD hr.units) (pv 8) (pe_lst pa_nil) (nomark _))
      (pss_cons (ps_if (pt_not (pt_val (callO O_part_right (hr.mono (by decide)) (by rfl) (pa_cons (pv 2) (pa_cons (pv 10) (pa_cons (pv 8) (pa_cons (pv 9) pa_nil)))))))
      (pss_one (ps_ret pe_bl))
      pss_nil)
      (pss_one (ps_set (i := 11) sc_law.nd rfl (by first | exact Or.inl rfl | exact Or.inr rfl) (pe_callB call_len (by rfl) T.m_len (by decide +kernel) (pa_cons (callO O_told (hr.mono (by decide)) (by rfl) (pa_cons (pv 10) (pa_cons (pv 8) pa_nil))) pa_nil)))))
      (pss_one (ps_if (pt_cmpR (op_neD hr.units) (pe_slice sl_list (pv 10) po_none (po_some pe_int)) (pe_lst (pa_cons pe_str pa_nil)) (nomark _))
      (pss_one (ps_ret pe_bl))
      pss_nil)))
      (pss_one (ps_set (i := 10) sc_law.nd rfl (by first | exact Or.inl rfl | exact Or.inr rfl) (pe_slice sl_list (pv 10) (po_some (pv 11)) po_none))))))
      (pss_one (ps_if (pt_cmpR (op_neD hr.units) (pv 10) (pe_lst pa_nil) (nomark _))
      (pss_one (ps_ret pe_bl))
      pss_nil)))))))))))
      (pss_one (ps_ret pe_bl))), ?_⟩
  refine cells_for rfl hS hlen fun L zs HB hL sB => ?_
  refine for_list (K := K) (a := L) (xs := zs.map V.int) (fun i σ H2 => (∃ v1 v2 v3 v4 v5 v6 v7 v8 v9 v10 v11, σ = [some (.ref a), v1, v2, v3, v4, v5, v6, v7, v8, v9, v10, v11]) ∧ Same HB H2)
    ⟨⟨none, none, none, none, none, none, none, none, none, none, none, rfl⟩, .refl _⟩ (fun i σ H2 _ h2 => .of (h2.2 _ _ hL)) ?_ (fun σ H2 _ => k H2)
  rintro i y σ H2 hi ⟨⟨v1, v2, v3, v4, v5, v6, v7, v8, v9, v10, v11, rfl⟩, sm⟩
  obtain ⟨z, rfl, _⟩ := int_at hi
  refine ⟨_, rfl, z, rfl, fun p H3 np s3 sm3 => ?_⟩
  refine ⟨_, rfl, p, 30, rfl, by decide, by decide, s3, fun space H4 a4 b4 s4 o4 => ?_⟩
  refine ⟨_, rfl, p, 300, rfl, s4, fun x H5 hx okx s5 o5 => ?_⟩
  refine ⟨_, rfl, x, rfl, by omega, fun pa as H6 s6 nP eP pr => ?_⟩
  have npp : pa ≠ p := s5.ne_new nP
  have old : Same HB H6 := fun c o hc => by
    have n1 : c ≠ p := ne_of_none (sm _ _ hc) np
    exact s6 _ _ (o5 _ _ (o4 _ _ (sm3 _ _ (sm _ _ hc)) n1) n1)
  have np' : ∀ c o, HB c = some o → c ≠ p := fun c o hc => ne_of_none (sm _ _ hc) np
  have t6 : Src H6 p := s5.same s6
  have pr6 : Paired (fun a ws => a ≠ p ∧ strsAt H6 a ws) as (partsS x) := paired_same (fun b ws hb => ⟨s5.ne_new hb.1, hb.2.2⟩) pr
  obtain ⟨c1, c2⟩ := partsS_small (x := x) (by omega)
  have asl : as.length ≤ 2001 := by rw [pr.length]; exact c1
  -- long
  refine ⟨(by show 1 ≤ sizeLine; decide), fun z0 nz0 => ?_⟩
  have s0 := same_upd (o := .lst [.int 0]) nz0
  have ez0 : (upd H6 z0 (.lst [.int 0])) z0 = some (.lst [.int 0]) := upd_same
  generalize upd H6 z0 (.lst [.int 0]) = H7 at s0 ez0 ⊢
  refine ⟨_, rfl, pa, rfl, ⟨_, .of (s0 _ _ eP)⟩, fun D nD => ?_⟩
  refine lc_list (K := K) (a := pa) (xs := as.map V.ref) (fun i H' => ∃ ns : List Int, H' D = some (.lst (ns.map V.int)) ∧ ns.length = i ∧ Same H7 H')
    ⟨[], upd_same, rfl, same_upd nD⟩ (fun i H' _ h => .of (h.choose_spec.2.2 _ _ (s0 _ _ eP))) ?_ ?_
  · rintro i y H' hi ⟨ns, eD, en, smD⟩
    obtain ⟨b, rfl, hb⟩ := ref_at hi
    obtain ⟨ws, hws, nbp, eb⟩ := paired_get pr6 hb
    have hil : i < as.length := (List.getElem?_eq_some_iff.mp hb).1
    obtain ⟨d1, d2⟩ := c2 ws (List.mem_of_getElem? hws)
    refine ⟨rfl, yes_if ?_⟩
    refine ⟨(by show 1 ≤ sizeLine; decide), fun z1 nz1 => ?_⟩
    have s1 := same_upd (o := .lst [.int 0]) nz1
    have ez1 : (upd H' z1 (.lst [.int 0])) z1 = some (.lst [.int 0]) := upd_same
    generalize upd H' z1 (.lst [.int 0]) = H1 at s1 ez1 ⊢
    have ea1 : H1 b = some (.lst (ws.map V.str)) := s1 _ _ (smD _ _ (s0 _ _ eb))
    refine ⟨_, rfl, b, rfl, ⟨_, .of ea1⟩, fun D1 nD1 => ?_⟩
    refine lc_list (K := K) (a := b) (xs := ws.map V.str) (fun j H'' => ∃ ks : List Int, H'' D1 = some (.lst (ks.map V.int)) ∧ ks.length = j ∧ Same H1 H'')
      ⟨[], upd_same, rfl, same_upd nD1⟩ (fun j H'' _ h => .of (h.choose_spec.2.2 _ _ ea1)) ?_ ?_
    · rintro j y H'' hj ⟨ks, eD1, ek, sm1⟩
      obtain ⟨wd, rfl, hwd⟩ := str_at hj
      have hjl : j < ws.length := (List.getElem?_eq_some_iff.mp hwd).1
      have wl := d2 wd (List.mem_of_getElem? hwd)
      refine ⟨rfl, yes_if ?_⟩
      refine ⟨_, rfl, wd, rfl, bigl (by omega), _, eD1, ?_, ks ++ [(wd.length : Int)], ?_, ?_, ?_⟩
      · rw [List.length_map]
        exact big (by omega)
      · rw [upd_same, List.map_append]
        rfl
      · simp [ek]
      · intro b o hb
        rw [upd_ne (ne_of_none hb nD1)]
        exact sm1 _ _ hb
    · rintro H'' ⟨ks, eD1, ek, sm1⟩
      rw [List.length_map] at ek
      refine ⟨z1, D1, _, _, rfl, rfl, sm1 _ _ ez1, eD1, ?_, fun C nC => ?_⟩
      · rw [List.length_map]
        exact bigl (by simp; omega)
      refine ⟨C, 0 :: ks, rfl, .of upd_same, by simp, fun m hm hall => ?_⟩
      have eD2 : H'' D = some (.lst (ns.map V.int)) := sm1 _ _ (s1 _ _ eD)
      refine ⟨_, same_upd nC _ _ eD2, ?_, ns ++ [m], ?_, ?_, ?_⟩
      · rw [List.length_map]
        exact big (by omega)
      · rw [upd_same, List.map_append]
        rfl
      · simp [en]
      · intro b o hb
        rw [upd_ne (ne_of_none hb nD)]
        exact same_upd nC _ _ (sm1 _ _ (s1 _ _ (smD _ _ hb)))
  rintro H' ⟨ns, eD, en, smD⟩
  rw [List.length_map] at en
  refine ⟨z0, D, _, _, rfl, rfl, smD _ _ ez0, eD, ?_, fun C nC => ?_⟩
  · rw [List.length_map]
    exact bigl (by simp; omega)
  refine ⟨C, 0 :: ns, rfl, .of upd_same, by simp, fun long hm hall => ?_⟩
  have l0 : 0 ≤ long := hall 0 List.mem_cons_self
  have s8 : Same H6 (upd H' C (.lst ((0 :: ns).map V.int))) := s0.trans (smD.trans (same_upd nC))
  show gName 6 (V.int long) _ (upd H' C (.lst ((0 :: ns).map V.int))) _
  generalize upd H' C (.lst ((0 :: ns).map V.int)) = H8 at s8 ⊢
  -- wide
  refine ⟨_, rfl, _, rfl, _, rfl, _, rfl, _, _, rfl, rfl, _, rfl, _, _, rfl, rfl, .inl ⟨by decide, by decide⟩, _, rfl, _, _, rfl, rfl, ⟨by decide, by decide⟩, _, _, rfl, rfl, _, rfl, _, _, rfl, rfl, .inl ⟨by decide, by decide⟩, (by show 5 ≤ sizeLine; decide), fun l9 n9 => ?_⟩
  have t8 : Src H8 p := t6.same s8
  refine ⟨_, rfl, p, 5, rfl, by decide, by decide, t8.keep n9, fun r9 H9 a9 b9 s9 o9 => ?_⟩
  obtain ⟨wide, hw, w0⟩ : ∃ wide : Int, atI [V.int space, V.int long, V.int (long + space), V.int (2 * long + space / 3), V.int (3 * long)] r9 = some (.int wide) ∧ 0 ≤ wide := by
    rcases (show r9 = 0 ∨ r9 = 1 ∨ r9 = 2 ∨ r9 = 3 ∨ r9 = 4 by omega) with rfl | rfl | rfl | rfl | rfl
    · exact ⟨_, rfl, a4⟩
    · exact ⟨_, rfl, l0⟩
    · exact ⟨_, rfl, by omega⟩
    · exact ⟨_, rfl, by omega⟩
    · exact ⟨_, rfl, by omega⟩
  refine ⟨l9, _, _, _, rfl, rfl, .of (o9 _ _ upd_same (t8.ne_new n9)), hw, ?_⟩
  refine ⟨_, rfl, _, rfl, x, wide, rfl, by omega, w0, fun Ls H10 s10 nLs eLs => ?_⟩
  have o10 : Off p H6 H10 := (Off.of s8).trans ((off_new n9).trans (o9.trans (.of s10)))
  have eP10 : H10 pa = some (.lst (as.map V.ref)) := o10 _ _ eP npp
  have t10 : Src H10 p := s9.same s10
  have nLp : Ls ≠ p := s9.ne_new nLs
  have old10 : Same HB H10 := fun c o hc => o10 _ _ (old _ _ hc) (np' c o hc)
  have okl : ∀ l ∈ wrappedS x wide, okS l := okx.wrapped
  obtain ⟨f1, f2⟩ := wrapped_few x wide
  -- part by part
  refine ⟨_, rfl, pa, rfl, ⟨_, .of eP10⟩, for_list (K := K) (a := pa) (xs := as.map V.ref) (fun i σ G => (∃ (La : Addr) (v8 v11 : Option V), σ = [some (.ref a), some (.int z), some (.ref p), some (.int space), some (.str x), some (.ref pa), some (.int long), v7, v8, some (.int wide), some (.ref La), v11] ∧ La ≠ p ∧ strsAt G La ((((partsS x).drop i).map (linesS wide)).flatten)) ∧ Src G p ∧ Off p H10 G)
    ⟨⟨Ls, _, _, rfl, nLp, eLs⟩, t10, .refl⟩ (fun i σ G _ h => .of (h.2.2 _ _ eP10 npp)) ?_ ?_⟩
  · rintro i y σ G hi ⟨⟨La, v8', v11', rfl, nLa, eLa⟩, tG, oG⟩
    obtain ⟨b, rfl, hb⟩ := ref_at hi
    obtain ⟨ws, hws, nbp, eb⟩ := paired_get pr6 hb
    obtain ⟨d1, d2⟩ := c2 ws (List.mem_of_getElem? hws)
    have hwm := List.mem_of_getElem? hws
    have ebG : G b = some (.lst (ws.map V.str)) := oG _ _ (o10 _ _ eb nbp) nbp
    have hdr : (((partsS x).drop i).map (linesS wide)).flatten = linesS wide ws ++ (((partsS x).drop (i + 1)).map (linesS wide)).flatten := by
      obtain ⟨h1, h2⟩ := List.getElem?_eq_some_iff.mp hws
      rw [List.drop_eq_getElem_cons h1, h2]
      rfl
    rw [hdr] at eLa
    have lsub : ∀ l ∈ linesS wide ws, l ∈ wrappedS x wide := fun l hl => List.mem_flatten.mpr ⟨linesS wide ws, List.mem_map.mpr ⟨ws, hwm, rfl⟩, hl⟩
    have okw : ∀ w ∈ ws, okS w := okx.parts ws hwm
    -- words != []
    refine ⟨_, rfl, (by show 0 ≤ sizeLine; decide), fun e0 ne0 => ⟨dat ws, dat [], dp_strs (.of (same_upd ne0 _ _ ebG)), dp_strs (.of upd_same), shaped_strs okw, shaped_strs (fun w h => by cases h), _, rfl, ite2 (fun e => ?_) (fun e => ?_)⟩⟩
    · rw [eqv_dat] at e
      have hne : ws ≠ [] := fun z => by
        rw [decide_eq_true z] at e
        cases e
      have sE := same_upd (o := .lst []) ne0
      have tE := tG.same sE
      have eLE := sE _ _ eLa
      have ebE := sE _ _ ebG
      have oE : Off p H10 (upd G e0 (.lst [])) := oG.trans (.of sE)
      generalize upd G e0 (.lst []) = G1 at tE eLE ebE oE ⊢
      rw [lines_tail wide hne] at eLE lsub
      have wor : ∀ w ∈ ws, w.length ≤ 2000 ∧ wordy w := fun w h => ⟨d2 w h, parts_wordy x ws hwm w h⟩
      have tll : (tailLines wide ws).length ≤ 2001 := by
        have h1 := linesS_len wide ws
        rw [lines_tail wide hne] at h1
        have h2 : ws.length ≤ 400 := by
          obtain ⟨pt, hpt, e9⟩ := List.mem_map.mp hwm
          have h3 := (split_small (x := x) tl_feed (by decide)).2 pt hpt
          have h4 := (split_small (x := pt) tl_blank (by decide)).1
          rw [← e9]
          have h5 : (wordsS pt).length ≤ (Txt.split pt (Str.ofString " ")).length := List.length_filter_le _ _
          omega
        omega
      refine ⟨_, rfl, _, rfl, _, rfl, _, rfl, p, La, b, ws, (((partsS x).drop (i + 1)).map (linesS wide)).flatten, wide, rfl, tE, nLa, nbp, eLE, ebE, hne, d1, wor, w0, tll, (fun l hl => by have := f2 l (lsub l hl); omega), fun G2 t2 o2 => ⟨true, rfl, iteF ?_⟩⟩
      have eL2 := o2 _ _ eLE nLa
      have eb2 := o2 _ _ ebE nbp
      refine ⟨_, rfl, _, rfl, La, b, ws, (((partsS x).drop (i + 1)).map (linesS wide)).flatten, wide, rfl, .of eL2, .of eb2, hne, d1, wor, w0, fun R G3 nR eR s3 => ?_⟩
      refine ⟨_, _, rfl, .inl ⟨_, .of eR, rfl⟩, ?_⟩
      refine ⟨_, rfl, _, rfl, _, rfl, La, _, rfl, .of (s3 _ _ eL2), fun S nS => ?_⟩
      have lenR : (List.map V.int (cast ((List.range (tailLines wide ws).length).map fun i => grd wide ws (i + 1)))).length = (tailLines wide ws).length := by
        unfold cast
        rw [List.length_map, List.length_map, List.length_map, List.length_range]
      rw [lenR, cut_from, List.drop_left]
      have t3 := t2.same s3
      exact ⟨⟨S, _, _, rfl, t3.ne_new nS, upd_same⟩, t3.keep nS, oE.trans (o2.trans ((Off.of s3).trans (off_new nS)))⟩
    · rw [eqv_dat] at e
      have he : ws = [] := by
        by_cases h : ws = []
        · exact h
        · exfalso
          apply e
          rw [decide_eq_false h]
          rfl
      subst he
      have sE := same_upd (o := .lst []) ne0
      have tE := tG.same sE
      have eLE := sE _ _ eLa
      have oE : Off p H10 (upd G e0 (.lst [])) := oG.trans (.of sE)
      generalize upd G e0 (.lst []) = G1 at tE eLE oE ⊢
      have o1 : ∀ l ∈ [Str.ofString ""], okS l := fun l hl => by rw [List.mem_singleton.mp hl]; exact okS.none
      refine ⟨_, rfl, 1, rfl, La, _, rfl, .of eLE, fun S nS => ?_⟩
      have ec : cutV ((linesS wide [] ++ (((partsS x).drop (i + 1)).map (linesS wide)).flatten).map V.str) none (some 1) = [Str.ofString ""].map V.str := cut_to V.str _ 1
      rw [ec]
      refine ⟨(by show 1 ≤ sizeLine; decide), fun e6 ne6 => ⟨dat [Str.ofString ""], dat [Str.ofString ""], dp_strs (.of (same_upd ne6 _ _ upd_same)), dp_strs (.of upd_same), shaped_strs o1, shaped_strs o1, false, ?_, iteF ?_⟩⟩
      · rw [eqv_dat, decide_eq_true rfl]
        rfl
      have sF := (same_upd (o := .lst ([Str.ofString ""].map V.str)) nS).trans (same_upd (o := .lst [.str (Str.ofString "")]) ne6)
      refine ⟨_, rfl, _, rfl, 1, rfl, La, _, rfl, .of (sF _ _ eLE), fun S2 nS2 => ?_⟩
      have ec2 : cutV ((linesS wide [] ++ (((partsS x).drop (i + 1)).map (linesS wide)).flatten).map V.str) (some 1) none = ((((partsS x).drop (i + 1)).map (linesS wide)).flatten).map V.str := cut_from V.str _ 1
      rw [ec2]
      have tF := tE.same sF
      exact ⟨⟨S2, _, _, rfl, tF.ne_new nS2, upd_same⟩, tF.keep nS2, oE.trans ((Off.of sF).trans (off_new nS2))⟩
  rintro σ G ⟨⟨La, v8', v11', rfl, nLa, eLa⟩, tG, oG⟩
  have ed : (((partsS x).drop (as.map V.ref).length).map (linesS wide)).flatten = [] := by
    rw [List.drop_eq_nil_of_le (by rw [List.length_map, pr.length]; exact Nat.le_refl _)]
    rfl
  rw [ed] at eLa
  refine ⟨_, rfl, (by show 0 ≤ sizeLine; decide), fun e0 ne0 => ⟨dat [], dat [], dp_strs (.of (same_upd ne0 _ _ eLa)), dp_strs (.of upd_same), shaped_strs (fun w h => by cases h), shaped_strs (fun w h => by cases h), false, ?_, iteF ?_⟩⟩
  · rw [eqv_dat, decide_eq_true rfl]
    rfl
  · exact ⟨⟨_, _, _, _, _, _, _, _, _, _, _, rfl⟩, fun c o hc => same_upd ne0 _ _ (oG _ _ (old10 _ _ hc) (np' c o hc))⟩
end

theorem all_mk {l : PySem.W.OpenLaw} {w : World} {K : PySem.W.Frag} {h : Heap} {mg : Str → Option Value} {fa : Addr} (X : K.In h) (G : h.Ns mainGlobals mg) (hfa : mg "law" = some (.ref fa))
    {f0 f1 f2 f3 f4 f5 f6 f7 f8 f9 f10 f11 f12 f13 f14 f15 f16 f17 : Addr} {od0 an0 od1 an1 od2 an2 od3 an3 od4 an4 od5 an5 od6 an6 od7 an7 od8 an8 od9 an9 od10 an10 od11 an11 od12 an12 od13 an13 od14 an14 od15 an15 od16 an16 od17 an17 : Option Addr} {sl0 sl1 sl2 sl3 sl4 sl5 sl6 sl7 sl8 sl9 sl10 sl11 sl12 sl13 sl14 sl15 sl16 sl17 : Array (Option Value)}
    {oc0 kV0 dc0 pm0 cd0 ct0 oc1 kV1 dc1 pm1 cd1 ct1 oc2 kV2 dc2 pm2 cd2 ct2 oc3 kV3 dc3 pm3 cd3 ct3 oc4 kV4 dc4 pm4 cd4 ct4 oc5 kV5 dc5 pm5 cd5 ct5 oc6 kV6 dc6 pm6 cd6 ct6 oc7 kV7 dc7 pm7 cd7 ct7 oc8 kV8 dc8 pm8 cd8 ct8 oc9 kV9 dc9 pm9 cd9 ct9 oc10 kV10 dc10 pm10 cd10 ct10 oc11 kV11 dc11 pm11 cd11 ct11 oc12 kV12 dc12 pm12 cd12 ct12 oc13 kV13 dc13 pm13 cd13 ct13 oc14 kV14 dc14 pm14 cd14 ct14 oc15 kV15 dc15 pm15 cd15 ct15 oc16 kV16 dc16 pm16 cd16 ct16 oc17 kV17 dc17 pm17 cd17 ct17 : Value}
    (a0 : PySem.W.nsIn K mainGlobals "is_whole" = some (some (.ref f0))) (l0 : K.lookup f0 = some ⟨oc0, od0, .func (PySem.W.fnOf "is_whole" "is_whole" (defArgs s_p_is_whole) (defBody s_p_is_whole) (defScope s_p_is_whole) .none kV0 dc0 pm0 an0 cd0 ct0), sl0⟩) (c0 : PySem.W.codeIn K cd0 "is_whole" = true) (k0 : PySem.W.keepIn K (.ref f0) = true)
    (a1 : PySem.W.nsIn K mainGlobals "is_count" = some (some (.ref f1))) (l1 : K.lookup f1 = some ⟨oc1, od1, .func (PySem.W.fnOf "is_count" "is_count" (defArgs s_p_is_count) (defBody s_p_is_count) (defScope s_p_is_count) .none kV1 dc1 pm1 an1 cd1 ct1), sl1⟩) (c1 : PySem.W.codeIn K cd1 "is_count" = true) (k1 : PySem.W.keepIn K (.ref f1) = true)
    (a2 : PySem.W.nsIn K mainGlobals "wrapped" = some (some (.ref f2))) (l2 : K.lookup f2 = some ⟨oc2, od2, .func (PySem.W.fnOf "wrapped" "wrapped" (defArgs s_p_wrapped) (defBody s_p_wrapped) (defScope s_p_wrapped) .none kV2 dc2 pm2 an2 cd2 ct2), sl2⟩) (c2 : PySem.W.codeIn K cd2 "wrapped" = true) (k2 : PySem.W.keepIn K (.ref f2) = true)
    (a3 : PySem.W.nsIn K mainGlobals "refuse_no_text" = some (some (.ref f3))) (l3 : K.lookup f3 = some ⟨oc3, od3, .func (PySem.W.fnOf "refuse_no_text" "refuse_no_text" (defArgs s_p_refuse_no_text) (defBody s_p_refuse_no_text) (defScope s_p_refuse_no_text) .none kV3 dc3 pm3 an3 cd3 ct3), sl3⟩) (c3 : PySem.W.codeIn K cd3 "refuse_no_text" = true) (k3 : PySem.W.keepIn K (.ref f3) = true)
    (a4 : PySem.W.nsIn K mainGlobals "parts_of" = some (some (.ref f4))) (l4 : K.lookup f4 = some ⟨oc4, od4, .func (PySem.W.fnOf "parts_of" "parts_of" (defArgs s_p_parts_of) (defBody s_p_parts_of) (defScope s_p_parts_of) .none kV4 dc4 pm4 an4 cd4 ct4), sl4⟩) (c4 : PySem.W.codeIn K cd4 "parts_of" = true) (k4 : PySem.W.keepIn K (.ref f4) = true)
    (a5 : PySem.W.nsIn K mainGlobals "lines_of" = some (some (.ref f5))) (l5 : K.lookup f5 = some ⟨oc5, od5, .func (PySem.W.fnOf "lines_of" "lines_of" (defArgs s_p_lines_of) (defBody s_p_lines_of) (defScope s_p_lines_of) .none kV5 dc5 pm5 an5 cd5 ct5), sl5⟩) (c5 : PySem.W.codeIn K cd5 "lines_of" = true) (k5 : PySem.W.keepIn K (.ref f5) = true)
    (a6 : PySem.W.nsIn K mainGlobals "_law_cell_at" = some (some (.ref f6))) (l6 : K.lookup f6 = some ⟨oc6, od6, .func (PySem.W.fnOf "_law_cell_at" "_law_cell_at" (defArgs s_cell_at) (defBody s_cell_at) (defScope s_cell_at) .none kV6 dc6 pm6 an6 cd6 ct6), sl6⟩) (c6 : PySem.W.codeIn K cd6 "_law_cell_at" = true) (k6 : PySem.W.keepIn K (.ref f6) = true)
    (a7 : PySem.W.nsIn K mainGlobals "_law_mixed" = some (some (.ref f7))) (l7 : K.lookup f7 = some ⟨oc7, od7, .func (PySem.W.fnOf "_law_mixed" "_law_mixed" (defArgs s_mixed) (defBody s_mixed) (defScope s_mixed) .none kV7 dc7 pm7 an7 cd7 ct7), sl7⟩) (c7 : PySem.W.codeIn K cd7 "_law_mixed" = true) (k7 : PySem.W.keepIn K (.ref f7) = true)
    (a8 : PySem.W.nsIn K mainGlobals "_law_source" = some (some (.ref f8))) (l8 : K.lookup f8 = some ⟨oc8, od8, .func (PySem.W.fnOf "_law_source" "_law_source" (defArgs s_source) (defBody s_source) (defScope s_source) .none kV8 dc8 pm8 an8 cd8 ct8), sl8⟩) (c8 : PySem.W.codeIn K cd8 "_law_source" = true) (k8 : PySem.W.keepIn K (.ref f8) = true)
    (a9 : PySem.W.nsIn K mainGlobals "_law_next" = some (some (.ref f9))) (l9 : K.lookup f9 = some ⟨oc9, od9, .func (PySem.W.fnOf "_law_next" "_law_next" (defArgs s_next) (defBody s_next) (defScope s_next) .none kV9 dc9 pm9 an9 cd9 ct9), sl9⟩) (c9 : PySem.W.codeIn K cd9 "_law_next" = true) (k9 : PySem.W.keepIn K (.ref f9) = true)
    (a10 : PySem.W.nsIn K mainGlobals "_law_word" = some (some (.ref f10))) (l10 : K.lookup f10 = some ⟨oc10, od10, .func (PySem.W.fnOf "_law_word" "_law_word" (defArgs s_word) (defBody s_word) (defScope s_word) .none kV10 dc10 pm10 an10 cd10 ct10), sl10⟩) (c10 : PySem.W.codeIn K cd10 "_law_word" = true) (k10 : PySem.W.keepIn K (.ref f10) = true)
    (a11 : PySem.W.nsIn K mainGlobals "_law_text" = some (some (.ref f11))) (l11 : K.lookup f11 = some ⟨oc11, od11, .func (PySem.W.fnOf "_law_text" "_law_text" (defArgs s_text) (defBody s_text) (defScope s_text) .none kV11 dc11 pm11 an11 cd11 ct11), sl11⟩) (c11 : PySem.W.codeIn K cd11 "_law_text" = true) (k11 : PySem.W.keepIn K (.ref f11) = true)
    (a12 : PySem.W.nsIn K mainGlobals "_law_words" = some (some (.ref f12))) (l12 : K.lookup f12 = some ⟨oc12, od12, .func (PySem.W.fnOf "_law_words" "_law_words" (defArgs s_words) (defBody s_words) (defScope s_words) .none kV12 dc12 pm12 an12 cd12 ct12), sl12⟩) (c12 : PySem.W.codeIn K cd12 "_law_words" = true) (k12 : PySem.W.keepIn K (.ref f12) = true)
    (a13 : PySem.W.nsIn K mainGlobals "_law_fit" = some (some (.ref f13))) (l13 : K.lookup f13 = some ⟨oc13, od13, .func (PySem.W.fnOf "_law_fit" "_law_fit" (defArgs s_fit) (defBody s_fit) (defScope s_fit) .none kV13 dc13 pm13 an13 cd13 ct13), sl13⟩) (c13 : PySem.W.codeIn K cd13 "_law_fit" = true) (k13 : PySem.W.keepIn K (.ref f13) = true)
    (a14 : PySem.W.nsIn K mainGlobals "_law_broken" = some (some (.ref f14))) (l14 : K.lookup f14 = some ⟨oc14, od14, .func (PySem.W.fnOf "_law_broken" "_law_broken" (defArgs s_broken) (defBody s_broken) (defScope s_broken) .none kV14 dc14 pm14 an14 cd14 ct14), sl14⟩) (c14 : PySem.W.codeIn K cd14 "_law_broken" = true) (k14 : PySem.W.keepIn K (.ref f14) = true)
    (a15 : PySem.W.nsIn K mainGlobals "_law_told" = some (some (.ref f15))) (l15 : K.lookup f15 = some ⟨oc15, od15, .func (PySem.W.fnOf "_law_told" "_law_told" (defArgs s_told) (defBody s_told) (defScope s_told) .none kV15 dc15 pm15 an15 cd15 ct15), sl15⟩) (c15 : PySem.W.codeIn K cd15 "_law_told" = true) (k15 : PySem.W.keepIn K (.ref f15) = true)
    (a16 : PySem.W.nsIn K mainGlobals "_law_part_right" = some (some (.ref f16))) (l16 : K.lookup f16 = some ⟨oc16, od16, .func (PySem.W.fnOf "_law_part_right" "_law_part_right" (defArgs s_part_right) (defBody s_part_right) (defScope s_part_right) .none kV16 dc16 pm16 an16 cd16 ct16), sl16⟩) (c16 : PySem.W.codeIn K cd16 "_law_part_right" = true) (k16 : PySem.W.keepIn K (.ref f16) = true)
    (a17 : PySem.W.nsIn K mainGlobals "law" = some (some (.ref f17))) (l17 : K.lookup f17 = some ⟨oc17, od17, .func (PySem.W.fnOf "law" "law" (defArgs s_law) (defBody s_law) (defScope s_law) .none kV17 dc17 pm17 an17 cd17 ct17), sl17⟩) (c17 : PySem.W.codeIn K cd17 "law" = true) (k17 : PySem.W.keepIn K (.ref f17) = true)
    (z_isinstance : PySem.W.nsIn K mainGlobals "isinstance" = some none)
    (z_int : PySem.W.nsIn K mainGlobals "int" = some none)
    (z_bool : PySem.W.nsIn K mainGlobals "bool" = some none)
    (z_str : PySem.W.nsIn K mainGlobals "str" = some none)
    (z_len : PySem.W.nsIn K mainGlobals "len" = some none)
    (z_range : PySem.W.nsIn K mainGlobals "range" = some none)
    (z_max : PySem.W.nsIn K mainGlobals "max" = some none)
    (z_zip : PySem.W.nsIn K mainGlobals "zip" = some none) :
    ∃ fd : FuncData, (∀ (s : Shared) (v : Value), BindsTo s fd ⟨[v], []⟩ [("_law_script", v)]) ∧ ∀ base : Heap, K.In base → base.Ns mainGlobals mg → FnOk l.prog w K mg base CX0 5 fa fd ["_law_script"] (spLaw K) := by
  have e := hfa.symm.trans (PySem.W.mg_of X G a17)
  cases e
  have H0 : Has K mg "is_whole" s_p_is_whole ["thing"] := has_mk (fun_mk (st := s_p_is_whole) l0 c0 k0) (PySem.W.mg_of X G a0) (fun _ _ _ _ _ _ us hl => match us, hl with | [_], _ => rfl)
  have H1 : Has K mg "is_count" s_p_is_count ["thing"] := has_mk (fun_mk (st := s_p_is_count) l1 c1 k1) (PySem.W.mg_of X G a1) (fun _ _ _ _ _ _ us hl => match us, hl with | [_], _ => rfl)
  have H2 : Has K mg "wrapped" s_p_wrapped ["text", "wide"] := has_mk (fun_mk (st := s_p_wrapped) l2 c2 k2) (PySem.W.mg_of X G a2) (fun _ _ _ _ _ _ us hl => match us, hl with | [_, _], _ => rfl)
  have H3 : Has K mg "refuse_no_text" s_p_refuse_no_text ["thing"] := has_mk (fun_mk (st := s_p_refuse_no_text) l3 c3 k3) (PySem.W.mg_of X G a3) (fun _ _ _ _ _ _ us hl => match us, hl with | [_], _ => rfl)
  have H4 : Has K mg "parts_of" s_p_parts_of ["text"] := has_mk (fun_mk (st := s_p_parts_of) l4 c4 k4) (PySem.W.mg_of X G a4) (fun _ _ _ _ _ _ us hl => match us, hl with | [_], _ => rfl)
  have H5 : Has K mg "lines_of" s_p_lines_of ["words", "wide"] := has_mk (fun_mk (st := s_p_lines_of) l5 c5 k5) (PySem.W.mg_of X G a5) (fun _ _ _ _ _ _ us hl => match us, hl with | [_, _], _ => rfl)
  have H6 : Has K mg "_law_cell_at" s_cell_at ["_law_script", "_law_k"] := has_mk (fun_mk (st := s_cell_at) l6 c6 k6) (PySem.W.mg_of X G a6) (fun _ _ _ _ _ _ us hl => match us, hl with | [_, _], _ => rfl)
  have H7 : Has K mg "_law_mixed" s_mixed ["_law_cell", "_law_k"] := has_mk (fun_mk (st := s_mixed) l7 c7 k7) (PySem.W.mg_of X G a7) (fun _ _ _ _ _ _ us hl => match us, hl with | [_, _], _ => rfl)
  have H8 : Has K mg "_law_source" s_source ["_law_cell"] := has_mk (fun_mk (st := s_source) l8 c8 k8) (PySem.W.mg_of X G a8) (fun _ _ _ _ _ _ us hl => match us, hl with | [_], _ => rfl)
  have H9 : Has K mg "_law_next" s_next ["_law_source_here", "_law_many"] := has_mk (fun_mk (st := s_next) l9 c9 k9) (PySem.W.mg_of X G a9) (fun _ _ _ _ _ _ us hl => match us, hl with | [_, _], _ => rfl)
  have H10 : Has K mg "_law_word" s_word ["_law_source_here"] := has_mk (fun_mk (st := s_word) l10 c10 k10) (PySem.W.mg_of X G a10) (fun _ _ _ _ _ _ us hl => match us, hl with | [_], _ => rfl)
  have H11 : Has K mg "_law_text" s_text ["_law_source_here", "_law_most"] := has_mk (fun_mk (st := s_text) l11 c11 k11) (PySem.W.mg_of X G a11) (fun _ _ _ _ _ _ us hl => match us, hl with | [_, _], _ => rfl)
  have H12 : Has K mg "_law_words" s_words ["_law_text_here"] := has_mk (fun_mk (st := s_words) l12 c12 k12) (PySem.W.mg_of X G a12) (fun _ _ _ _ _ _ us hl => match us, hl with | [_], _ => rfl)
  have H13 : Has K mg "_law_fit" s_fit ["_law_words_here", "_law_wide"] := has_mk (fun_mk (st := s_fit) l13 c13 k13) (PySem.W.mg_of X G a13) (fun _ _ _ _ _ _ us hl => match us, hl with | [_, _], _ => rfl)
  have H14 : Has K mg "_law_broken" s_broken ["_law_source_here", "_law_words_here", "_law_wide"] := has_mk (fun_mk (st := s_broken) l14 c14 k14) (PySem.W.mg_of X G a14) (fun _ _ _ _ _ _ us hl => match us, hl with | [_, _, _], _ => rfl)
  have H15 : Has K mg "_law_told" s_told ["_law_lines", "_law_words_here"] := has_mk (fun_mk (st := s_told) l15 c15 k15) (PySem.W.mg_of X G a15) (fun _ _ _ _ _ _ us hl => match us, hl with | [_, _], _ => rfl)
  have H16 : Has K mg "_law_part_right" s_part_right ["_law_source_here", "_law_lines", "_law_words_here", "_law_wide"] := has_mk (fun_mk (st := s_part_right) l16 c16 k16) (PySem.W.mg_of X G a16) (fun _ _ _ _ _ _ us hl => match us, hl with | [_, _, _, _], _ => rfl)
  have T : Txt K mg := ⟨H0, H1, H2, H3, H4, H5, H6, H7, H8, H9, H10, H11, H12, H13, H14, H15, H16, PySem.W.mg_none_of X G z_isinstance, PySem.W.mg_none_of X G z_int, PySem.W.mg_none_of X G z_bool, PySem.W.mg_none_of X G z_str, PySem.W.mg_none_of X G z_len, PySem.W.mg_none_of X G z_range, PySem.W.mg_none_of X G z_max, PySem.W.mg_none_of X G z_zip⟩
  exact ⟨_, fun s v => .of_eq rfl, fun base _ _ => ok_law (fun_mk (st := s_law) l17 c17 k17) T⟩
end K12
open PySem PySem.W PyProof.Rows
set_option maxRecDepth 100000 in
set_option maxHeartbeats 0 in
theorem PySem.Challenge.cw_nestlaid_k12_whole_no_fewer_lines_holds : PySem.Challenge.rw_nestlaid_k12_whole_no_fewer_lines.Holds := by
  w_on; o_law; k_head; (case hw => w_witness2)
  k_fill
  refine L2.walk_of (l := PySem.Challenge.rw_nestlaid_k12_whole_no_fewer_lines) (n := 63) (k := 5) (x := "_law_script") (CX := fun _ => L2.CX0) (sp := fun w => K12.spLaw _) rfl (by decide) rfl ⟨rfl, by decide, by decide⟩ (fun w h Y => PySem.W.kIn_of Y) ?F (fun _ _ a ns hl _ hS => ⟨a, ns, rfl, hS, hl, fun _ => rfl⟩) (fun _ _ _ _ _ h => h)
  case F =>
    intro w mg fa h KX G hmg
    refine' K12.all_mk KX G hmg ?a0 ?l0 ?c0 ?k0 ?a1 ?l1 ?c1 ?k1 ?a2 ?l2 ?c2 ?k2 ?a3 ?l3 ?c3 ?k3 ?a4 ?l4 ?c4 ?k4 ?a5 ?l5 ?c5 ?k5 ?a6 ?l6 ?c6 ?k6 ?a7 ?l7 ?c7 ?k7 ?a8 ?l8 ?c8 ?k8 ?a9 ?l9 ?c9 ?k9 ?a10 ?l10 ?c10 ?k10 ?a11 ?l11 ?c11 ?k11 ?a12 ?l12 ?c12 ?k12 ?a13 ?l13 ?c13 ?k13 ?a14 ?l14 ?c14 ?k14 ?a15 ?l15 ?c15 ?k15 ?a16 ?l16 ?c16 ?k16 ?a17 ?l17 ?c17 ?k17 ?z_isinstance ?z_int ?z_bool ?z_str ?z_len ?z_range ?z_max ?z_zip
    (case a0 => k_is); (case l0 => k_is); (case c0 => k_is); (case k0 => k_is)
    (case a1 => k_is); (case l1 => k_is); (case c1 => k_is); (case k1 => k_is)
    (case a2 => k_is); (case l2 => k_is); (case c2 => k_is); (case k2 => k_is)
    (case a3 => k_is); (case l3 => k_is); (case c3 => k_is); (case k3 => k_is)
    (case a4 => k_is); (case l4 => k_is); (case c4 => k_is); (case k4 => k_is)
    (case a5 => k_is); (case l5 => k_is); (case c5 => k_is); (case k5 => k_is)
    (case a6 => k_is); (case l6 => k_is); (case c6 => k_is); (case k6 => k_is)
    (case a7 => k_is); (case l7 => k_is); (case c7 => k_is); (case k7 => k_is)
    (case a8 => k_is); (case l8 => k_is); (case c8 => k_is); (case k8 => k_is)
    (case a9 => k_is); (case l9 => k_is); (case c9 => k_is); (case k9 => k_is)
    (case a10 => k_is); (case l10 => k_is); (case c10 => k_is); (case k10 => k_is)
    (case a11 => k_is); (case l11 => k_is); (case c11 => k_is); (case k11 => k_is)
    (case a12 => k_is); (case l12 => k_is); (case c12 => k_is); (case k12 => k_is)
    (case a13 => k_is); (case l13 => k_is); (case c13 => k_is); (case k13 => k_is)
    (case a14 => k_is); (case l14 => k_is); (case c14 => k_is); (case k14 => k_is)
    (case a15 => k_is); (case l15 => k_is); (case c15 => k_is); (case k15 => k_is)
    (case a16 => k_is); (case l16 => k_is); (case c16 => k_is); (case k16 => k_is)
    (case a17 => k_is); (case l17 => k_is); (case c17 => k_is); (case k17 => k_is)
    (case z_isinstance => k_is); (case z_int => k_is); (case z_bool => k_is); (case z_str => k_is)
    (case z_len => k_is); (case z_range => k_is); (case z_max => k_is); (case z_zip => k_is)
