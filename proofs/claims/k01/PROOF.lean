import PyProof.Rows.All
import Wide.All
import OpenK.AllK
import Wide.FinOn
import HandS.ForMost
import HandS.ForExc
import HandS.Wide
import HandS.Defaults
import HandS.IsInst
import PySem.Challenge.RW_nestlaid_k01_whole_numbers_and_bounds
set_option Elab.async false
set_option linter.all false
set_option maxRecDepth 100000
set_option maxHeartbeats 4000000

namespace K01
open PySem PySem.Spec PyProof.Rows L2
def topS (i : Nat) : Stmt := PySem.Challenge.pw_nestlaid_k01_whole_numbers_and_bounds.main.body.getD i (.Pass ⟨0, 0, 0, 0⟩)
abbrev s_p_is_whole : Stmt := topS 1
abbrev s_p_held : Stmt := topS 2
abbrev s_cell_at : Stmt := topS 4
abbrev s_mixed : Stmt := topS 5
abbrev s_source : Stmt := topS 6
abbrev s_next : Stmt := topS 7
abbrev s_number : Stmt := topS 8
abbrev s_thing : Stmt := topS 9
abbrev s_held : Stmt := topS 10
abbrev s_same : Stmt := topS 11
abbrev s_law : Stmt := topS 12
abbrev n_p_is_whole : List Str := ["thing"]
theorem sc_p_is_whole : FnScope n_p_is_whole ["thing"] (defScope s_p_is_whole) := ⟨rfl, rfl, rfl, by decide +kernel, rfl, by decide +kernel, by decide +kernel⟩
abbrev n_p_held : List Str := ["number", "least", "most"]
theorem sc_p_held : FnScope n_p_held ["number", "least", "most"] (defScope s_p_held) := ⟨rfl, rfl, rfl, by decide +kernel, rfl, by decide +kernel, by decide +kernel⟩
abbrev n_cell_at : List Str := ["_law_script", "_law_k"]
theorem sc_cell_at : FnScope n_cell_at ["_law_script", "_law_k"] (defScope s_cell_at) := ⟨rfl, rfl, rfl, by decide +kernel, rfl, by decide +kernel, by decide +kernel⟩
abbrev n_mixed : List Str := ["_law_cell", "_law_k", "_law_low"]
theorem sc_mixed : FnScope n_mixed ["_law_cell", "_law_k"] (defScope s_mixed) := ⟨rfl, rfl, rfl, by decide +kernel, rfl, by decide +kernel, by decide +kernel⟩
abbrev n_source : List Str := ["_law_cell"]
theorem sc_source : FnScope n_source ["_law_cell"] (defScope s_source) := ⟨rfl, rfl, rfl, by decide +kernel, rfl, by decide +kernel, by decide +kernel⟩
abbrev n_next : List Str := ["_law_source_here", "_law_many", "_law_found"]
theorem sc_next : FnScope n_next ["_law_source_here", "_law_many"] (defScope s_next) := ⟨rfl, rfl, rfl, by decide +kernel, rfl, by decide +kernel, by decide +kernel⟩
abbrev n_number : List Str := ["_law_source_here", "_law_beside", "_law_way", "_law_found"]
theorem sc_number : FnScope n_number ["_law_source_here", "_law_beside"] (defScope s_number) := ⟨rfl, rfl, rfl, by decide +kernel, rfl, by decide +kernel, by decide +kernel⟩
abbrev n_thing : List Str := ["_law_source_here", "_law_some"]
theorem sc_thing : FnScope n_thing ["_law_source_here"] (defScope s_thing) := ⟨rfl, rfl, rfl, by decide +kernel, rfl, by decide +kernel, by decide +kernel⟩
abbrev n_held : List Str := ["_law_amount", "_law_low", "_law_top"]
theorem sc_held : FnScope n_held ["_law_amount", "_law_low", "_law_top"] (defScope s_held) := ⟨rfl, rfl, rfl, by decide +kernel, rfl, by decide +kernel, by decide +kernel⟩
abbrev n_same : List Str := ["_law_found", "_law_due"]
theorem sc_same : FnScope n_same ["_law_found", "_law_due"] (defScope s_same) := ⟨rfl, rfl, rfl, by decide +kernel, rfl, by decide +kernel, by decide +kernel⟩
abbrev n_law : List Str := ["_law_script", "_law_cell", "_law_source_here", "_law_one", "_law_good", "_law_told", "_law_low", "_law_top", "_law_amount", "_law_found"]
theorem sc_law : FnScope n_law ["_law_script"] (defScope s_law) := ⟨rfl, rfl, rfl, by decide +kernel, rfl, by decide +kernel, by decide +kernel⟩
/-! ### what is known of a def of the top, and of a def that keeps its promise -/
structure Has (K : PySem.W.Frag) (mg : Str → Option Value) (x : Str) (st : Stmt) (ps : List Str) : Prop where
  ex : ∃ f fd, Fun K x x st f fd ∧ mg x = some (.ref f) ∧ Binds K fd ps []
structure Ok (P : Program) (w : World) (K : PySem.W.Frag) (mg : Str → Option Value) (base : Heap) (C : CXT) (x : Str) (st : Stmt) (k : Nat) (ps : List Str) (sp : Sp) : Prop where
  ex : ∃ f fd, Fun K x x st f fd ∧ FnOk P w K mg base C k f fd ps sp ∧ mg x = some (.ref f) ∧ Binds K fd ps []
section
variable {P : Program} {w : World} {K : PySem.W.Frag} {mg : Str → Option Value} {base : Heap} {x : Str} {st : Stmt} {ps N : List Str} {k : Nat} {sp : Sp}
theorem has_mk {f : Addr} {fd : FuncData} (F : Fun K x x st f fd) (g : mg x = some (.ref f))
    (h : ∀ (kV doc pm : Value) (an : Option Addr) (cdv ct : Value) (us : List Value), us.length = ps.length → bindArgs (PySem.W.fnOf x x (defArgs st) (defBody st) (defScope st) .none kV doc pm an cdv ct) ⟨us, []⟩ = pure (ps.zip us)) : Has K mg x st ps :=
  ⟨f, fd, F, g, F.binds h⟩
theorem Has.ok (D : Has K mg x st ps) (S : FnScope N ps (defScope st)) (len : ∀ vs H Q E, sp vs H Q E → vs.length = ps.length)
    (hbody : ∀ (f : Addr) (cdv : Value) (A : Around) (outer : List Env) (s : Shared) (H : Hp) (vs : List V) (Q : VK) (E : XK), Room k (A.deeper (envOfC x (defScope st) s.heap.objs.size f cdv)) → sp vs H Q E →
      ∃ t, PSs (cxOf CX0 P w K mg base N x (defScope st) f cdv A outer s H E).nox (defBody st) t ∧ t { nx := fun _ H' => Q .non H', rt := Q } (start N vs) H) : Ok P w K mg base CX0 x st (k + 1) ps sp := by
  obtain ⟨f, fd, F, g, b⟩ := D
  exact ⟨f, fd, F, F.ok S len (hbody f), g, b⟩
end
section
variable {X : Cx} {x : Str} {st : Stmt} {ps ks : List Str} {k : Nat} {sp : Sp} {e : Expr} {es : List Expr} {kws : List Keyword} {t tk : TA} {p pos : Pos} {g : List Value → List Value → List Value} {gV : List V → List V → List V}
theorem callO (O : Ok X.prog X.w X.K X.mg X.base CX0 x st k ps sp) (hr : Room k X.A) (hg : Gl X x) (ha : PA X (e :: es) t) (hdb : (x == ("__debug__" : Str)) = false := by decide) (he : starEach (e :: es) X.env = (false, eval e X.env) :: starEach es X.env := by rfl) (hpl : (backTo pos (starEach es X.env)).any (·.1) = false := by rfl) :
    PE X (.Call (.Name x p) (e :: es) [] pos) (tCall sp [] E0 t) := by
  obtain ⟨f, fd, F, G, m, b⟩ := O
  exact pe_call G hr hg m F.kp b .nil pass0 ha hdb he hpl
/-- how a call by keywords alone binds -/
def KwB (x : Str) (st : Stmt) (ps ks : List Str) (g : List Value → List Value → List Value) : Prop :=
  ∀ (kV doc pm : Value) (an : Option Addr) (cdv ct : Value) (ws : List Value), ws.length = ks.length → bindArgs (PySem.W.fnOf x x (defArgs st) (defBody st) (defScope st) .none kV doc pm an cdv ct) ⟨[], ks.zip ws⟩ = pure (ps.zip (g [] ws))
theorem kbn_of {K : PySem.W.Frag} {f : Addr} {fd : FuncData} (F : Fun K x x st f fd) (h : KwB x st ps ks g) (rel : ∀ {vs : List V} {us : List Value} {zs : List V} {ws : List Value}, Vals vs us → Vals zs ws → Vals (gV vs zs) (g us ws)) : KBn K fd ps 0 ks g gV := by
  obtain ⟨oc, od, kV, doc, pm, an, cdv, ct, osl, rfl, lk, hcd⟩ := F.ex
  refine ⟨fun s us ws _ h1 h2 => ?_, rel⟩
  obtain rfl : us = [] := List.eq_nil_of_length_eq_zero h1
  exact .of_eq (h kV doc pm an cdv ct ws h2)
/-- f(k = v, ..) -/
theorem callO_kw (O : Ok X.prog X.w X.K X.mg X.base CX0 x st k ps sp) (h : KwB x st ps ks g) (rel : ∀ {vs : List V} {us : List Value} {zs : List V} {ws : List Value}, Vals vs us → Vals zs ws → Vals (gV vs zs) (g us ws)) (hr : Room k X.A) (hg : Gl X x) (hkw : PK X kws tk)
    (hall : (backToKw pos (keywordEach kws X.env)).all (·.1.isSome) = true := by rfl) (hks : (backToKw pos (keywordEach kws X.env)).filterMap (·.1) = ks := by rfl) (hdb : (x == ("__debug__" : Str)) = false := by decide)
    (hpl : ((backTo pos (starEach [] X.env)).any (·.1) || (backToKw pos (keywordEach kws X.env)).any (·.1.isNone)) = false := by rfl) :
    PE X (.Call (.Name x p) [] kws pos) (tCallN 0 ks.length sp gV E0 tNil tk) := by
  obtain ⟨f, fd, F, G, m, b⟩ := O
  refine ⟨fun pins s σ H Q I h0 => ?_⟩
  refine wpAny_Call_Name_kw (ld_glob I hg m ?_ hdb)
  refine PySem.W.callWith_KW0 (h₀ := X.base) I.ok.mod.kin F.kp hall ?_ hpl
  refine thn (hkw.run pos pins s σ H _ I h0) fun ws s2 ⟨zs, H2, I2, rz, l1, l2, q2⟩ => ⟨I2.kIn, ?_⟩
  rw [hks]
  exact run_fnN (us := []) (vs := []) G hr (kbn_of F h rel) pass0 I2 .nil rz rfl l2 q2
end
/-! ### heaps -/
/-- all but p is as it was -/
def Off (p : Addr) (H H' : Hp) : Prop := ∀ b o, H b = some o → b ≠ p → H' b = some o
theorem Off.refl {p : Addr} {H : Hp} : Off p H H := fun _ _ h _ => h
theorem Off.trans {p : Addr} {H H1 H2 : Hp} (a : Off p H H1) (b : Off p H1 H2) : Off p H H2 := fun c o h n => b c o (a c o h n) n
theorem Off.of {p : Addr} {H H' : Hp} (s : Same H H') : Off p H H' := fun b o h _ => s b o h
theorem off_upd {p : Addr} {H : Hp} {o : HO} : Off p H (upd H p o) := fun b o' h n => by rw [upd_ne n]; exact h
theorem same_upd {H : Hp} {p : Addr} {o : HO} (h : H p = none) : Same H (upd H p o) := fun b x e => by
  rw [upd_ne (ne_of_none e h)]
  exact e
theorem off_new {p q : Addr} {H : Hp} {o : HO} (h : H q = none) : Off p H (upd H q o) := .of (same_upd h)
theorem Off.seq {K : PySem.W.Frag} {p : Addr} {H H' : Hp} {a : Addr} {xs : List V} (e : Off p H H') (n : a ≠ p) (h : SqL K H a xs) : SqL K H' a xs := by
  rcases h with (h | ⟨o, h⟩) | h
  · exact .inl (.inl (e _ _ h n))
  · exact .inl (.inr ⟨o, e _ _ h n⟩)
  · exact .inr h
theorem Off.ne {p a : Addr} {H H' : Hp} {o o' : HO} (h : H a = some o) (n : H p = none) : a ≠ p := ne_of_none h n
theorem atI_mem {α : Type} {xs : List α} {i : Int} (h0 : 0 ≤ i) (h1 : i < (xs.length : Int)) : ∃ v, v ∈ xs ∧ atI xs i = some v := by
  have h2 : i.toNat < xs.length := by omega
  refine ⟨xs[i.toNat], List.getElem_mem h2, ?_⟩
  have h3 := atI_nat (xs := xs) (j := i.toNat) (v := xs[i.toNat]) (List.getElem?_eq_getElem h2)
  rw [show ((i.toNat : Nat) : Int) = i by omega] at h3
  exact h3
theorem atI_at {α : Type} {xs : List α} {i : Int} (h0 : 0 ≤ i) (h1 : i < (xs.length : Int)) : ∃ (j : Nat) (v : α), (j : Int) = i ∧ xs[j]? = some v ∧ atI xs i = some v := by
  have h2 : i.toNat < xs.length := by omega
  have h3 := atI_nat (xs := xs) (j := i.toNat) (v := xs[i.toNat]) (List.getElem?_eq_getElem h2)
  rw [show ((i.toNat : Nat) : Int) = i by omega] at h3
  exact ⟨i.toNat, _, by omega, List.getElem?_eq_getElem h2, h3⟩
theorem int_at {ns : List Int} {i : Nat} {y : V} (h : (ns.map V.int)[i]? = some y) : ∃ z, y = V.int z ∧ ns[i]? = some z := by
  rw [List.getElem?_map] at h
  cases e : ns[i]? with
  | none =>
    rw [e] at h
    cases h
  | some z =>
    rw [e] at h
    exact ⟨z, (Option.some.inj h).symm, rfl⟩
theorem cut_ints (ns : List Int) (lo hi : Option Int) : ∃ ms : List Int, ms.length ≤ ns.length ∧ cutV (ns.map V.int) lo hi = ms.map V.int := by
  unfold cutV
  rw [← List.map_drop, ← List.map_take]
  exact ⟨_, by rw [List.length_take, List.length_drop]; omega, rfl⟩
theorem yes_if {σ : L2.St} {H : Hp} {A B : Hp → Prop} (h : A H) : tYes σ H (fun b H3 => if b = true then A H3 else B H3) := by
  show if true = true then A H else B H
  exact iteT h

structure Txt (K : PySem.W.Frag) (mg : Str → Option Value) : Prop where
  h_p_is_whole : Has K mg "is_whole" s_p_is_whole ["thing"]
  h_p_held : Has K mg "held" s_p_held ["number", "least", "most"]
  h_cell_at : Has K mg "_law_cell_at" s_cell_at ["_law_script", "_law_k"]
  h_mixed : Has K mg "_law_mixed" s_mixed ["_law_cell", "_law_k"]
  h_source : Has K mg "_law_source" s_source ["_law_cell"]
  h_next : Has K mg "_law_next" s_next ["_law_source_here", "_law_many"]
  h_number : Has K mg "_law_number" s_number ["_law_source_here", "_law_beside"]
  h_thing : Has K mg "_law_thing" s_thing ["_law_source_here"]
  h_held : Has K mg "_law_held" s_held ["_law_amount", "_law_low", "_law_top"]
  h_same : Has K mg "_law_same" s_same ["_law_found", "_law_due"]
  m_isinstance : mg "isinstance" = none
  m_int : mg "int" = none
  m_bool : mg "bool" = none
  m_max : mg "max" = none
  m_len : mg "len" = none
/-! ### the source of draws: a list of three numbers -/
def Src (H : Hp) (p : Addr) : Prop := ∃ a b c : Int, H p = some (.lst [.int a, .int b, .int c])
theorem Src.ne_new {H : Hp} {p q : Addr} (h : Src H p) (n : H q = none) : q ≠ p := by
  obtain ⟨a, b, c, e⟩ := h
  exact (ne_of_none e n).symm
theorem Src.keep {H : Hp} {p q : Addr} {o : HO} (h : Src H p) (n : H q = none) : Src (upd H q o) p := by
  obtain ⟨a, b, c, e⟩ := h
  exact ⟨a, b, c, by rw [upd_ne (ne_of_none e n)]; exact e⟩
theorem Src.same {H H' : Hp} {p : Addr} (h : Src H p) (s : Same H H') : Src H' p := by
  obtain ⟨a, b, c, e⟩ := h
  exact ⟨a, b, c, s _ _ e⟩
def spCellAt (K : PySem.W.Frag) : Sp := fun vs H Q _ => ∃ (l : Addr) (ns : List Int) (j : Nat), vs = [.ref l, .int (j : Int)] ∧ SqL K H l (ns.map V.int) ∧ ∀ z : Int, Q (.int z) H
def spMixed : Sp := fun vs H Q _ => ∃ c k : Int, vs = [.int c, .int k] ∧ ∀ r : Int, Q (.int r) H
def spSource : Sp := fun vs H Q _ => ∃ c : Int, vs = [.int c] ∧ ∀ p H', H p = none → Src H' p → Same H H' → Q (.ref p) H'
def spNext : Sp := fun vs H Q _ => ∃ (p : Addr) (m : Int), vs = [.ref p, .int m] ∧ 0 < m ∧ m < 2 ^ 100 ∧ Src H p ∧ ∀ (r : Int) H', 0 ≤ r → r < m → Src H' p → Off p H H' → Q (.int r) H'
section
variable {P : Program} {w : World} {K : PySem.W.Frag} {mg : Str → Option Value} {base : Heap}
theorem ok_cell_at (T : Txt K mg) : Ok P w K mg base CX0 "_law_cell_at" s_cell_at 1 ["_law_script", "_law_k"] (spCellAt K) := by
  refine T.h_cell_at.ok sc_cell_at (fun vs H Q E h => ?_) (fun f cdv A outer s H vs Q E hr h => ?_)
  · obtain ⟨l, ns, j, rfl, _⟩ := h; rfl
  obtain ⟨l, ns, j, rfl, hs, q⟩ := h
  refine ⟨_, (pss_cons (ps_if (pt_cmpR op_lt (pv 1) (pe_callB call_len (by rfl) T.m_len (by decide +kernel) (pa_cons (pv 0) pa_nil)) (nomark _))
      (pss_one (ps_ret (pe_ix ix_list (pv 0) (pv 1) (fun _ _ => rfl))))
      pss_nil)
      (pss_one (ps_ret pe_int))), ?_⟩
  refine ⟨_, rfl, _, rfl, _, _, rfl, .inl ⟨_, hs, rfl⟩, _, _, rfl, rfl, _, rfl, ite2 (fun e => ?_) (fun e => ?_)⟩
  · have e1 := of_decide_eq_true e
    obtain ⟨v, hv, ha⟩ := atI_mem (xs := ns.map V.int) (i := (j : Int)) (by omega) e1
    obtain ⟨z, _, rfl⟩ := List.mem_map.mp hv
    exact ⟨_, rfl, _, rfl, _, _, _, _, rfl, rfl, hs, ha, q z⟩
  · exact q 0
theorem ok_mixed (T : Txt K mg) : Ok P w K mg base CX0 "_law_mixed" s_mixed 1 ["_law_cell", "_law_k"] spMixed := by
  refine T.h_mixed.ok sc_mixed (fun vs H Q E h => ?_) (fun f cdv A outer s H vs Q E hr h => ?_)
  · obtain ⟨l, j, rfl, _⟩ := h; rfl
  obtain ⟨c, k, rfl, q⟩ := h
  refine ⟨_, (pss_cons (ps_set (i := 2) sc_mixed.nd rfl (by first | exact Or.inl rfl | exact Or.inr rfl) (pe_op op_add (pe_op op_mod (pv 0) pe_int) (pe_op op_mul (pe_op op_fdivW (pv 0) pe_int) pe_int)))
      (pss_cons (ps_set (i := 2) sc_mixed.nd rfl (by first | exact Or.inl rfl | exact Or.inr rfl) (pe_op op_mod (pe_op op_mul (pe_op op_add (pe_op op_add (pv 2) (pe_op op_mul pe_int (pv 1))) pe_int) pe_int) pe_int))
      (pss_cons (ps_set (i := 2) sc_mixed.nd rfl (by first | exact Or.inl rfl | exact Or.inr rfl) (pe_op op_mod (pe_op op_mul (pv 2) (pe_op op_add (pe_op op_add (pe_op op_fdiv (pv 2) pe_int) pe_int) (pv 1))) pe_int))
      (pss_one (ps_ret (pe_op op_mod (pe_op op_mul (pv 2) (pe_op op_add (pe_op op_fdiv (pv 2) pe_int) pe_int)) pe_int)))))), ?_⟩
  refine ⟨_, rfl, _, _, rfl, rfl, (by show (0 : Int) < 2147483563; decide), _, rfl, _, _, rfl, rfl, wide_div (b := 40) (by decide) (by decide) (by decide) (by decide), _, _, rfl, rfl, .inr ⟨by decide, by decide⟩, _, _, rfl, rfl, ?_⟩
  refine ⟨_, rfl, _, rfl, _, _, rfl, rfl, .inl ⟨by decide, by decide⟩, _, _, rfl, rfl, _, _, rfl, rfl, _, _, rfl, rfl, .inr ⟨by decide, by decide⟩, _, _, rfl, rfl, (by show (0 : Int) < 2147483563; decide), ?_⟩
  have m1 : ∀ a : Int, (0 : Int) ≤ a % 2147483563 ∧ a % 2147483563 < 2147483563 := fun a => ⟨Int.emod_nonneg a (by decide), Int.emod_lt_of_pos a (by decide)⟩
  have m2 : ∀ a : Int, (0 : Int) ≤ a % 2147483549 ∧ a % 2147483549 < 2147483549 := fun a => ⟨Int.emod_nonneg a (by decide), Int.emod_lt_of_pos a (by decide)⟩
  generalize hx : ((c % 2147483563 + c / 2147483563 * 40009 + 52711 * k + 1) * 39373) % 2147483563 = x
  have b1 := m1 ((c % 2147483563 + c / 2147483563 * 40009 + 52711 * k + 1) * 39373)
  rw [hx] at b1
  refine ⟨_, rfl, _, rfl, _, _, rfl, rfl, ⟨by decide, by decide⟩, _, _, rfl, rfl, _, rfl, _, _, rfl, rfl, _, _, rfl, rfl, .inl ⟨by omega, by omega⟩, _, _, rfl, rfl, (by show (0 : Int) < 2147483549; decide), ?_⟩
  generalize hy : (x * (x / 1019 + 20011 + k)) % 2147483549 = y
  have b2 := m2 (x * (x / 1019 + 20011 + k))
  rw [hy] at b2
  refine ⟨_, rfl, _, rfl, _, _, rfl, rfl, ⟨by decide, by decide⟩, _, _, rfl, rfl, _, _, rfl, rfl, .inl ⟨by omega, by omega⟩, _, _, rfl, rfl, (by show (0 : Int) < 2147483497; decide), ?_⟩
  exact q _
theorem ok_source (T : Txt K mg) : Ok P w K mg base CX0 "_law_source" s_source 1 ["_law_cell"] spSource := by
  refine T.h_source.ok sc_source (fun vs H Q E h => ?_) (fun f cdv A outer s H vs Q E hr h => ?_)
  · obtain ⟨c, rfl, _⟩ := h; rfl
  obtain ⟨c, rfl, q⟩ := h
  refine ⟨_, (pss_one (ps_ret (pe_lst (pa_cons (pv 0) (pa_cons (pv 0) (pa_cons pe_int pa_nil)))))), ?_⟩
  refine ⟨_, rfl, _, rfl, (by show 3 ≤ sizeLine; decide), fun p np => ?_⟩
  exact q p _ np ⟨c, c, 0, upd_same⟩ (same_upd np)
theorem ok_next (T : Txt K mg) : Ok P w K mg base CX0 "_law_next" s_next 2 ["_law_source_here", "_law_many"] spNext := by
  have O_mixed := ok_mixed (P := P) (w := w) (base := base) T
  refine T.h_next.ok sc_next (fun vs H Q E h => ?_) (fun f cdv A outer s H vs Q E hr h => ?_)
  · obtain ⟨p, m, rfl, _⟩ := h; rfl
  obtain ⟨p, m, rfl, m0, m1, ⟨a, b, c, hp⟩, q⟩ := h
  have sq : SqL K H p [.int a, .int b, .int c] := .of hp
  have a0 : atI [V.int a, V.int b, V.int c] 0 = some (.int a) := atI_nat (j := 0) rfl
  have a1 : atI [V.int a, V.int b, V.int c] 1 = some (.int b) := atI_nat (j := 1) rfl
  have a2 : atI [V.int a, V.int b, V.int c] 2 = some (.int c) := atI_nat (j := 2) rfl
  have hm : CDivW a m := wide_div (b := 100) m0 (by omega) (by decide) (by decide)
  refine ⟨_, (pss_cons (ps_if (pt_cmpR op_ge (pe_ix ix_list (pv 0) pe_int (fun _ _ => rfl)) (pe_op op_pow pe_int pe_int) (nomark _))
      (pss_cons (ps_set (i := 2) sc_next.nd rfl (by first | exact Or.inl rfl | exact Or.inr rfl) (pe_op op_mod (pe_ix ix_list (pv 0) pe_int (fun _ _ => rfl)) (pv 1)))
      (pss_cons (ps_asg (pe_op op_fdivW (pe_ix ix_list (pv 0) pe_int (fun _ _ => rfl)) (pv 1)) (pg_sub (pv 0) pe_int set_list))
      (pss_one (ps_ret (pv 2)))))
      pss_nil)
      (pss_cons (ps_asg (pe_op op_add (pe_ix ix_list (pv 0) pe_int (fun _ _ => rfl)) pe_int) (pg_sub (pv 0) pe_int set_list))
      (pss_one (ps_ret (pe_op op_mod (callO O_mixed (hr.mono (by decide)) (by rfl) (pa_cons (pe_ix ix_list (pv 0) pe_int (fun _ _ => rfl)) (pa_cons (pe_ix ix_list (pv 0) pe_int (fun _ _ => rfl)) pa_nil))) (pv 1)))))), ?_⟩
  refine ⟨_, rfl, _, _, _, _, rfl, rfl, sq, a0, _, _, rfl, rfl, ⟨by decide, by decide, by decide⟩, _, _, rfl, rfl, _, rfl, ite2 (fun _ => ?_) (fun _ => ?_)⟩
  · refine ⟨_, rfl, _, _, _, _, rfl, rfl, sq, a0, _, rfl, _, _, rfl, rfl, m0, _, rfl, _, _, _, _, rfl, rfl, sq, a0, _, rfl, _, _, rfl, rfl, hm, _, rfl, _, _, _, 0, rfl, rfl, hp, rfl, _, rfl, ?_⟩
    exact q _ _ (Int.emod_nonneg _ (by omega)) (Int.emod_lt_of_pos _ m0) ⟨_, _, _, upd_same⟩ off_upd
  · refine ⟨_, rfl, _, _, _, _, rfl, rfl, sq, a2, _, _, rfl, rfl, _, rfl, _, _, _, 2, rfl, rfl, hp, rfl, ?_⟩
    have hp2 : (upd H p (.lst [.int a, .int b, .int (c + 1)])) p = some (.lst [.int a, .int b, .int (c + 1)]) := upd_same
    have sq2 : SqL K (upd H p (.lst [.int a, .int b, .int (c + 1)])) p [.int a, .int b, .int (c + 1)] := .of hp2
    refine ⟨_, rfl, _, _, _, _, rfl, rfl, sq2, atI_nat (j := 1) rfl, _, rfl, _, _, _, _, rfl, rfl, sq2, atI_nat (j := 2) rfl, _, _, rfl, fun r => ?_⟩
    refine ⟨_, rfl, _, _, rfl, rfl, m0, ?_⟩
    exact q _ _ (Int.emod_nonneg _ (by omega)) (Int.emod_lt_of_pos _ m0) ⟨_, _, _, upd_same⟩ off_upd
end

/-! ### the promises of this law's defs -/
/-- what is neither a number nor a truth -/
inductive NoInt (H : Hp) : V → Prop where
  | non : NoInt H .non
  | str (x : Str) : NoInt H (.str x)
  | lst {a : Addr} {xs : List V} (e : H a = some (.lst xs)) : NoInt H (.ref a)
  | tup {a : Addr} {xs : List V} (e : H a = some (.tup xs)) : NoInt H (.ref a)
  | dK {a : Addr} {kvs : List (Key × V)} (e : H a = some (.dK kvs)) : NoInt H (.ref a)
theorem NoInt.same {H H' : Hp} {v : V} (h : NoInt H v) (s : Same H H') : NoInt H' v := by
  cases h with
  | non => exact .non
  | str x => exact .str x
  | lst e => exact .lst (s _ _ e)
  | tup e => exact .tup (s _ _ e)
  | dK e => exact .dK (s _ _ e)
theorem NoInt.ty {K : PySem.W.Frag} {H : Hp} {v : V} (h : NoInt H v) : ∃ T, TyX K H v (.type T) ∧ kitB T "int" = some false := by
  cases h with
  | non => exact ⟨_, .base .non, by decide +kernel⟩
  | str x => exact ⟨_, .base (.str x), by decide +kernel⟩
  | lst e => exact ⟨_, .base (.lst e), by decide +kernel⟩
  | tup e => exact ⟨_, .base (.tup e), by decide +kernel⟩
  | dK e => exact ⟨_, .base (.dK e), by decide +kernel⟩
def WI (H : Hp) (v : V) (b : Bool) : Prop := (b = true ∧ ∃ i, v = .int i) ∨ (b = false ∧ ((∃ k, v = .bl k) ∨ NoInt H v))
theorem WI.same {H H' : Hp} {v : V} {b : Bool} (h : WI H v b) (s : Same H H') : WI H' v b := by
  rcases h with ⟨e, i, rfl⟩ | ⟨e, ⟨k, rfl⟩ | n⟩
  · exact .inl ⟨e, i, rfl⟩
  · exact .inr ⟨e, .inl ⟨k, rfl⟩⟩
  · exact .inr ⟨e, .inr (n.same s)⟩
def spWhole : Sp := fun vs H Q _ => ∃ (v : V) (b : Bool), vs = [v] ∧ WI H v b ∧ Q (.bl b) H
def optV : Option Int → V
  | none => .non
  | some t => .int t
def cutTop (n : Int) : Option Int → Int
  | none => n
  | some t => if t < n then t else n
def heldF (n l : Int) (m : Option Int) : Int := if l > cutTop n m then l else cutTop n m
def dueF (n l : Int) (m : Option Int) : Int :=
  match m with
  | none => if n < l then l else n
  | some t => if t < l then l else if n < l then l else if t < n then t else n
theorem held_due (n l : Int) (m : Option Int) : heldF n l m = dueF n l m := by
  cases m with
  | none =>
    show (if l > n then l else n) = if n < l then l else n
    repeat' split
    all_goals omega
  | some t =>
    show (if l > (if t < n then t else n) then l else (if t < n then t else n)) = if t < l then l else if n < l then l else if t < n then t else n
    repeat' split
    all_goals omega
def spHeld : Sp := fun vs H Q _ => ∃ (n l : Int) (m : Option Int), vs = [.int n, .int l, optV m] ∧ Q (.int (heldF n l m)) H
def spDue : Sp := fun vs H Q _ => ∃ (n l : Int) (m : Option Int), vs = [.int n, .int l, optV m] ∧ Q (.int (dueF n l m)) H
def spNumber : Sp := fun vs H Q _ => ∃ (p : Addr) (z : Int), vs = [.ref p, .int z] ∧ Src H p ∧ ∀ (r : Int) H', Src H' p → Off p H H' → Q (.int r) H'
def spThing : Sp := fun vs H Q _ => ∃ (p : Addr), vs = [.ref p] ∧ Src H p ∧ ∀ (t : Addr) (v : V) (b : Bool) H', Src H' p → Off p H H' → H' t = some (.tup [v, .bl b]) → WI H' v b → Q (.ref t) H'
def spSame : Sp := fun vs H Q _ => ∃ (a : Int), vs = [.int a, .int a] ∧ Q (.bl true) H
def spLaw (K : PySem.W.Frag) : Sp := fun vs H Q _ => ∃ (a : Addr) (ns : List Int), vs = [.ref a] ∧ SqL K H a (ns.map V.int) ∧ ns.length ≤ 63 ∧ ∀ H', Q (.bl true) H'
theorem KB_p_is_whole : KwB "is_whole" s_p_is_whole ["thing"] ["thing"] (fun _ ws => ws) := fun _ _ _ _ _ _ ws hl => match ws, hl with | [_], _ => rfl
theorem RL_p_is_whole : ∀ {vs : List V} {us : List Value} {zs : List V} {ws : List Value}, Vals vs us → Vals zs ws → Vals ((fun _ z => z : List V → List V → List V) vs zs) ((fun _ w => w : List Value → List Value → List Value) us ws) := fun _ h => h
def turn3 {α : Type} (_ ws : List α) : List α := match ws with
  | [m, n, l] => [n, l, m]
  | _ => ws
theorem KB_p_held : KwB "held" s_p_held ["number", "least", "most"] ["most", "number", "least"] turn3 := fun _ _ _ _ _ _ ws hl => match ws, hl with | [_, _, _], _ => rfl
theorem RL_p_held : ∀ {vs : List V} {us : List Value} {zs : List V} {ws : List Value}, Vals vs us → Vals zs ws → Vals (turn3 vs zs) (turn3 us ws) := fun _ h => match h with
  | .nil => .nil
  | .cons a .nil => .cons a .nil
  | .cons a (.cons b .nil) => .cons a (.cons b .nil)
  | .cons a (.cons b (.cons c .nil)) => .cons b (.cons c (.cons a .nil))
  | .cons a (.cons b (.cons c (.cons d r))) => .cons a (.cons b (.cons c (.cons d r)))
section
variable {P : Program} {w : World} {K : PySem.W.Frag} {mg : Str → Option Value} {base : Heap}
theorem ok_whole (T : Txt K mg) : Ok P w K mg base CX0 "is_whole" s_p_is_whole 1 ["thing"] spWhole := by
  refine T.h_p_is_whole.ok sc_p_is_whole (fun vs H Q E h => ?_) (fun f cdv A outer s H vs Q E hr h => ?_)
  · obtain ⟨v, b, rfl, _⟩ := h; rfl
  obtain ⟨v, b, rfl, wi, q⟩ := h
  refine ⟨_, (pss_one (ps_ret (pe_and (pe_callB call_isi (by rfl) T.m_isinstance (by decide +kernel) (pa_cons (pv 0) (pa_cons (pe_bltn (v := .ty "int") (by rfl) T.m_int (by decide +kernel) rfl) pa_nil))) (pe_one (pe_not (pe_callB call_isi (by rfl) T.m_isinstance (by decide +kernel) (pa_cons (pv 0) (pa_cons (pe_bltn (v := .ty "bool") (by rfl) T.m_bool (by decide +kernel) rfl) pa_nil)))))))), ?_⟩
  rcases wi with ⟨rfl, i, rfl⟩ | ⟨rfl, ⟨k, rfl⟩ | nt⟩
  · refine ⟨_, rfl, _, _, _, _, true, rfl, .ty _, .base (.int i), kit_ty (by decide +kernel), true, rfl, iteT ?_⟩
    exact ⟨_, rfl, _, _, _, _, false, rfl, .ty _, .base (.int i), kit_ty (by decide +kernel), false, rfl, q⟩
  · refine ⟨_, rfl, _, _, _, _, true, rfl, .ty _, .base (.bl k), kit_ty (by decide +kernel), true, rfl, iteT ?_⟩
    exact ⟨_, rfl, _, _, _, _, true, rfl, .ty _, .base (.bl k), kit_ty (by decide +kernel), true, rfl, q⟩
  · obtain ⟨t, ty, e⟩ := nt.ty (K := K)
    refine ⟨_, rfl, _, _, _, _, false, rfl, .ty _, ty, kit_ty e, false, rfl, iteF ?_⟩
    exact q
theorem ok_held (T : Txt K mg) : Ok P w K mg base CX0 "held" s_p_held 1 ["number", "least", "most"] spHeld := by
  refine T.h_p_held.ok sc_p_held (fun vs H Q E h => ?_) (fun f cdv A outer s H vs Q E hr h => ?_)
  · obtain ⟨n, l, m, rfl, _⟩ := h; rfl
  obtain ⟨n, l, m, rfl, q⟩ := h
  refine ⟨_, (pss_cons (ps_if (PW.pt (pw_and (pt_cmpR op_notN (pv 2) pe_non (nomark _)) (pw_and1 (pt_cmpR op_gt (pv 0) (pv 2) (nomark _)))))
      (pss_one (ps_set (i := 0) sc_p_held.nd rfl (by first | exact Or.inl rfl | exact Or.inr rfl) (pv 2)))
      pss_nil)
      (pss_one (ps_ret (pe_callB (call_max2 rfl) (by rfl) T.m_max (by decide +kernel) (pa_cons (pv 0) (pa_cons (pv 1) pa_nil)))))), ?_⟩
  cases m with
  | none =>
    refine ⟨_, rfl, rfl, _, rfl, iteF (iteF ?_)⟩
    exact ⟨_, rfl, _, rfl, _, _, rfl, q⟩
  | some t =>
    refine ⟨_, rfl, rfl, _, rfl, iteT ⟨_, rfl, _, rfl, _, _, rfl, rfl, _, rfl, ite2 (fun e => ?_) (fun e => ?_)⟩⟩
    · have e1 : t < n := of_decide_eq_true e
      refine ⟨_, rfl, _, rfl, _, rfl, _, _, rfl, ?_⟩
      have eq : cutTop n (some t) = t := if_pos e1
      unfold heldF at q
      rw [eq] at q
      exact q
    · have e1 : ¬ t < n := fun z => e (decide_eq_true z)
      refine ⟨_, rfl, _, rfl, _, _, rfl, ?_⟩
      have eq : cutTop n (some t) = n := if_neg e1
      unfold heldF at q
      rw [eq] at q
      exact q
theorem ok_due (T : Txt K mg) : Ok P w K mg base CX0 "_law_held" s_held 1 ["_law_amount", "_law_low", "_law_top"] spDue := by
  refine T.h_held.ok sc_held (fun vs H Q E h => ?_) (fun f cdv A outer s H vs Q E hr h => ?_)
  · obtain ⟨n, l, m, rfl, _⟩ := h; rfl
  obtain ⟨n, l, m, rfl, q⟩ := h
  refine ⟨_, (pss_cons (ps_if (PW.pt (pw_and (pt_cmpR op_notN (pv 2) pe_non (nomark _)) (pw_and1 (pt_cmpR op_lt (pv 2) (pv 1) (nomark _)))))
      (pss_one (ps_ret (pv 1)))
      pss_nil)
      (pss_cons (ps_if (pt_cmpR op_lt (pv 0) (pv 1) (nomark _))
      (pss_one (ps_ret (pv 1)))
      pss_nil)
      (pss_cons (ps_if (PW.pt (pw_and (pt_cmpR op_notN (pv 2) pe_non (nomark _)) (pw_and1 (pt_cmpR op_gt (pv 0) (pv 2) (nomark _)))))
      (pss_one (ps_ret (pv 2)))
      pss_nil)
      (pss_one (ps_ret (pv 0)))))), ?_⟩
  cases m with
  | none =>
    refine ⟨_, rfl, rfl, _, rfl, iteF (iteF ?_)⟩
    refine ⟨_, rfl, _, rfl, _, _, rfl, rfl, _, rfl, ite2 (fun e => ?_) (fun e => ?_)⟩
    · have e1 : n < l := of_decide_eq_true e
      have eq : dueF n l none = l := if_pos e1
      rw [eq] at q
      exact ⟨_, rfl, q⟩
    · have e1 : ¬ n < l := fun z => e (decide_eq_true z)
      have eq : dueF n l none = n := if_neg e1
      rw [eq] at q
      exact ⟨_, rfl, rfl, _, rfl, iteF (iteF ⟨_, rfl, q⟩)⟩
  | some t =>
    refine ⟨_, rfl, rfl, _, rfl, iteT ⟨_, rfl, _, rfl, _, _, rfl, rfl, _, rfl, ite2 (fun e => ?_) (fun e => ?_)⟩⟩
    · have e1 : t < l := of_decide_eq_true e
      have eq : dueF n l (some t) = l := if_pos e1
      rw [eq] at q
      exact ⟨_, rfl, q⟩
    · have e1 : ¬ t < l := fun z => e (decide_eq_true z)
      refine ⟨_, rfl, _, rfl, _, _, rfl, rfl, _, rfl, ite2 (fun e2 => ?_) (fun e2 => ?_)⟩
      · have e3 : n < l := of_decide_eq_true e2
        have eq : dueF n l (some t) = l := (if_neg e1).trans (if_pos e3)
        rw [eq] at q
        exact ⟨_, rfl, q⟩
      · have e3 : ¬ n < l := fun z => e2 (decide_eq_true z)
        refine ⟨_, rfl, rfl, _, rfl, iteT ⟨_, rfl, _, rfl, _, _, rfl, rfl, _, rfl, ite2 (fun e4 => ?_) (fun e4 => ?_)⟩⟩
        · have e5 : t < n := of_decide_eq_true e4
          have eq : dueF n l (some t) = t := (if_neg e1).trans ((if_neg e3).trans (if_pos e5))
          rw [eq] at q
          exact ⟨_, rfl, q⟩
        · have e5 : ¬ t < n := fun z => e4 (decide_eq_true z)
          have eq : dueF n l (some t) = n := (if_neg e1).trans ((if_neg e3).trans (if_neg e5))
          rw [eq] at q
          exact ⟨_, rfl, q⟩
theorem ok_same (T : Txt K mg) : Ok P w K mg base CX0 "_law_same" s_same 1 ["_law_found", "_law_due"] spSame := by
  refine T.h_same.ok sc_same (fun vs H Q E h => ?_) (fun f cdv A outer s H vs Q E hr h => ?_)
  · obtain ⟨a, rfl, _⟩ := h; rfl
  obtain ⟨a, rfl, q⟩ := h
  refine ⟨_, (pss_one (ps_ret (pe_and (pe_callB call_isi (by rfl) T.m_isinstance (by decide +kernel) (pa_cons (pv 0) (pa_cons (pe_bltn (v := .ty "int") (by rfl) T.m_int (by decide +kernel) rfl) pa_nil))) (pe_and (pe_not (pe_callB call_isi (by rfl) T.m_isinstance (by decide +kernel) (pa_cons (pv 0) (pa_cons (pe_bltn (v := .ty "bool") (by rfl) T.m_bool (by decide +kernel) rfl) pa_nil)))) (pe_one (pe_cmpR op_eq (pv 0) (pv 1) (nomark _))))))), ?_⟩
  refine ⟨_, rfl, _, _, _, _, true, rfl, .ty _, .base (.int a), kit_ty (by decide +kernel), true, rfl, iteT ?_⟩
  refine ⟨_, rfl, _, _, _, _, false, rfl, .ty _, .base (.int a), kit_ty (by decide +kernel), false, rfl, true, rfl, iteT ?_⟩
  refine ⟨_, rfl, _, rfl, rfl, ?_⟩
  rw [decide_eq_true rfl]
  exact q
theorem ok_number (T : Txt K mg) : Ok P w K mg base CX0 "_law_number" s_number 3 ["_law_source_here", "_law_beside"] spNumber := by
  have O_next := ok_next (P := P) (w := w) (base := base) T
  refine T.h_number.ok sc_number (fun vs H Q E h => ?_) (fun f cdv A outer s H vs Q E hr h => ?_)
  · obtain ⟨p, z, rfl, _⟩ := h; rfl
  obtain ⟨p, z, rfl, hs, q⟩ := h
  refine ⟨_, (pss_cons (ps_set (i := 2) sc_number.nd rfl (by first | exact Or.inl rfl | exact Or.inr rfl) (callO O_next (hr.mono (by decide)) (by rfl) (pa_cons (pv 0) (pa_cons pe_int pa_nil))))
      (pss_cons (ps_if (pt_cmpR op_eq (pv 2) pe_int (nomark _))
      (pss_one (ps_ret (pe_op op_sub (pe_op op_add (pv 1) (callO O_next (hr.mono (by decide)) (by rfl) (pa_cons (pv 0) (pa_cons pe_int pa_nil)))) pe_int)))
      pss_nil)
      (pss_cons (ps_set (i := 3) sc_number.nd rfl (by first | exact Or.inl rfl | exact Or.inr rfl) (callO O_next (hr.mono (by decide)) (by rfl) (pa_cons (pv 0) (pa_cons (pe_ix ix_list (pe_lst (pa_cons pe_int (pa_cons pe_int (pa_cons pe_int (pa_cons (pe_op op_sub (pe_op op_pow pe_int pe_int) pe_int) pa_nil))))) (pe_op op_sub (pv 2) pe_int) (fun _ _ => rfl)) pa_nil))))
      (pss_one (ps_ret (pe_ix ix_list (pe_lst (pa_cons (pv 3) (pa_cons (pv 3) (pa_cons (pe_op op_sub pe_int (pv 3)) pa_nil)))) (callO O_next (hr.mono (by decide)) (by rfl) (pa_cons (pv 0) (pa_cons pe_int pa_nil))) (fun _ _ => rfl))))))), ?_⟩
  refine ⟨_, rfl, p, 5, rfl, by decide, by decide, hs, fun r H1 r0 r1 s1 o1 => ?_⟩
  refine ⟨_, rfl, rfl, _, rfl, ite2 (fun e => ?_) (fun e => ?_)⟩
  · refine ⟨_, rfl, _, rfl, p, 5, rfl, by decide, by decide, s1, fun r2 H2 _ _ s2 o2 => ?_⟩
    refine ⟨_, _, rfl, rfl, _, _, rfl, rfl, ?_⟩
    exact q _ H2 s2 (o1.trans o2)
  · have e1 : r ≠ 0 := fun h0 => e (decide_eq_true (congrArg V.int h0))
    refine ⟨_, rfl, _, _, rfl, rfl, ⟨by decide, by decide, by decide⟩, _, _, rfl, rfl, (by show 4 ≤ sizeLine; decide), fun t nt => ?_⟩
    obtain ⟨j, v, ej, hj, ha⟩ := atI_at (xs := [V.int 1, V.int 4, V.int 1000, V.int (10 ^ (12 : Int).toNat - 9)]) (i := r - 1) (by omega) (by show r - 1 < 4; omega)
    obtain ⟨m, rfl, m0, m1⟩ : ∃ m : Int, v = .int m ∧ 0 < m ∧ m < 2 ^ 100 := by
      have hm := List.mem_of_getElem? hj
      simp only [List.mem_cons, List.not_mem_nil, or_false] at hm
      rcases hm with rfl | rfl | rfl | rfl
      · exact ⟨_, rfl, by decide, by decide⟩
      · exact ⟨_, rfl, by decide, by decide⟩
      · exact ⟨_, rfl, by decide, by decide⟩
      · exact ⟨_, rfl, by decide, by decide⟩
    refine ⟨_, rfl, _, _, rfl, rfl, t, _, _, _, rfl, rfl, .of upd_same, ha, ?_⟩
    refine ⟨p, m, rfl, m0, m1, s1.keep nt, fun r2 H2 _ _ s2 o2 => ?_⟩
    refine ⟨_, rfl, _, rfl, _, rfl, _, _, rfl, rfl, (by show 3 ≤ sizeLine; decide), fun t2 nt2 => ?_⟩
    refine ⟨_, rfl, p, 3, rfl, by decide, by decide, s2.keep nt2, fun r3 H3 a3 b3 s3 o3 => ?_⟩
    obtain ⟨j3, v3, ej3, hj3, ha3⟩ := atI_at (xs := [V.int r2, V.int r2, V.int (0 - r2)]) (i := r3) a3 (by show r3 < 3; omega)
    obtain ⟨m3, rfl⟩ : ∃ m : Int, v3 = .int m := by
      have hm := List.mem_of_getElem? hj3
      simp only [List.mem_cons, List.not_mem_nil, or_false] at hm
      rcases hm with rfl | rfl | rfl
      · exact ⟨_, rfl⟩
      · exact ⟨_, rfl⟩
      · exact ⟨_, rfl⟩
    refine ⟨t2, _, _, _, rfl, rfl, .of (o3 _ _ upd_same (s2.ne_new nt2)), ha3, ?_⟩
    exact q m3 H3 s3 (o1.trans ((off_new nt).trans (o2.trans ((off_new nt2).trans o3))))
end

section
variable {P : Program} {w : World} {K : PySem.W.Frag} {mg : Str → Option Value} {base : Heap}
theorem ok_thing (T : Txt K mg) : Ok P w K mg base CX0 "_law_thing" s_thing 4 ["_law_source_here"] spThing := by
  have O_next := ok_next (P := P) (w := w) (base := base) T
  have O_number := ok_number (P := P) (w := w) (base := base) T
  refine T.h_thing.ok sc_thing (fun vs H Q E h => ?_) (fun f cdv A outer s H vs Q E hr h => ?_)
  · obtain ⟨p, rfl, _⟩ := h; rfl
  obtain ⟨p, rfl, hs, q⟩ := h
  refine ⟨_, (pss_cons (ps_if (pt_cmpR op_eq (callO O_next (hr.mono (by decide)) (by rfl) (pa_cons (pv 0) (pa_cons pe_int pa_nil))) pe_int (nomark _))
      (pss_one (ps_ret (pe_tup (pa_cons (callO O_number (hr.mono (by decide)) (by rfl) (pa_cons (pv 0) (pa_cons pe_int pa_nil))) (pa_cons pe_bl pa_nil)))))
      pss_nil)
      (pss_cons (ps_set (i := 1) sc_thing.nd rfl (by first | exact Or.inl rfl | exact Or.inr rfl) (pe_lst (pa_cons pe_bl (pa_cons pe_bl (pa_cons pe_non (pa_cons pe_str (pa_cons pe_str (pa_cons pe_str (pa_cons (pe_lst pa_nil) (pa_cons (pe_lst (pa_cons pe_int pa_nil)) (pa_cons (pe_tup pa_nil) (pa_cons (pe_tup (pa_cons pe_int pa_nil)) (pa_cons pe_dnewK (pa_cons (pe_disp (pps_cons pe_int pe_int pps_nil) (by rfl) (by rfl) (fun z => by cases z) (by decide)) (pa_cons pe_str (pa_cons (pe_lst (pa_cons pe_bl pa_nil)) (pa_cons (pe_tup (pa_cons pe_bl pa_nil)) (pa_cons (pe_lst (pa_cons pe_non pa_nil)) pa_nil))))))))))))))))))
      (pss_one (ps_ret (pe_tup (pa_cons (pe_ix ix_list (pv 1) (callO O_next (hr.mono (by decide)) (by rfl) (pa_cons (pv 0) (pa_cons pe_int pa_nil))) (fun _ _ => rfl)) (pa_cons pe_bl pa_nil))))))), ?_⟩
  refine ⟨_, rfl, p, 2, rfl, by decide, by decide, hs, fun r H1 r0 r1 s1 o1 => ?_⟩
  refine ⟨rfl, _, rfl, ite2 (fun e => ?_) (fun e => ?_)⟩
  · refine ⟨_, rfl, p, 0, rfl, s1, fun z H2 s2 o2 => ⟨(by show 2 ≤ sizeLine; decide), fun t nt => ?_⟩⟩
    exact q t (.int z) true _ (s2.keep nt) (o1.trans (o2.trans (off_new nt))) upd_same (.inl ⟨rfl, z, rfl⟩)
  · refine ⟨(by show 0 ≤ sizeLine; decide), fun p1 n1 => ?_⟩
    have c1 := same_upd (o := .lst []) n1
    have e1 : (upd H1 p1 (.lst [])) p1 = some (.lst []) := upd_same
    generalize hh1 : upd H1 p1 (.lst []) = h1 at c1 e1 ⊢
    refine ⟨(by show 1 ≤ sizeLine; decide), fun p2 n2 => ?_⟩
    have c2 := same_upd (o := .lst [.int 5]) n2
    have e2 : (upd h1 p2 (.lst [.int 5])) p2 = some (.lst [.int 5]) := upd_same
    generalize hh2 : upd h1 p2 (.lst [.int 5]) = h2 at c2 e2 ⊢
    refine ⟨(by show 0 ≤ sizeLine; decide), fun p3 n3 => ?_⟩
    have c3 := same_upd (o := .tup []) n3
    have e3 : (upd h2 p3 (.tup [])) p3 = some (.tup []) := upd_same
    generalize hh3 : upd h2 p3 (.tup []) = h3 at c3 e3 ⊢
    refine ⟨(by show 1 ≤ sizeLine; decide), fun p4 n4 => ?_⟩
    have c4 := same_upd (o := .tup [.int 5]) n4
    have e4 : (upd h3 p4 (.tup [.int 5])) p4 = some (.tup [.int 5]) := upd_same
    generalize hh4 : upd h3 p4 (.tup [.int 5]) = h4 at c4 e4 ⊢
    refine fun p5 n5 => ?_
    have c5 := same_upd (o := .dK []) n5
    have e5 : (upd h4 p5 (.dK [])) p5 = some (.dK []) := upd_same
    generalize hh5 : upd h4 p5 (.dK []) = h5 at c5 e5 ⊢
    refine fun p6 n6 => ⟨upd_same, [(Sum.inl 5, .int 1)], rfl, by decide, ?_⟩
    rw [upd_upd]
    have c6 := same_upd (o := .dK (mergeK [] [(Sum.inl 5, .int 1)])) n6
    have e6 : (upd h5 p6 (.dK (mergeK [] [(Sum.inl 5, .int 1)]))) p6 = some (.dK (mergeK [] [(Sum.inl 5, .int 1)])) := upd_same
    generalize hh6 : upd h5 p6 (.dK (mergeK [] [(Sum.inl 5, .int 1)])) = h6 at c6 e6 ⊢
    refine ⟨(by show 1 ≤ sizeLine; decide), fun p7 n7 => ?_⟩
    have c7 := same_upd (o := .lst [.bl true]) n7
    have e7 : (upd h6 p7 (.lst [.bl true])) p7 = some (.lst [.bl true]) := upd_same
    generalize hh7 : upd h6 p7 (.lst [.bl true]) = h7 at c7 e7 ⊢
    refine ⟨(by show 1 ≤ sizeLine; decide), fun p8 n8 => ?_⟩
    have c8 := same_upd (o := .tup [.bl false]) n8
    have e8 : (upd h7 p8 (.tup [.bl false])) p8 = some (.tup [.bl false]) := upd_same
    generalize hh8 : upd h7 p8 (.tup [.bl false]) = h8 at c8 e8 ⊢
    refine ⟨(by show 1 ≤ sizeLine; decide), fun p9 n9 => ?_⟩
    have c9 := same_upd (o := .lst [.non]) n9
    have e9 : (upd h8 p9 (.lst [.non])) p9 = some (.lst [.non]) := upd_same
    generalize hh9 : upd h8 p9 (.lst [.non]) = h9 at c9 e9 ⊢
    have all : ∀ v ∈ [V.bl true, .bl false, .non, .str (Str.ofString ""), .str (Str.ofString "5"), .str (Str.ofString "-1"), .ref p1, .ref p2, .ref p3, .ref p4, .ref p5, .ref p6, .str (Str.ofString "True"), .ref p7, .ref p8, .ref p9], WI h9 v false := by
      intro v hv
      simp only [List.mem_cons, List.not_mem_nil, or_false] at hv
      rcases hv with rfl | rfl | rfl | rfl | rfl | rfl | rfl | rfl | rfl | rfl | rfl | rfl | rfl | rfl | rfl | rfl
      · exact .inr ⟨rfl, .inl ⟨_, rfl⟩⟩
      · exact .inr ⟨rfl, .inl ⟨_, rfl⟩⟩
      · exact .inr ⟨rfl, .inr .non⟩
      · exact .inr ⟨rfl, .inr (.str _)⟩
      · exact .inr ⟨rfl, .inr (.str _)⟩
      · exact .inr ⟨rfl, .inr (.str _)⟩
      · exact .inr ⟨rfl, .inr (.lst (c9 _ _ (c8 _ _ (c7 _ _ (c6 _ _ (c5 _ _ (c4 _ _ (c3 _ _ (c2 _ _ e1)))))))))⟩
      · exact .inr ⟨rfl, .inr (.lst (c9 _ _ (c8 _ _ (c7 _ _ (c6 _ _ (c5 _ _ (c4 _ _ (c3 _ _ e2))))))))⟩
      · exact .inr ⟨rfl, .inr (.tup (c9 _ _ (c8 _ _ (c7 _ _ (c6 _ _ (c5 _ _ (c4 _ _ e3)))))))⟩
      · exact .inr ⟨rfl, .inr (.tup (c9 _ _ (c8 _ _ (c7 _ _ (c6 _ _ (c5 _ _ e4))))))⟩
      · exact .inr ⟨rfl, .inr (.dK (c9 _ _ (c8 _ _ (c7 _ _ (c6 _ _ e5)))))⟩
      · exact .inr ⟨rfl, .inr (.dK (c9 _ _ (c8 _ _ (c7 _ _ e6))))⟩
      · exact .inr ⟨rfl, .inr (.str _)⟩
      · exact .inr ⟨rfl, .inr (.lst (c9 _ _ (c8 _ _ e7)))⟩
      · exact .inr ⟨rfl, .inr (.tup (c9 _ _ e8))⟩
      · exact .inr ⟨rfl, .inr (.lst e9)⟩
    refine ⟨(by show 16 ≤ sizeLine; decide), fun L nL => ?_⟩
    have cL : Same H1 h9 := c1.trans (c2.trans (c3.trans (c4.trans (c5.trans (c6.trans (c7.trans (c8.trans c9)))))))
    have s9 : Src h9 p := s1.same cL
    refine ⟨_, rfl, _, rfl, p, 16, rfl, by decide, by decide, s9.keep nL, fun r2 H2 a2 b2 s2 o2 => ?_⟩
    obtain ⟨v, hv, ha⟩ := atI_mem (xs := [V.bl true, .bl false, .non, .str (Str.ofString ""), .str (Str.ofString "5"), .str (Str.ofString "-1"), .ref p1, .ref p2, .ref p3, .ref p4, .ref p5, .ref p6, .str (Str.ofString "True"), .ref p7, .ref p8, .ref p9]) (i := r2) a2 (by show r2 < 16; omega)
    refine ⟨L, _, _, _, rfl, rfl, .of (o2 _ _ upd_same (s9.ne_new nL)), ha, (by show 2 ≤ sizeLine; decide), fun t nt => ?_⟩
    have wv : WI h9 v false := all v hv
    have wv2 : WI (upd H2 t (.tup [v, .bl false])) v false := by
      rcases wv with ⟨e, _⟩ | ⟨_, ⟨k, rfl⟩ | n⟩
      · cases e
      · exact .inr ⟨rfl, .inl ⟨k, rfl⟩⟩
      · refine .inr ⟨rfl, .inr ?_⟩
        have st := same_upd (o := .tup [v, .bl false]) nt
        have key : ∀ a o, h9 a = some o → (∀ x y z, o ≠ .lst [.int x, .int y, .int z]) → (upd H2 t (.tup [v, .bl false])) a = some o := fun a o ha ho => by
          obtain ⟨x, y, z, hp⟩ := s9
          exact st _ _ (o2 _ _ (same_upd nL _ _ ha) (ne_of ha hp (ho x y z)))
        cases n with
        | non => exact .non
        | str x => exact .str x
        | @lst a xs e =>
          by_cases hap : a = p
          · subst hap
            obtain ⟨x, y, z, hp⟩ := s2
            exact .lst (st _ _ hp)
          · exact .lst (st _ _ (o2 _ _ (same_upd nL _ _ e) hap))
        | tup e => exact .tup (key _ _ e (fun _ _ _ z => by cases z))
        | dK e => exact .dK (key _ _ e (fun _ _ _ z => by cases z))
    exact q t v false _ (s2.keep nt) (o1.trans ((Off.of cL).trans ((off_new nL).trans (o2.trans (off_new nt))))) upd_same wv2
theorem ok_law {f : Addr} {fd : FuncData} (F : Fun K "law" "law" s_law f fd) (T : Txt K mg) : FnOk P w K mg base CX0 5 f fd ["_law_script"] (spLaw K) := by
  have O_cell_at := ok_cell_at (P := P) (w := w) (base := base) T
  have O_source := ok_source (P := P) (w := w) (base := base) T
  have O_next := ok_next (P := P) (w := w) (base := base) T
  have O_number := ok_number (P := P) (w := w) (base := base) T
  have O_thing := ok_thing (P := P) (w := w) (base := base) T
  have O_p_is_whole := ok_whole (P := P) (w := w) (base := base) T
  have O_p_held := ok_held (P := P) (w := w) (base := base) T
  have O_held := ok_due (P := P) (w := w) (base := base) T
  have O_same := ok_same (P := P) (w := w) (base := base) T
  refine F.ok sc_law (fun vs H Q E h => ?_) (fun cdv A outer s H vs Q E hr h => ?_)
  · obtain ⟨a, ns, rfl, _⟩ := h; rfl
  obtain ⟨a, ns, rfl, hS, hlen, k⟩ := h
  refine ⟨_, (pss_cons (ps_for PassesOwn.never rfl (pi_list (pe_op op_cat (pe_lst (pa_cons (callO O_cell_at (hr.mono (by decide)) (by rfl) (pa_cons (pv 0) (pa_cons pe_int pa_nil))) pa_nil)) (pe_slice sl_list (pv 0) (po_some pe_int) (po_some pe_int)))) (pg_name (i := 1) sc_law.nd rfl (by first | exact Or.inl rfl | exact Or.inr rfl))
      (pss_cons (ps_set (i := 2) sc_law.nd rfl (by first | exact Or.inl rfl | exact Or.inr rfl) (callO O_source (hr.mono (by decide)) (by rfl) (pa_cons (pv 1) pa_nil)))
      (pss_cons (ps_asg (callO O_thing (hr.mono (by decide)) (by rfl) (pa_cons (pv 2) pa_nil)) (pg_tup rfl (pgs_cons (pg_name (i := 3) sc_law.nd rfl (by first | exact Or.inl rfl | exact Or.inr rfl)) (pgs_cons (pg_name (i := 4) sc_law.nd rfl (by first | exact Or.inl rfl | exact Or.inr rfl)) pgs_nil))))
      (pss_cons (ps_for PassesOwn.never rfl (pi_tup (pe_tup (pa_cons (callO O_p_is_whole (hr.mono (by decide)) (by rfl) (pa_cons (pv 3) pa_nil)) (pa_cons (callO_kw O_p_is_whole KB_p_is_whole RL_p_is_whole (hr.mono (by decide)) (by rfl) (pk_cons (pv 3) pk_nil)) pa_nil)))) (pg_name (i := 5) sc_law.nd rfl (by first | exact Or.inl rfl | exact Or.inr rfl))
      (pss_one (ps_if (PW.pt (pw_or (pt_not (pt_val (pe_callB call_isi (by rfl) T.m_isinstance (by decide +kernel) (pa_cons (pv 5) (pa_cons (pe_bltn (v := .ty "bool") (by rfl) T.m_bool (by decide +kernel) rfl) pa_nil))))) (pw_or1 (pt_cmpR op_ne (pv 5) (pv 4) (nomark _)))))
      (pss_one (ps_ret pe_bl))
      pss_nil)))
      (pss_cons (ps_set (i := 6) sc_law.nd rfl (by first | exact Or.inl rfl | exact Or.inr rfl) (callO O_number (hr.mono (by decide)) (by rfl) (pa_cons (pv 2) (pa_cons pe_int pa_nil))))
      (pss_cons (ps_set (i := 7) sc_law.nd rfl (by first | exact Or.inl rfl | exact Or.inr rfl) (pe_ix ix_list (pe_lst (pa_cons (callO O_number (hr.mono (by decide)) (by rfl) (pa_cons (pv 2) (pa_cons (pv 6) pa_nil))) (pa_cons pe_non pa_nil))) (pe_op op_fdiv (callO O_next (hr.mono (by decide)) (by rfl) (pa_cons (pv 2) (pa_cons pe_int pa_nil))) pe_int) (fun _ _ => rfl)))
      (pss_cons (ps_set (i := 8) sc_law.nd rfl (by first | exact Or.inl rfl | exact Or.inr rfl) (callO O_number (hr.mono (by decide)) (by rfl) (pa_cons (pv 2) (pa_cons (pe_ix ix_list (pe_lst (pa_cons (pv 6) (pa_cons (pv 7) pa_nil))) (pe_op op_mul (callO O_next (hr.mono (by decide)) (by rfl) (pa_cons (pv 2) (pa_cons pe_int pa_nil))) (pe_callTy call_int1 (by rfl) T.m_int (by decide +kernel) (pa_cons (pe_cmpR op_notN (pv 7) pe_non (nomark _)) pa_nil))) (fun _ _ => rfl)) pa_nil))))
      (pss_one (ps_for PassesOwn.never rfl (pi_tup (pe_tup (pa_cons (callO O_p_held (hr.mono (by decide)) (by rfl) (pa_cons (pv 8) (pa_cons (pv 6) (pa_cons (pv 7) pa_nil)))) (pa_cons (callO_kw O_p_held KB_p_held RL_p_held (hr.mono (by decide)) (by rfl) (pk_cons (pv 7) (pk_cons (pv 8) (pk_cons (pv 6) pk_nil)))) pa_nil)))) (pg_name (i := 9) sc_law.nd rfl (by first | exact Or.inl rfl | exact Or.inr rfl))
      (pss_one (ps_if (pt_not (pt_val (callO O_same (hr.mono (by decide)) (by rfl) (pa_cons (pv 9) (pa_cons (callO O_held (hr.mono (by decide)) (by rfl) (pa_cons (pv 8) (pa_cons (pv 6) (pa_cons (pv 7) pa_nil)))) pa_nil)))))
      (pss_one (ps_ret pe_bl))
      pss_nil)))))))))))
      (pss_one (ps_ret pe_bl))), ?_⟩
  refine ⟨_, rfl, a, ns, 0, rfl, hS, fun z0 => ⟨(by show 1 ≤ sizeLine; decide), fun p1 n1 => ?_⟩⟩
  obtain ⟨ms, hms, ecut⟩ := cut_ints ns (some 1) (some 20)
  refine ⟨_, rfl, 1, rfl, 20, rfl, a, ns.map V.int, rfl, (same_upd n1).seq hS, fun p2 n2 => ?_⟩
  have g1 : (upd (upd H p1 (.lst [.int z0])) p2 (.lst (cutV (ns.map V.int) (some 1) (some 20)))) p1 = some (.lst [.int z0]) := by
    rw [upd_ne (ne_of_none upd_same n2)]
    exact upd_same
  refine ⟨p1, p2, _, _, rfl, rfl, g1, upd_same, ?_, fun L nL => ?_⟩
  · rw [ecut, List.length_map]
    have : ms.length ≤ 63 := by omega
    show 1 + ms.length ≤ sizeLine
    exact Nat.le_trans (by omega : 1 + ms.length ≤ 64) (by decide)
  rw [ecut]
  have el : [V.int z0] ++ ms.map V.int = (z0 :: ms).map V.int := rfl
  rw [el]
  have hL : (upd (upd (upd H p1 (.lst [.int z0])) p2 (.lst (ms.map V.int))) L (.lst ((z0 :: ms).map V.int))) L = some (.lst ((z0 :: ms).map V.int)) := upd_same
  generalize upd (upd (upd H p1 (.lst [.int z0])) p2 (.lst (ms.map V.int))) L (.lst ((z0 :: ms).map V.int)) = HB at hL ⊢
  refine ⟨L, rfl, ⟨_, .of hL⟩, for_list (K := K) (a := L) (xs := (z0 :: ms).map V.int) (fun i σ H2 => (∃ v1 v2 v3 v4 v5 v6 v7 v8 v9, σ = [some (.ref a), v1, v2, v3, v4, v5, v6, v7, v8, v9]) ∧ Same HB H2)
    ⟨⟨none, none, none, none, none, none, none, none, none, rfl⟩, .refl _⟩ (fun i σ H2 _ h2 => .of (h2.2 _ _ hL)) ?_ (fun σ H2 _ => k H2)⟩
  rintro i y σ H2 hi ⟨⟨v1, v2, v3, v4, v5, v6, v7, v8, v9, rfl⟩, sm⟩
  obtain ⟨z, rfl, _⟩ := int_at hi
  -- the source
  refine ⟨_, rfl, z, rfl, fun p H3 np s3 sm3 => ?_⟩
  -- the thing
  refine ⟨_, rfl, p, rfl, s3, fun t v b H4 s4 o4 ht wi => ?_⟩
  have sm4 : Same HB H4 := fun c o hc => o4 _ _ (sm3 _ _ (sm _ _ hc)) (ne_of_none (sm _ _ hc) np)
  refine ⟨t, _, rfl, .of ht, rfl, _, _, rfl, _, _, rfl, rfl, ?_⟩
  -- the first inner loop
  refine ⟨_, rfl, v, b, rfl, wi, _, rfl, rfl, rfl, v, b, rfl, wi, (by show 2 ≤ sizeLine; decide), fun tt ntt => ?_⟩
  refine ⟨tt, rfl, ⟨_, .of upd_same⟩, for_tup (K := K) (a := tt) (xs := [.bl b, .bl b]) (fun i σ H5 => (∃ v5, σ = [some (.ref a), some (.int z), some (.ref p), some v, some (.bl b), v5, v6, v7, v8, v9]) ∧ H5 = upd H4 tt (.tup [.bl b, .bl b]))
    ⟨⟨_, rfl⟩, rfl⟩ (fun i σ H5 _ h5 => by rw [h5.2]; exact .of upd_same) ?_ ?_⟩
  · rintro i y σ H5 hi ⟨⟨w5, rfl⟩, rfl⟩
    have hy : y = .bl b := by
      have hm := List.mem_of_getElem? hi
      simp only [List.mem_cons, List.not_mem_nil, or_false, or_self] at hm
      exact hm
    subst hy
    refine ⟨_, rfl, _, _, _, _, true, rfl, .ty _, .base (.bl b), kit_ty (by decide +kernel), true, rfl, iteF ?_⟩
    refine ⟨_, rfl, _, rfl, rfl, _, rfl, ?_⟩
    rw [decide_eq_true rfl]
    refine iteF ?_
    exact ⟨⟨_, rfl⟩, rfl⟩
  rintro σ H5 ⟨⟨w5, rfl⟩, rfl⟩
  have s5 : Src (upd H4 tt (.tup [.bl b, .bl b])) p := s4.keep ntt
  have sm5 : Same HB (upd H4 tt (.tup [.bl b, .bl b])) := sm4.trans (same_upd ntt)
  generalize upd H4 tt (.tup [.bl b, .bl b]) = H5 at s5 sm5 ⊢
  have np5 : ∀ c o, HB c = some o → c ≠ p := fun c o hc => ne_of_none (sm _ _ hc) np
  -- low
  refine ⟨_, rfl, p, 0, rfl, s5, fun low H6 s6 o6 => ?_⟩
  have sm6 : Same HB H6 := fun c o hc => o6 _ _ (sm5 _ _ hc) (np5 c o hc)
  -- top
  refine ⟨_, rfl, _, rfl, p, low, rfl, s6, fun t1 H7 s7 o7 => ?_⟩
  have sm7 : Same HB H7 := fun c o hc => o7 _ _ (sm6 _ _ hc) (np5 c o hc)
  refine ⟨(by show 2 ≤ sizeLine; decide), fun l8 n8 => ?_⟩
  refine ⟨_, rfl, p, 6, rfl, by decide, by decide, s7.keep n8, fun r9 H9 a9 b9 s9 o9 => ?_⟩
  have sm9 : Same HB H9 := fun c o hc => o9 _ _ (same_upd n8 _ _ (sm7 _ _ hc)) (np5 c o hc)
  refine ⟨_, _, rfl, rfl, ⟨by decide, by decide⟩, ?_⟩
  obtain ⟨tp, htp⟩ : ∃ tp : Option Int, atI [V.int t1, V.non] (r9 / 5) = some (optV tp) := by
    rcases (show r9 / 5 = 0 ∨ r9 / 5 = 1 by omega) with e | e
    · rw [e]; exact ⟨some t1, atI_nat (j := 0) rfl⟩
    · rw [e]; exact ⟨none, atI_nat (j := 1) rfl⟩
  refine ⟨l8, _, _, _, rfl, rfl, .of (o9 _ _ upd_same (s7.ne_new n8)), htp, ?_⟩
  -- amount
  refine ⟨_, rfl, _, rfl, _, rfl, (by show 2 ≤ sizeLine; decide), fun l10 n10 => ?_⟩
  refine ⟨_, rfl, p, 2, rfl, by decide, by decide, s9.keep n10, fun r11 H11 a11 b11 s11 o11 => ?_⟩
  have sm11 : Same HB H11 := fun c o hc => o11 _ _ (same_upd n10 _ _ (sm9 _ _ hc)) (np5 c o hc)
  have g10 : H11 l10 = some (.lst [.int low, optV tp]) := o11 _ _ upd_same (s9.ne_new n10)
  refine ⟨_, rfl, rfl, .inr ⟨_, rfl, ?_⟩⟩
  obtain ⟨am, ham⟩ : ∃ am : Int, atI [V.int low, optV tp] (r11 * (if (!decide (optV tp = V.non)) = true then 1 else 0)) = some (.int am) := by
    cases tp with
    | none =>
      rw [show (!decide (optV none = V.non)) = false from rfl, if_neg Bool.false_ne_true, Int.mul_zero]
      exact ⟨low, atI_nat (j := 0) rfl⟩
    | some t =>
      rw [show (!decide (optV (some t) = V.non)) = true from rfl, if_pos rfl, Int.mul_one]
      rcases (show r11 = 0 ∨ r11 = 1 by omega) with e | e
      · rw [e]; exact ⟨low, atI_nat (j := 0) rfl⟩
      · rw [e]; exact ⟨t, atI_nat (j := 1) rfl⟩
  refine ⟨_, _, rfl, rfl, .inl ⟨by omega, by omega⟩, ?_⟩
  refine ⟨l10, _, _, _, rfl, rfl, .of g10, ham, ?_⟩
  refine ⟨p, am, rfl, s11, fun amount H12 s12 o12 => ?_⟩
  have sm12 : Same HB H12 := fun c o hc => o12 _ _ (sm11 _ _ hc) (np5 c o hc)
  -- the second inner loop
  refine ⟨_, rfl, _, rfl, _, rfl, amount, low, tp, rfl, _, rfl, _, rfl, _, rfl, rfl, rfl, amount, low, tp, rfl, (by show 2 ≤ sizeLine; decide), fun tu ntu => ?_⟩
  refine ⟨tu, rfl, ⟨_, .of upd_same⟩, for_tup (K := K) (a := tu) (xs := [.int (heldF amount low tp), .int (heldF amount low tp)]) (fun i σ H5 => (∃ v9, σ = [some (.ref a), some (.int z), some (.ref p), some v, some (.bl b), w5, some (.int low), some (optV tp), some (.int amount), v9]) ∧ H5 = upd H12 tu (.tup [.int (heldF amount low tp), .int (heldF amount low tp)]))
    ⟨⟨_, rfl⟩, rfl⟩ (fun i σ H5 _ h5 => by rw [h5.2]; exact .of upd_same) ?_ ?_⟩
  · rintro i y σ H13 hi ⟨⟨w9, rfl⟩, rfl⟩
    have hy : y = .int (heldF amount low tp) := by
      have hm := List.mem_of_getElem? hi
      simp only [List.mem_cons, List.not_mem_nil, or_false, or_self] at hm
      exact hm
    subst hy
    refine ⟨_, rfl, _, rfl, _, rfl, _, rfl, amount, low, tp, rfl, dueF amount low tp, ?_, _, rfl, iteF ?_⟩
    · rw [held_due]; rfl
    · exact ⟨⟨_, rfl⟩, rfl⟩
  · rintro σ H13 ⟨⟨w9, rfl⟩, rfl⟩
    exact ⟨⟨_, _, _, _, _, _, _, _, _, rfl⟩, sm12.trans (same_upd ntu)⟩
end

theorem all_mk {l : PySem.W.OpenLaw} {w : World} {K : PySem.W.Frag} {h : Heap} {mg : Str → Option Value} {fa : Addr} (X : K.In h) (G : h.Ns mainGlobals mg) (hfa : mg "law" = some (.ref fa))
    {f0 f1 f2 f3 f4 f5 f6 f7 f8 f9 f10 : Addr} {od0 an0 od1 an1 od2 an2 od3 an3 od4 an4 od5 an5 od6 an6 od7 an7 od8 an8 od9 an9 od10 an10 : Option Addr} {sl0 sl1 sl2 sl3 sl4 sl5 sl6 sl7 sl8 sl9 sl10 : Array (Option Value)}
    {oc0 kV0 dc0 pm0 cd0 ct0 oc1 kV1 dc1 pm1 cd1 ct1 oc2 kV2 dc2 pm2 cd2 ct2 oc3 kV3 dc3 pm3 cd3 ct3 oc4 kV4 dc4 pm4 cd4 ct4 oc5 kV5 dc5 pm5 cd5 ct5 oc6 kV6 dc6 pm6 cd6 ct6 oc7 kV7 dc7 pm7 cd7 ct7 oc8 kV8 dc8 pm8 cd8 ct8 oc9 kV9 dc9 pm9 cd9 ct9 oc10 kV10 dc10 pm10 cd10 ct10 : Value}
    (a0 : PySem.W.nsIn K mainGlobals "is_whole" = some (some (.ref f0))) (l0 : K.lookup f0 = some ⟨oc0, od0, .func (PySem.W.fnOf "is_whole" "is_whole" (defArgs s_p_is_whole) (defBody s_p_is_whole) (defScope s_p_is_whole) .none kV0 dc0 pm0 an0 cd0 ct0), sl0⟩) (c0 : PySem.W.codeIn K cd0 "is_whole" = true) (k0 : PySem.W.keepIn K (.ref f0) = true)
    (a1 : PySem.W.nsIn K mainGlobals "held" = some (some (.ref f1))) (l1 : K.lookup f1 = some ⟨oc1, od1, .func (PySem.W.fnOf "held" "held" (defArgs s_p_held) (defBody s_p_held) (defScope s_p_held) .none kV1 dc1 pm1 an1 cd1 ct1), sl1⟩) (c1 : PySem.W.codeIn K cd1 "held" = true) (k1 : PySem.W.keepIn K (.ref f1) = true)
    (a2 : PySem.W.nsIn K mainGlobals "_law_cell_at" = some (some (.ref f2))) (l2 : K.lookup f2 = some ⟨oc2, od2, .func (PySem.W.fnOf "_law_cell_at" "_law_cell_at" (defArgs s_cell_at) (defBody s_cell_at) (defScope s_cell_at) .none kV2 dc2 pm2 an2 cd2 ct2), sl2⟩) (c2 : PySem.W.codeIn K cd2 "_law_cell_at" = true) (k2 : PySem.W.keepIn K (.ref f2) = true)
    (a3 : PySem.W.nsIn K mainGlobals "_law_mixed" = some (some (.ref f3))) (l3 : K.lookup f3 = some ⟨oc3, od3, .func (PySem.W.fnOf "_law_mixed" "_law_mixed" (defArgs s_mixed) (defBody s_mixed) (defScope s_mixed) .none kV3 dc3 pm3 an3 cd3 ct3), sl3⟩) (c3 : PySem.W.codeIn K cd3 "_law_mixed" = true) (k3 : PySem.W.keepIn K (.ref f3) = true)
    (a4 : PySem.W.nsIn K mainGlobals "_law_source" = some (some (.ref f4))) (l4 : K.lookup f4 = some ⟨oc4, od4, .func (PySem.W.fnOf "_law_source" "_law_source" (defArgs s_source) (defBody s_source) (defScope s_source) .none kV4 dc4 pm4 an4 cd4 ct4), sl4⟩) (c4 : PySem.W.codeIn K cd4 "_law_source" = true) (k4 : PySem.W.keepIn K (.ref f4) = true)
    (a5 : PySem.W.nsIn K mainGlobals "_law_next" = some (some (.ref f5))) (l5 : K.lookup f5 = some ⟨oc5, od5, .func (PySem.W.fnOf "_law_next" "_law_next" (defArgs s_next) (defBody s_next) (defScope s_next) .none kV5 dc5 pm5 an5 cd5 ct5), sl5⟩) (c5 : PySem.W.codeIn K cd5 "_law_next" = true) (k5 : PySem.W.keepIn K (.ref f5) = true)
    (a6 : PySem.W.nsIn K mainGlobals "_law_number" = some (some (.ref f6))) (l6 : K.lookup f6 = some ⟨oc6, od6, .func (PySem.W.fnOf "_law_number" "_law_number" (defArgs s_number) (defBody s_number) (defScope s_number) .none kV6 dc6 pm6 an6 cd6 ct6), sl6⟩) (c6 : PySem.W.codeIn K cd6 "_law_number" = true) (k6 : PySem.W.keepIn K (.ref f6) = true)
    (a7 : PySem.W.nsIn K mainGlobals "_law_thing" = some (some (.ref f7))) (l7 : K.lookup f7 = some ⟨oc7, od7, .func (PySem.W.fnOf "_law_thing" "_law_thing" (defArgs s_thing) (defBody s_thing) (defScope s_thing) .none kV7 dc7 pm7 an7 cd7 ct7), sl7⟩) (c7 : PySem.W.codeIn K cd7 "_law_thing" = true) (k7 : PySem.W.keepIn K (.ref f7) = true)
    (a8 : PySem.W.nsIn K mainGlobals "_law_held" = some (some (.ref f8))) (l8 : K.lookup f8 = some ⟨oc8, od8, .func (PySem.W.fnOf "_law_held" "_law_held" (defArgs s_held) (defBody s_held) (defScope s_held) .none kV8 dc8 pm8 an8 cd8 ct8), sl8⟩) (c8 : PySem.W.codeIn K cd8 "_law_held" = true) (k8 : PySem.W.keepIn K (.ref f8) = true)
    (a9 : PySem.W.nsIn K mainGlobals "_law_same" = some (some (.ref f9))) (l9 : K.lookup f9 = some ⟨oc9, od9, .func (PySem.W.fnOf "_law_same" "_law_same" (defArgs s_same) (defBody s_same) (defScope s_same) .none kV9 dc9 pm9 an9 cd9 ct9), sl9⟩) (c9 : PySem.W.codeIn K cd9 "_law_same" = true) (k9 : PySem.W.keepIn K (.ref f9) = true)
    (a10 : PySem.W.nsIn K mainGlobals "law" = some (some (.ref f10))) (l10 : K.lookup f10 = some ⟨oc10, od10, .func (PySem.W.fnOf "law" "law" (defArgs s_law) (defBody s_law) (defScope s_law) .none kV10 dc10 pm10 an10 cd10 ct10), sl10⟩) (c10 : PySem.W.codeIn K cd10 "law" = true) (k10 : PySem.W.keepIn K (.ref f10) = true)
    (z_isinstance : PySem.W.nsIn K mainGlobals "isinstance" = some none)
    (z_int : PySem.W.nsIn K mainGlobals "int" = some none)
    (z_bool : PySem.W.nsIn K mainGlobals "bool" = some none)
    (z_max : PySem.W.nsIn K mainGlobals "max" = some none)
    (z_len : PySem.W.nsIn K mainGlobals "len" = some none) :
    ∃ fd : FuncData, (∀ (s : Shared) (v : Value), BindsTo s fd ⟨[v], []⟩ [("_law_script", v)]) ∧ ∀ base : Heap, K.In base → base.Ns mainGlobals mg → FnOk l.prog w K mg base CX0 5 fa fd ["_law_script"] (spLaw K) := by
  have e := hfa.symm.trans (PySem.W.mg_of X G a10)
  cases e
  have H0 : Has K mg "is_whole" s_p_is_whole ["thing"] := has_mk (fun_mk (st := s_p_is_whole) l0 c0 k0) (PySem.W.mg_of X G a0) (fun _ _ _ _ _ _ us hl => match us, hl with | [_], _ => rfl)
  have H1 : Has K mg "held" s_p_held ["number", "least", "most"] := has_mk (fun_mk (st := s_p_held) l1 c1 k1) (PySem.W.mg_of X G a1) (fun _ _ _ _ _ _ us hl => match us, hl with | [_, _, _], _ => rfl)
  have H2 : Has K mg "_law_cell_at" s_cell_at ["_law_script", "_law_k"] := has_mk (fun_mk (st := s_cell_at) l2 c2 k2) (PySem.W.mg_of X G a2) (fun _ _ _ _ _ _ us hl => match us, hl with | [_, _], _ => rfl)
  have H3 : Has K mg "_law_mixed" s_mixed ["_law_cell", "_law_k"] := has_mk (fun_mk (st := s_mixed) l3 c3 k3) (PySem.W.mg_of X G a3) (fun _ _ _ _ _ _ us hl => match us, hl with | [_, _], _ => rfl)
  have H4 : Has K mg "_law_source" s_source ["_law_cell"] := has_mk (fun_mk (st := s_source) l4 c4 k4) (PySem.W.mg_of X G a4) (fun _ _ _ _ _ _ us hl => match us, hl with | [_], _ => rfl)
  have H5 : Has K mg "_law_next" s_next ["_law_source_here", "_law_many"] := has_mk (fun_mk (st := s_next) l5 c5 k5) (PySem.W.mg_of X G a5) (fun _ _ _ _ _ _ us hl => match us, hl with | [_, _], _ => rfl)
  have H6 : Has K mg "_law_number" s_number ["_law_source_here", "_law_beside"] := has_mk (fun_mk (st := s_number) l6 c6 k6) (PySem.W.mg_of X G a6) (fun _ _ _ _ _ _ us hl => match us, hl with | [_, _], _ => rfl)
  have H7 : Has K mg "_law_thing" s_thing ["_law_source_here"] := has_mk (fun_mk (st := s_thing) l7 c7 k7) (PySem.W.mg_of X G a7) (fun _ _ _ _ _ _ us hl => match us, hl with | [_], _ => rfl)
  have H8 : Has K mg "_law_held" s_held ["_law_amount", "_law_low", "_law_top"] := has_mk (fun_mk (st := s_held) l8 c8 k8) (PySem.W.mg_of X G a8) (fun _ _ _ _ _ _ us hl => match us, hl with | [_, _, _], _ => rfl)
  have H9 : Has K mg "_law_same" s_same ["_law_found", "_law_due"] := has_mk (fun_mk (st := s_same) l9 c9 k9) (PySem.W.mg_of X G a9) (fun _ _ _ _ _ _ us hl => match us, hl with | [_, _], _ => rfl)
  have T : Txt K mg := ⟨H0, H1, H2, H3, H4, H5, H6, H7, H8, H9, PySem.W.mg_none_of X G z_isinstance, PySem.W.mg_none_of X G z_int, PySem.W.mg_none_of X G z_bool, PySem.W.mg_none_of X G z_max, PySem.W.mg_none_of X G z_len⟩
  exact ⟨_, fun s v => .of_eq rfl, fun base _ _ => ok_law (fun_mk (st := s_law) l10 c10 k10) T⟩
end K01
open PySem PySem.W PyProof.Rows
set_option maxRecDepth 100000 in
set_option maxHeartbeats 0 in
theorem PySem.Challenge.cw_nestlaid_k01_whole_numbers_and_bounds_holds : PySem.Challenge.rw_nestlaid_k01_whole_numbers_and_bounds.Holds := by
  w_on; o_law; k_head; (case hw => w_witness2)
  k_fill
  refine L2.walk_of (l := PySem.Challenge.rw_nestlaid_k01_whole_numbers_and_bounds) (n := 63) (k := 5) (x := "_law_script") (CX := fun _ => L2.CX0) (sp := fun w => K01.spLaw _) rfl (by decide) rfl ⟨rfl, by decide, by decide⟩ (fun w h Y => PySem.W.kIn_of Y) ?F (fun _ _ a ns hl _ hS => ⟨a, ns, rfl, hS, hl, fun _ => rfl⟩) (fun _ _ _ _ _ h => h)
  case F =>
    intro w mg fa h KX G hmg
    refine' K01.all_mk KX G hmg ?a0 ?l0 ?c0 ?k0 ?a1 ?l1 ?c1 ?k1 ?a2 ?l2 ?c2 ?k2 ?a3 ?l3 ?c3 ?k3 ?a4 ?l4 ?c4 ?k4 ?a5 ?l5 ?c5 ?k5 ?a6 ?l6 ?c6 ?k6 ?a7 ?l7 ?c7 ?k7 ?a8 ?l8 ?c8 ?k8 ?a9 ?l9 ?c9 ?k9 ?a10 ?l10 ?c10 ?k10 ?z_isinstance ?z_int ?z_bool ?z_max ?z_len
    (case a0 => k_is); (case l0 => k_is); (case c0 => k_is); (case k0 => k_is)
    (case a1 => k_is); (case l1 => k_is); (case c1 => k_is); (case k1 => k_is)
    (case a2 => k_is); (case l2 => k_is); (case c2 => k_is); (case k2 => k_is)
    (case a3 => k_is); (case l3 => k_is); (case c3 => k_is); (case k3 => k_is)
    (case a4 => k_is); (case l4 => k_is); (case c4 => k_is); (case k4 => k_is)
    (case a5 => k_is); (case l5 => k_is); (case c5 => k_is); (case k5 => k_is)
    (case a6 => k_is); (case l6 => k_is); (case c6 => k_is); (case k6 => k_is)
    (case a7 => k_is); (case l7 => k_is); (case c7 => k_is); (case k7 => k_is)
    (case a8 => k_is); (case l8 => k_is); (case c8 => k_is); (case k8 => k_is)
    (case a9 => k_is); (case l9 => k_is); (case c9 => k_is); (case k9 => k_is)
    (case a10 => k_is); (case l10 => k_is); (case c10 => k_is); (case k10 => k_is)
    (case z_isinstance => k_is); (case z_int => k_is); (case z_bool => k_is); (case z_max => k_is)
    (case z_len => k_is)
