import PyProof.Rows.All
import Wide.All
import OpenK.AllK
import Wide.FinOn
import HandS.ForMost
import HandS.ForExc
import HandS.Wide
import HandS.Defaults
import HandS.IsInst
import HandS.FStr
import HandS.Walk
import HandS.CallLocal
import HandS.Evl
import PySem.Challenge.RW_nestlaid_k05_levels_that_are_known
set_option Elab.async false
set_option linter.all false
set_option maxRecDepth 100000
set_option maxHeartbeats 4000000

namespace K05
open PySem PySem.Spec PyProof.Rows L2
def topS (i : Nat) : Stmt := PySem.Challenge.pw_nestlaid_k05_levels_that_are_known.main.body.getD i (.Pass ⟨0, 0, 0, 0⟩)
abbrev s_p_is_whole : Stmt := topS 4
abbrev s_p_is_count : Stmt := topS 5
abbrev s_p_dealt : Stmt := topS 6
abbrev s_p_levelled : Stmt := topS 7
abbrev s_p_refuse_no_list : Stmt := topS 8
abbrev s_p_refuse_no_counts : Stmt := topS 9
abbrev s_p_refuse_no_weights : Stmt := topS 10
abbrev s_p_by_level : Stmt := topS 11
abbrev s_p_unbound : Stmt := topS 12
abbrev s_p_cap_binds : Stmt := topS 13
abbrev s_p_floor_binds : Stmt := topS 14
abbrev s_p_running_parts : Stmt := topS 15
abbrev s_p_in_lowest_terms : Stmt := topS 16
abbrev s_cell_at : Stmt := topS 18
abbrev s_mixed : Stmt := topS 19
abbrev s_source : Stmt := topS 20
abbrev s_next : Stmt := topS 21
abbrev s_shared : Stmt := topS 22
abbrev s_level : Stmt := topS 23
abbrev s_bounds : Stmt := topS 24
abbrev s_dealt_right : Stmt := topS 25
abbrev s_levelled_right : Stmt := topS 26
abbrev s_law : Stmt := topS 27
abbrev n_p_is_whole : List Str := ["thing"]
theorem sc_p_is_whole : FnScope n_p_is_whole ["thing"] (defScope s_p_is_whole) := ⟨rfl, rfl, rfl, by decide +kernel, rfl, by decide +kernel, by decide +kernel⟩
abbrev n_p_is_count : List Str := ["thing"]
theorem sc_p_is_count : FnScope n_p_is_count ["thing"] (defScope s_p_is_count) := ⟨rfl, rfl, rfl, by decide +kernel, rfl, by decide +kernel, by decide +kernel⟩
abbrev n_p_dealt : List Str := ["total", "caps", "weights", "cap", "limits", "weight"]
theorem sc_p_dealt : FnScope n_p_dealt ["total", "caps", "weights"] (defScope s_p_dealt) := ⟨rfl, rfl, rfl, by decide +kernel, rfl, by decide +kernel, by decide +kernel⟩
abbrev n_p_levelled : List Str := ["total", "floors", "weights"]
theorem sc_p_levelled : FnScope n_p_levelled ["total", "floors", "weights"] (defScope s_p_levelled) := ⟨rfl, rfl, rfl, by decide +kernel, rfl, by decide +kernel, by decide +kernel⟩
abbrev n_p_refuse_no_list : List Str := ["thing"]
theorem sc_p_refuse_no_list : FnScope n_p_refuse_no_list ["thing"] (defScope s_p_refuse_no_list) := ⟨rfl, rfl, rfl, by decide +kernel, rfl, by decide +kernel, by decide +kernel⟩
abbrev n_p_refuse_no_counts : List Str := ["things", "thing"]
theorem sc_p_refuse_no_counts : FnScope n_p_refuse_no_counts ["things"] (defScope s_p_refuse_no_counts) := ⟨rfl, rfl, rfl, by decide +kernel, rfl, by decide +kernel, by decide +kernel⟩
abbrev n_p_refuse_no_weights : List Str := ["weights", "many"]
theorem sc_p_refuse_no_weights : FnScope n_p_refuse_no_weights ["weights", "many"] (defScope s_p_refuse_no_weights) := ⟨rfl, rfl, rfl, by decide +kernel, rfl, by decide +kernel, by decide +kernel⟩
abbrev n_p_by_level : List Str := ["total", "limits", "weights", "binds", "free", "room", "whole_weight", "parts", "at", "part", "place"]
theorem sc_p_by_level : FnScope n_p_by_level ["total", "limits", "weights", "binds"] (defScope s_p_by_level) := ⟨rfl, rfl, rfl, by decide +kernel, rfl, by decide +kernel, by decide +kernel⟩
abbrev n_p_unbound : List Str := ["total", "limits", "weights", "binds", "free", "at", "weight", "room", "limit", "whole_weight", "bound"]
theorem sc_p_unbound : FnScope n_p_unbound ["total", "limits", "weights", "binds"] (defScope s_p_unbound) := ⟨rfl, rfl, rfl, by decide +kernel, rfl, by decide +kernel, by decide +kernel⟩
abbrev n_p_cap_binds : List Str := ["cap", "weight", "top", "bottom"]
theorem sc_p_cap_binds : FnScope n_p_cap_binds ["cap", "weight", "top", "bottom"] (defScope s_p_cap_binds) := ⟨rfl, rfl, rfl, by decide +kernel, rfl, by decide +kernel, by decide +kernel⟩
abbrev n_p_floor_binds : List Str := ["floor", "weight", "top", "bottom"]
theorem sc_p_floor_binds : FnScope n_p_floor_binds ["floor", "weight", "top", "bottom"] (defScope s_p_floor_binds) := ⟨rfl, rfl, rfl, by decide +kernel, rfl, by decide +kernel, by decide +kernel⟩
abbrev n_p_running_parts : List Str := ["room", "weights", "whole", "parts", "weight_so_far", "dealt_so_far", "weight", "dealt_now"]
theorem sc_p_running_parts : FnScope n_p_running_parts ["room", "weights"] (defScope s_p_running_parts) := ⟨rfl, rfl, rfl, by decide +kernel, rfl, by decide +kernel, by decide +kernel⟩
abbrev n_p_in_lowest_terms : List Str := ["top", "bottom", "divisor", "rest"]
theorem sc_p_in_lowest_terms : FnScope n_p_in_lowest_terms ["top", "bottom"] (defScope s_p_in_lowest_terms) := ⟨rfl, rfl, rfl, by decide +kernel, rfl, by decide +kernel, by decide +kernel⟩
abbrev n_cell_at : List Str := ["_law_script", "_law_k"]
theorem sc_cell_at : FnScope n_cell_at ["_law_script", "_law_k"] (defScope s_cell_at) := ⟨rfl, rfl, rfl, by decide +kernel, rfl, by decide +kernel, by decide +kernel⟩
abbrev n_mixed : List Str := ["_law_cell", "_law_k", "_law_low"]
theorem sc_mixed : FnScope n_mixed ["_law_cell", "_law_k"] (defScope s_mixed) := ⟨rfl, rfl, rfl, by decide +kernel, rfl, by decide +kernel, by decide +kernel⟩
abbrev n_source : List Str := ["_law_cell"]
theorem sc_source : FnScope n_source ["_law_cell"] (defScope s_source) := ⟨rfl, rfl, rfl, by decide +kernel, rfl, by decide +kernel, by decide +kernel⟩
abbrev n_next : List Str := ["_law_source_here", "_law_many", "_law_found"]
theorem sc_next : FnScope n_next ["_law_source_here", "_law_many"] (defScope s_next) := ⟨rfl, rfl, rfl, by decide +kernel, rfl, by decide +kernel, by decide +kernel⟩
abbrev n_shared : List Str := ["_law_one", "_law_other"]
theorem sc_shared : FnScope n_shared ["_law_one", "_law_other"] (defScope s_shared) := ⟨rfl, rfl, rfl, by decide +kernel, rfl, by decide +kernel, by decide +kernel⟩
abbrev n_level : List Str := ["_law_source_here", "_law_top", "_law_bottom", "_law_shared_here"]
theorem sc_level : FnScope n_level ["_law_source_here"] (defScope s_level) := ⟨rfl, rfl, rfl, by decide +kernel, rfl, by decide +kernel, by decide +kernel⟩
abbrev n_bounds : List Str := ["_law_source_here", "_law_parts", "_law_found", "_law_far", "_law_part", "_law_one", "_law_some"]
theorem sc_bounds : FnScope n_bounds ["_law_source_here", "_law_parts"] (defScope s_bounds) := ⟨rfl, rfl, rfl, by decide +kernel, rfl, by decide +kernel, by decide +kernel⟩
abbrev n_dealt_right : List Str := ["_law_level_here", "_law_parts", "_law_caps", "_law_weights", "_law_found", "_law_part", "_law_cap", "_law_due", "_law_some", "_law_weight"]
theorem sc_dealt_right : FnScope n_dealt_right ["_law_level_here", "_law_parts", "_law_caps", "_law_weights"] (defScope s_dealt_right) := ⟨rfl, rfl, rfl, by decide +kernel, rfl, by decide +kernel, by decide +kernel⟩
abbrev n_levelled_right : List Str := ["_law_level_here", "_law_parts", "_law_floors", "_law_weights", "_law_found", "_law_floor", "_law_part", "_law_due"]
theorem sc_levelled_right : FnScope n_levelled_right ["_law_level_here", "_law_parts", "_law_floors", "_law_weights"] (defScope s_levelled_right) := ⟨rfl, rfl, rfl, by decide +kernel, rfl, by decide +kernel, by decide +kernel⟩
abbrev n_law : List Str := ["_law_script", "_law_cell", "_law_source_here", "_law_level_here", "_law_many", "_law_far", "_law_units", "_law_k", "_law_weights", "_law_unit", "_law_parts", "_law_bounds_here", "_law_caps", "_law_bound"]
theorem sc_law : FnScope n_law ["_law_script"] (defScope s_law) := ⟨rfl, rfl, rfl, by decide +kernel, rfl, by decide +kernel, by decide +kernel⟩
/-! ### what is known of a def of the top, and of a def that keeps its promise -/
structure Has (K : PySem.W.Frag) (mg : Str → Option Value) (x : Str) (st : Stmt) (ps : List Str) : Prop where
  ex : ∃ f fd, Fun K x x st f fd ∧ mg x = some (.ref f) ∧ Binds K fd ps []
structure Ok (P : Program) (w : World) (K : PySem.W.Frag) (mg : Str → Option Value) (base : Heap) (C : CXT) (x : Str) (st : Stmt) (k : Nat) (ps : List Str) (sp : Sp) : Prop where
  ex : ∃ f fd, Fun K x x st f fd ∧ FnOk P w K mg base C k f fd ps sp ∧ mg x = some (.ref f) ∧ Binds K fd ps []
section
variable {P : Program} {w : World} {K : PySem.W.Frag} {mg : Str → Option Value} {base : Heap} {x : Str} {st : Stmt} {ps N : List Str} {k : Nat} {sp : Sp}
theorem has_mk {f : Addr} {fd : FuncData} (F : Fun K x x st f fd) (g : mg x = some (.ref f))
    (h : ∀ (kV doc pm : Value) (an : Option Addr) (cdv ct : Value) (us : List Value), us.length = ps.length → bindArgs (PySem.W.fnOf x x (defArgs st) (defBody st) (defScope st) .none kV doc pm an cdv ct) ⟨us, []⟩ = pure (ps.zip us)) : Has K mg x st ps :=
  ⟨f, fd, F, g, F.binds h⟩
theorem Has.ok (D : Has K mg x st ps) (S : FnScope N ps (defScope st)) (len : ∀ vs H Q E, sp vs H Q E → vs.length = ps.length)
    (hbody : ∀ (f : Addr) (cdv : Value) (A : Around) (outer : List Env) (s : Shared) (H : Hp) (vs : List V) (Q : VK) (E : XK), Room k (A.deeper (envOfC x (defScope st) s.heap.objs.size f cdv)) → sp vs H Q E →
      ∃ t, PSs (cxOf CX0 P w K mg base N x (defScope st) f cdv A outer s H E).nox (defBody st) t ∧ t { nx := fun _ H' => Q .non H', rt := Q } (start N vs) H) : Ok P w K mg base CX0 x st (k + 1) ps sp := by
  obtain ⟨f, fd, F, g, b⟩ := D
  exact ⟨f, fd, F, F.ok S len (hbody f), g, b⟩
end
section
variable {X : Cx} {x : Str} {st : Stmt} {ps ks : List Str} {k : Nat} {sp : Sp} {e : Expr} {es : List Expr} {kws : List Keyword} {t tk : TA} {p pos : Pos} {g : List Value → List Value → List Value} {gV : List V → List V → List V}
theorem callO (O : Ok X.prog X.w X.K X.mg X.base CX0 x st k ps sp) (hr : Room k X.A) (hg : Gl X x) (ha : PA X (e :: es) t) (hdb : (x == ("__debug__" : Str)) = false := by decide) (he : starEach (e :: es) X.env = (false, eval e X.env) :: starEach es X.env := by rfl) (hpl : (backTo pos (starEach es X.env)).any (·.1) = false := by rfl) :
    PE X (.Call (.Name x p) (e :: es) [] pos) (tCall sp [] E0 t) := by
  obtain ⟨f, fd, F, G, m, b⟩ := O
  exact pe_call G hr hg m F.kp b .nil pass0 ha hdb he hpl
/-- how a call by keywords alone binds -/
def KwB (x : Str) (st : Stmt) (ps ks : List Str) (g : List Value → List Value → List Value) : Prop :=
  ∀ (kV doc pm : Value) (an : Option Addr) (cdv ct : Value) (ws : List Value), ws.length = ks.length → bindArgs (PySem.W.fnOf x x (defArgs st) (defBody st) (defScope st) .none kV doc pm an cdv ct) ⟨[], ks.zip ws⟩ = pure (ps.zip (g [] ws))
theorem kbn_of {K : PySem.W.Frag} {f : Addr} {fd : FuncData} (F : Fun K x x st f fd) (h : KwB x st ps ks g) (rel : ∀ {vs : List V} {us : List Value} {zs : List V} {ws : List Value}, Vals vs us → Vals zs ws → Vals (gV vs zs) (g us ws)) : KBn K fd ps 0 ks g gV := by
  obtain ⟨oc, od, kV, doc, pm, an, cdv, ct, osl, rfl, lk, hcd⟩ := F.ex
  refine ⟨fun s us ws _ h1 h2 => ?_, rel⟩
  obtain rfl : us = [] := List.eq_nil_of_length_eq_zero h1
  exact .of_eq (h kV doc pm an cdv ct ws h2)
/-- f(k = v, ..) -/
theorem callO_kw (O : Ok X.prog X.w X.K X.mg X.base CX0 x st k ps sp) (h : KwB x st ps ks g) (rel : ∀ {vs : List V} {us : List Value} {zs : List V} {ws : List Value}, Vals vs us → Vals zs ws → Vals (gV vs zs) (g us ws)) (hr : Room k X.A) (hg : Gl X x) (hkw : PK X kws tk)
    (hall : (backToKw pos (keywordEach kws X.env)).all (·.1.isSome) = true := by rfl) (hks : (backToKw pos (keywordEach kws X.env)).filterMap (·.1) = ks := by rfl) (hdb : (x == ("__debug__" : Str)) = false := by decide)
    (hpl : ((backTo pos (starEach [] X.env)).any (·.1) || (backToKw pos (keywordEach kws X.env)).any (·.1.isNone)) = false := by rfl) :
    PE X (.Call (.Name x p) [] kws pos) (tCallN 0 ks.length sp gV E0 tNil tk) := by
  obtain ⟨f, fd, F, G, m, b⟩ := O
  refine ⟨fun pins s σ H Q I h0 => ?_⟩
  refine wpAny_Call_Name_kw (ld_glob I hg m ?_ hdb)
  refine PySem.W.callWith_KW0 (h₀ := X.base) I.ok.mod.kin F.kp hall ?_ hpl
  refine thn (hkw.run pos pins s σ H _ I h0) fun ws s2 ⟨zs, H2, I2, rz, l1, l2, q2⟩ => ⟨I2.kIn, ?_⟩
  rw [hks]
  exact run_fnN (us := []) (vs := []) G hr (kbn_of F h rel) pass0 I2 .nil rz rfl l2 q2
end
/-! ### heaps -/
/-- all but p is as it was -/
def Off (p : Addr) (H H' : Hp) : Prop := ∀ b o, H b = some o → b ≠ p → H' b = some o
theorem Off.refl {p : Addr} {H : Hp} : Off p H H := fun _ _ h _ => h
theorem Off.trans {p : Addr} {H H1 H2 : Hp} (a : Off p H H1) (b : Off p H1 H2) : Off p H H2 := fun c o h n => b c o (a c o h n) n
theorem Off.of {p : Addr} {H H' : Hp} (s : Same H H') : Off p H H' := fun b o h _ => s b o h
theorem off_upd {p : Addr} {H : Hp} {o : HO} : Off p H (upd H p o) := fun b o' h n => by rw [upd_ne n]; exact h
theorem same_upd {H : Hp} {p : Addr} {o : HO} (h : H p = none) : Same H (upd H p o) := fun b x e => by
  rw [upd_ne (ne_of_none e h)]
  exact e
theorem off_new {p q : Addr} {H : Hp} {o : HO} (h : H q = none) : Off p H (upd H q o) := .of (same_upd h)
theorem Off.seq {K : PySem.W.Frag} {p : Addr} {H H' : Hp} {a : Addr} {xs : List V} (e : Off p H H') (n : a ≠ p) (h : SqL K H a xs) : SqL K H' a xs := by
  rcases h with (h | ⟨o, h⟩) | h
  · exact .inl (.inl (e _ _ h n))
  · exact .inl (.inr ⟨o, e _ _ h n⟩)
  · exact .inr h
theorem Off.ne {p a : Addr} {H H' : Hp} {o o' : HO} (h : H a = some o) (n : H p = none) : a ≠ p := ne_of_none h n
theorem atI_mem {α : Type} {xs : List α} {i : Int} (h0 : 0 ≤ i) (h1 : i < (xs.length : Int)) : ∃ v, v ∈ xs ∧ atI xs i = some v := by
  have h2 : i.toNat < xs.length := by omega
  refine ⟨xs[i.toNat], List.getElem_mem h2, ?_⟩
  have h3 := atI_nat (xs := xs) (j := i.toNat) (v := xs[i.toNat]) (List.getElem?_eq_getElem h2)
  rw [show ((i.toNat : Nat) : Int) = i by omega] at h3
  exact h3
theorem atI_at {α : Type} {xs : List α} {i : Int} (h0 : 0 ≤ i) (h1 : i < (xs.length : Int)) : ∃ (j : Nat) (v : α), (j : Int) = i ∧ xs[j]? = some v ∧ atI xs i = some v := by
  have h2 : i.toNat < xs.length := by omega
  have h3 := atI_nat (xs := xs) (j := i.toNat) (v := xs[i.toNat]) (List.getElem?_eq_getElem h2)
  rw [show ((i.toNat : Nat) : Int) = i by omega] at h3
  exact ⟨i.toNat, _, by omega, List.getElem?_eq_getElem h2, h3⟩
theorem int_at {ns : List Int} {i : Nat} {y : V} (h : (ns.map V.int)[i]? = some y) : ∃ z, y = V.int z ∧ ns[i]? = some z := by
  rw [List.getElem?_map] at h
  cases e : ns[i]? with
  | none =>
    rw [e] at h
    cases h
  | some z =>
    rw [e] at h
    exact ⟨z, (Option.some.inj h).symm, rfl⟩
theorem cut_ints (ns : List Int) (lo hi : Option Int) : ∃ ms : List Int, ms.length ≤ ns.length ∧ cutV (ns.map V.int) lo hi = ms.map V.int := by
  unfold cutV
  rw [← List.map_drop, ← List.map_take]
  exact ⟨_, by rw [List.length_take, List.length_drop]; omega, rfl⟩
theorem yes_if {σ : L2.St} {H : Hp} {A B : Hp → Prop} (h : A H) : tYes σ H (fun b H3 => if b = true then A H3 else B H3) := by
  show if true = true then A H else B H
  exact iteT h

structure Txt (K : PySem.W.Frag) (mg : Str → Option Value) : Prop where
  h_p_is_whole : Has K mg "is_whole" s_p_is_whole ["thing"]
  h_p_is_count : Has K mg "is_count" s_p_is_count ["thing"]
  h_p_dealt : Has K mg "dealt" s_p_dealt ["total", "caps", "weights"]
  h_p_levelled : Has K mg "levelled" s_p_levelled ["total", "floors", "weights"]
  h_p_refuse_no_list : Has K mg "refuse_no_list" s_p_refuse_no_list ["thing"]
  h_p_refuse_no_counts : Has K mg "refuse_no_counts" s_p_refuse_no_counts ["things"]
  h_p_refuse_no_weights : Has K mg "refuse_no_weights" s_p_refuse_no_weights ["weights", "many"]
  h_p_by_level : Has K mg "by_level" s_p_by_level ["total", "limits", "weights", "binds"]
  h_p_unbound : Has K mg "unbound" s_p_unbound ["total", "limits", "weights", "binds"]
  h_p_cap_binds : Has K mg "cap_binds" s_p_cap_binds ["cap", "weight", "top", "bottom"]
  h_p_floor_binds : Has K mg "floor_binds" s_p_floor_binds ["floor", "weight", "top", "bottom"]
  h_p_running_parts : Has K mg "running_parts" s_p_running_parts ["room", "weights"]
  h_p_in_lowest_terms : Has K mg "in_lowest_terms" s_p_in_lowest_terms ["top", "bottom"]
  h_cell_at : Has K mg "_law_cell_at" s_cell_at ["_law_script", "_law_k"]
  h_mixed : Has K mg "_law_mixed" s_mixed ["_law_cell", "_law_k"]
  h_source : Has K mg "_law_source" s_source ["_law_cell"]
  h_next : Has K mg "_law_next" s_next ["_law_source_here", "_law_many"]
  h_shared : Has K mg "_law_shared" s_shared ["_law_one", "_law_other"]
  h_level : Has K mg "_law_level" s_level ["_law_source_here"]
  h_bounds : Has K mg "_law_bounds" s_bounds ["_law_source_here", "_law_parts"]
  h_dealt_right : Has K mg "_law_dealt_right" s_dealt_right ["_law_level_here", "_law_parts", "_law_caps", "_law_weights"]
  h_levelled_right : Has K mg "_law_levelled_right" s_levelled_right ["_law_level_here", "_law_parts", "_law_floors", "_law_weights"]
  m_isinstance : mg "isinstance" = none
  m_int : mg "int" = none
  m_bool : mg "bool" = none
  m_len : mg "len" = none
  m_zip : mg "zip" = none
  m_sum : mg "sum" = none
  m_list : mg "list" = none
  m_enumerate : mg "enumerate" = none
  m_max : mg "max" = none
  m_min : mg "min" = none
  m_all : mg "all" = none
  m_range : mg "range" = none
/-! ### the source of draws: a list of three numbers -/
def Src (H : Hp) (p : Addr) : Prop := ∃ a b c : Int, H p = some (.lst [.int a, .int b, .int c])
theorem Src.ne_new {H : Hp} {p q : Addr} (h : Src H p) (n : H q = none) : q ≠ p := by
  obtain ⟨a, b, c, e⟩ := h
  exact (ne_of_none e n).symm
theorem Src.keep {H : Hp} {p q : Addr} {o : HO} (h : Src H p) (n : H q = none) : Src (upd H q o) p := by
  obtain ⟨a, b, c, e⟩ := h
  exact ⟨a, b, c, by rw [upd_ne (ne_of_none e n)]; exact e⟩
theorem Src.same {H H' : Hp} {p : Addr} (h : Src H p) (s : Same H H') : Src H' p := by
  obtain ⟨a, b, c, e⟩ := h
  exact ⟨a, b, c, s _ _ e⟩
def spCellAt (K : PySem.W.Frag) : Sp := fun vs H Q _ => ∃ (l : Addr) (ns : List Int) (j : Nat), vs = [.ref l, .int (j : Int)] ∧ SqL K H l (ns.map V.int) ∧ ∀ z : Int, Q (.int z) H
def spMixed : Sp := fun vs H Q _ => ∃ c k : Int, vs = [.int c, .int k] ∧ ∀ r : Int, Q (.int r) H
def spSource : Sp := fun vs H Q _ => ∃ c : Int, vs = [.int c] ∧ ∀ p H', H p = none → Src H' p → Same H H' → Q (.ref p) H'
def spNext : Sp := fun vs H Q _ => ∃ (p : Addr) (m : Int), vs = [.ref p, .int m] ∧ 0 < m ∧ m < 2 ^ 100 ∧ Src H p ∧ ∀ (r : Int) H', 0 ≤ r → r < m → Src H' p → Off p H H' → Q (.int r) H'
section
variable {P : Program} {w : World} {K : PySem.W.Frag} {mg : Str → Option Value} {base : Heap}
theorem ok_cell_at (T : Txt K mg) : Ok P w K mg base CX0 "_law_cell_at" s_cell_at 1 ["_law_script", "_law_k"] (spCellAt K) := by
  refine T.h_cell_at.ok sc_cell_at (fun vs H Q E h => ?_) (fun f cdv A outer s H vs Q E hr h => ?_)
  · obtain ⟨l, ns, j, rfl, _⟩ := h; rfl
  obtain ⟨l, ns, j, rfl, hs, q⟩ := h
  refine ⟨_, (pss_cons (ps_if (pt_cmpR op_lt (pv 1) (pe_callB call_len (by rfl) T.m_len (by decide +kernel) (pa_cons (pv 0) pa_nil)) (nomark _))
      (pss_one (ps_ret (pe_ix ix_list (pv 0) (pv 1) (fun _ _ => rfl))))
      pss_nil)
      (pss_one (ps_ret pe_int))), ?_⟩
  refine ⟨_, rfl, _, rfl, _, _, rfl, .inl ⟨_, hs, rfl⟩, _, _, rfl, rfl, _, rfl, ite2 (fun e => ?_) (fun e => ?_)⟩
  · have e1 := of_decide_eq_true e
    obtain ⟨v, hv, ha⟩ := atI_mem (xs := ns.map V.int) (i := (j : Int)) (by omega) e1
    obtain ⟨z, _, rfl⟩ := List.mem_map.mp hv
    exact ⟨_, rfl, _, rfl, _, _, _, _, rfl, rfl, hs, ha, q z⟩
  · exact q 0
theorem ok_mixed (T : Txt K mg) : Ok P w K mg base CX0 "_law_mixed" s_mixed 1 ["_law_cell", "_law_k"] spMixed := by
  refine T.h_mixed.ok sc_mixed (fun vs H Q E h => ?_) (fun f cdv A outer s H vs Q E hr h => ?_)
  · obtain ⟨l, j, rfl, _⟩ := h; rfl
  obtain ⟨c, k, rfl, q⟩ := h
  refine ⟨_, (pss_cons (ps_set (i := 2) sc_mixed.nd rfl (by first | exact Or.inl rfl | exact Or.inr rfl) (pe_op op_add (pe_op op_mod (pv 0) pe_int) (pe_op op_mul (pe_op op_fdivW (pv 0) pe_int) pe_int)))
      (pss_cons (ps_set (i := 2) sc_mixed.nd rfl (by first | exact Or.inl rfl | exact Or.inr rfl) (pe_op op_mod (pe_op op_mul (pe_op op_add (pe_op op_add (pv 2) (pe_op op_mul pe_int (pv 1))) pe_int) pe_int) pe_int))
      (pss_cons (ps_set (i := 2) sc_mixed.nd rfl (by first | exact Or.inl rfl | exact Or.inr rfl) (pe_op op_mod (pe_op op_mul (pv 2) (pe_op op_add (pe_op op_add (pe_op op_fdiv (pv 2) pe_int) pe_int) (pv 1))) pe_int))
      (pss_one (ps_ret (pe_op op_mod (pe_op op_mul (pv 2) (pe_op op_add (pe_op op_fdiv (pv 2) pe_int) pe_int)) pe_int)))))), ?_⟩
  refine ⟨_, rfl, _, _, rfl, rfl, (by show (0 : Int) < 2147483563; decide), _, rfl, _, _, rfl, rfl, wide_div (b := 40) (by decide) (by decide) (by decide) (by decide), _, _, rfl, rfl, .inr ⟨by decide, by decide⟩, _, _, rfl, rfl, ?_⟩
  refine ⟨_, rfl, _, rfl, _, _, rfl, rfl, .inl ⟨by decide, by decide⟩, _, _, rfl, rfl, _, _, rfl, rfl, _, _, rfl, rfl, .inr ⟨by decide, by decide⟩, _, _, rfl, rfl, (by show (0 : Int) < 2147483563; decide), ?_⟩
  have m1 : ∀ a : Int, (0 : Int) ≤ a % 2147483563 ∧ a % 2147483563 < 2147483563 := fun a => ⟨Int.emod_nonneg a (by decide), Int.emod_lt_of_pos a (by decide)⟩
  have m2 : ∀ a : Int, (0 : Int) ≤ a % 2147483549 ∧ a % 2147483549 < 2147483549 := fun a => ⟨Int.emod_nonneg a (by decide), Int.emod_lt_of_pos a (by decide)⟩
  generalize hx : ((c % 2147483563 + c / 2147483563 * 40009 + 52711 * k + 1) * 39373) % 2147483563 = x
  have b1 := m1 ((c % 2147483563 + c / 2147483563 * 40009 + 52711 * k + 1) * 39373)
  rw [hx] at b1
  refine ⟨_, rfl, _, rfl, _, _, rfl, rfl, ⟨by decide, by decide⟩, _, _, rfl, rfl, _, rfl, _, _, rfl, rfl, _, _, rfl, rfl, .inl ⟨by omega, by omega⟩, _, _, rfl, rfl, (by show (0 : Int) < 2147483549; decide), ?_⟩
  generalize hy : (x * (x / 1019 + 20011 + k)) % 2147483549 = y
  have b2 := m2 (x * (x / 1019 + 20011 + k))
  rw [hy] at b2
  refine ⟨_, rfl, _, rfl, _, _, rfl, rfl, ⟨by decide, by decide⟩, _, _, rfl, rfl, _, _, rfl, rfl, .inl ⟨by omega, by omega⟩, _, _, rfl, rfl, (by show (0 : Int) < 2147483497; decide), ?_⟩
  exact q _
theorem ok_source (T : Txt K mg) : Ok P w K mg base CX0 "_law_source" s_source 1 ["_law_cell"] spSource := by
  refine T.h_source.ok sc_source (fun vs H Q E h => ?_) (fun f cdv A outer s H vs Q E hr h => ?_)
  · obtain ⟨c, rfl, _⟩ := h; rfl
  obtain ⟨c, rfl, q⟩ := h
  refine ⟨_, (pss_one (ps_ret (pe_lst (pa_cons (pv 0) (pa_cons (pv 0) (pa_cons pe_int pa_nil)))))), ?_⟩
  refine ⟨_, rfl, _, rfl, (by show 3 ≤ sizeLine; decide), fun p np => ?_⟩
  exact q p _ np ⟨c, c, 0, upd_same⟩ (same_upd np)
theorem ok_next (T : Txt K mg) : Ok P w K mg base CX0 "_law_next" s_next 2 ["_law_source_here", "_law_many"] spNext := by
  have O_mixed := ok_mixed (P := P) (w := w) (base := base) T
  refine T.h_next.ok sc_next (fun vs H Q E h => ?_) (fun f cdv A outer s H vs Q E hr h => ?_)
  · obtain ⟨p, m, rfl, _⟩ := h; rfl
  obtain ⟨p, m, rfl, m0, m1, ⟨a, b, c, hp⟩, q⟩ := h
  have sq : SqL K H p [.int a, .int b, .int c] := .of hp
  have a0 : atI [V.int a, V.int b, V.int c] 0 = some (.int a) := atI_nat (j := 0) rfl
  have a1 : atI [V.int a, V.int b, V.int c] 1 = some (.int b) := atI_nat (j := 1) rfl
  have a2 : atI [V.int a, V.int b, V.int c] 2 = some (.int c) := atI_nat (j := 2) rfl
  have hm : CDivW a m := wide_div (b := 100) m0 (by omega) (by decide) (by decide)
  refine ⟨_, (pss_cons (ps_if (pt_cmpR op_ge (pe_ix ix_list (pv 0) pe_int (fun _ _ => rfl)) (pe_op op_pow pe_int pe_int) (nomark _))
      (pss_cons (ps_set (i := 2) sc_next.nd rfl (by first | exact Or.inl rfl | exact Or.inr rfl) (pe_op op_mod (pe_ix ix_list (pv 0) pe_int (fun _ _ => rfl)) (pv 1)))
      (pss_cons (ps_asg (pe_op op_fdivW (pe_ix ix_list (pv 0) pe_int (fun _ _ => rfl)) (pv 1)) (pg_sub (pv 0) pe_int set_list))
      (pss_one (ps_ret (pv 2)))))
      pss_nil)
      (pss_cons (ps_asg (pe_op op_add (pe_ix ix_list (pv 0) pe_int (fun _ _ => rfl)) pe_int) (pg_sub (pv 0) pe_int set_list))
      (pss_one (ps_ret (pe_op op_mod (callO O_mixed (hr.mono (by decide)) (by rfl) (pa_cons (pe_ix ix_list (pv 0) pe_int (fun _ _ => rfl)) (pa_cons (pe_ix ix_list (pv 0) pe_int (fun _ _ => rfl)) pa_nil))) (pv 1)))))), ?_⟩
  refine ⟨_, rfl, _, _, _, _, rfl, rfl, sq, a0, _, _, rfl, rfl, ⟨by decide, by decide, by decide⟩, _, _, rfl, rfl, _, rfl, ite2 (fun _ => ?_) (fun _ => ?_)⟩
  · refine ⟨_, rfl, _, _, _, _, rfl, rfl, sq, a0, _, rfl, _, _, rfl, rfl, m0, _, rfl, _, _, _, _, rfl, rfl, sq, a0, _, rfl, _, _, rfl, rfl, hm, _, rfl, _, _, _, 0, rfl, rfl, hp, rfl, _, rfl, ?_⟩
    exact q _ _ (Int.emod_nonneg _ (by omega)) (Int.emod_lt_of_pos _ m0) ⟨_, _, _, upd_same⟩ off_upd
  · refine ⟨_, rfl, _, _, _, _, rfl, rfl, sq, a2, _, _, rfl, rfl, _, rfl, _, _, _, 2, rfl, rfl, hp, rfl, ?_⟩
    have hp2 : (upd H p (.lst [.int a, .int b, .int (c + 1)])) p = some (.lst [.int a, .int b, .int (c + 1)]) := upd_same
    have sq2 : SqL K (upd H p (.lst [.int a, .int b, .int (c + 1)])) p [.int a, .int b, .int (c + 1)] := .of hp2
    refine ⟨_, rfl, _, _, _, _, rfl, rfl, sq2, atI_nat (j := 1) rfl, _, rfl, _, _, _, _, rfl, rfl, sq2, atI_nat (j := 2) rfl, _, _, rfl, fun r => ?_⟩
    refine ⟨_, rfl, _, _, rfl, rfl, m0, ?_⟩
    exact q _ _ (Int.emod_nonneg _ (by omega)) (Int.emod_lt_of_pos _ m0) ⟨_, _, _, upd_same⟩ off_upd
end

/-! ### the cells that a law walks -/
theorem cells_it {K : PySem.W.Frag} {σ : L2.St} {H : Hp} {a : Addr} {ns : List Int} {n : Int} {R : It → Hp → Prop} (h0 : σ[0]? = some (some (.ref a))) (hS : SqL K H a (ns.map V.int)) (hl : ns.length ≤ 63)
    (k : ∀ (L : Addr) (zs : List Int) (HB : Hp), HB L = some (.lst (zs.map V.int)) → Same H HB → R (Itl K L) HB) :
    iList K (tOp rCat (tLst (tCons (tCall (spCellAt K) [] E0 (tCons (tVar 0) (tCons (tC (.int 0)) tNil))) tNil)) (tSl (rSlL K) (tVar 0) (tPart (tC (.int 1))) (tPart (tC (.int n))))) σ H R := by
  refine ⟨_, h0, a, ns, 0, rfl, hS, fun z0 => ⟨(by show 1 ≤ sizeLine; decide), fun p1 n1 => ?_⟩⟩
  obtain ⟨ms, hms, ecut⟩ := cut_ints ns (some 1) (some n)
  refine ⟨_, h0, 1, rfl, n, rfl, a, ns.map V.int, rfl, (same_upd n1).seq hS, fun p2 n2 => ?_⟩
  have g1 : (upd (upd H p1 (.lst [.int z0])) p2 (.lst (cutV (ns.map V.int) (some 1) (some n)))) p1 = some (.lst [.int z0]) := by
    rw [upd_ne (ne_of_none upd_same n2)]
    exact upd_same
  refine ⟨p1, p2, _, _, rfl, rfl, g1, upd_same, ?_, fun L nL => ?_⟩
  · rw [ecut, List.length_map]
    show 1 + ms.length ≤ sizeLine
    exact Nat.le_trans (by omega : 1 + ms.length ≤ 64) (by decide)
  have sB := (same_upd (o := .lst [.int z0]) n1).trans ((same_upd n2).trans (same_upd (o := .lst ([V.int z0] ++ cutV (ns.map V.int) (some 1) (some n))) nL))
  refine ⟨L, rfl, ⟨_, .of upd_same⟩, k L (z0 :: ms) _ ?_ sB⟩
  rw [upd_same, ecut]
  rfl
/-- what a for asks of the thing that it walks -/
def forR (g : TG) (tb : TS) (D : Ends) (σ : L2.St) (J : It) (H1 : Hp) : Prop :=
  ∃ W : Nat → Nat → L2.St → Hp → Prop, (∃ m, W 0 m σ H1) ∧ ∀ i m σ H, W i m σ H → (J.stop i H ∧ D.nx σ H) ∨
    (J.go i H ∧ ∃ N : L2.St → Hp → Prop, (∀ σ' H', N σ' H' → ∃ m', m' < m ∧ W (i + 1) m' σ' H') ∧ ∀ x H', J.yld i H x H' → g x σ H' fun σ2 H2 => tb { D with nx := N, ct := N, bk := D.nx } σ2 H2)
theorem cells_for {K : PySem.W.Frag} {σ : L2.St} {H : Hp} {a : Addr} {ns : List Int} {n : Int} {g : TG} {tb u : TS} {D : Ends} (h0 : σ[0]? = some (some (.ref a))) (hS : SqL K H a (ns.map V.int)) (hl : ns.length ≤ 63)
    (k : ∀ (L : Addr) (zs : List Int) (HB : Hp), HB L = some (.lst (zs.map V.int)) → Same H HB → forR g tb { D with nx := u D } σ (Itl K L) HB) :
    tSeq (tFor (iList K (tOp rCat (tLst (tCons (tCall (spCellAt K) [] E0 (tCons (tVar 0) (tCons (tC (.int 0)) tNil))) tNil)) (tSl (rSlL K) (tVar 0) (tPart (tC (.int 1))) (tPart (tC (.int n)))))) g tb) u D σ H :=
  cells_it (R := forR g tb { D with nx := u D } σ) h0 hS hl k

/-! ### levels: pairs of a limit and a weight -/
abbrev Pr := Option Int × Int
def lim (x : Pr) : Int := x.1.getD 0
def sumW (l : List Pr) : Int := (l.map fun x => x.2).sum
def sumL (l : List Pr) : Int := (l.map lim).sum
def bnd : Bool → Pr → Int → Int → Bool
  | true, (none, _), _, _ => false
  | true, (some c, w), top, bot => decide (c * bot ≤ top * w)
  | false, (c, w), top, bot => decide (top * w ≤ c.getD 0 * bot)
theorem bnd_cap {x : Pr} {top bot : Int} (h : bnd true x top bot = true) : x.1 ≠ none ∧ lim x * bot ≤ top * x.2 := by
  obtain ⟨c, w⟩ := x
  cases c with
  | none => cases h
  | some c => exact ⟨by simp, of_decide_eq_true h⟩
theorem bnd_cap_of {x : Pr} {top bot : Int} (h1 : x.1 ≠ none) (h : lim x * bot ≤ top * x.2) : bnd true x top bot = true := by
  obtain ⟨c, w⟩ := x
  cases c with
  | none => exact absurd rfl h1
  | some c => exact decide_eq_true h
theorem bnd_flo {x : Pr} {top bot : Int} (h : bnd false x top bot = true) : top * x.2 ≤ lim x * bot := of_decide_eq_true h
theorem bnd_flo_of {x : Pr} {top bot : Int} (h : top * x.2 ≤ lim x * bot) : bnd false x top bot = true := decide_eq_true h
theorem sum_split (f : Pr → Int) (p b : Pr → Bool) : ∀ l : List Pr, ((l.filter p).map f).sum = ((l.filter fun x => p x && b x).map f).sum + ((l.filter fun x => p x && !b x).map f).sum
  | [] => rfl
  | x :: r => by
    have ih := sum_split f p b r
    cases hp : p x <;> cases hb : b x <;> simp [List.filter_cons, hp, hb] <;> omega
theorem sum_split1 (f : Pr → Int) (p : Pr → Bool) : ∀ l : List Pr, (l.map f).sum = ((l.filter p).map f).sum + ((l.filter fun x => !p x).map f).sum
  | [] => rfl
  | x :: r => by
    have ih := sum_split1 f p r
    cases hp : p x <;> simp [List.filter_cons, hp] <;> omega
theorem sum_nonneg {α : Type} (f : α → Int) : ∀ (l : List α), (∀ x ∈ l, 0 ≤ f x) → 0 ≤ (l.map f).sum
  | [], _ => by simp
  | x :: r, h => by
    have h1 := h x List.mem_cons_self
    have h2 := sum_nonneg f r fun y hy => h y (List.mem_cons_of_mem _ hy)
    simp only [List.map_cons, List.sum_cons]
    omega
/-- Σ a · W ≤ room · Σ w, from each one -/
theorem sum_mul_le (a b : Pr → Int) (u v : Int) : ∀ (l : List Pr), (∀ x ∈ l, a x * u ≤ v * b x) → (l.map a).sum * u ≤ v * (l.map b).sum
  | [], _ => by simp
  | x :: r, h => by
    have h1 := h x List.mem_cons_self
    have h2 := sum_mul_le a b u v r fun y hy => h y (List.mem_cons_of_mem _ hy)
    simp only [List.map_cons, List.sum_cons]
    rw [Int.add_mul, Int.mul_add]
    omega
theorem sum_mul_ge (a b : Pr → Int) (u v : Int) : ∀ (l : List Pr), (∀ x ∈ l, v * b x ≤ a x * u) → v * (l.map b).sum ≤ (l.map a).sum * u
  | [], _ => by simp
  | x :: r, h => by
    have h1 := h x List.mem_cons_self
    have h2 := sum_mul_ge a b u v r fun y hy => h y (List.mem_cons_of_mem _ hy)
    simp only [List.map_cons, List.sum_cons]
    rw [Int.add_mul, Int.mul_add]
    omega
structure Good (ps : List Pr) : Prop where
  w0 : ∀ x ∈ ps, 0 ≤ x.2
  l0 : ∀ x ∈ ps, 0 ≤ lim x
structure Lev (cap : Bool) (total : Int) (ps : List Pr) (p : Pr → Bool) (room W : Int) : Prop where
  pos : ∀ x ∈ ps, p x = true → 0 < x.2
  eW : W = sumW (ps.filter p)
  eR : room = total - sumL (ps.filter fun x => !p x)
  w0 : 0 < W
  r0 : 0 ≤ room
  stay : ∀ x ∈ ps, 0 < x.2 → p x = false → bnd cap x room W = true
  known : ∀ x ∈ ps, p x = false → x.1 ≠ none
  over : if cap = true then (∃ x ∈ ps, p x = true ∧ x.1 = none) ∨ room < sumL (ps.filter p) else (∀ x ∈ ps, x.1 ≠ none) ∧ sumL (ps.filter p) < room
theorem filter_pos {ps : List Pr} {p : Pr → Bool} (h : ∀ x ∈ ps, p x = true → 0 < x.2) (hn : ∃ x ∈ ps, p x = true) : 0 < sumW (ps.filter p) := by
  obtain ⟨x, hx, px⟩ := hn
  have hm : x ∈ ps.filter p := List.mem_filter.mpr ⟨hx, px⟩
  obtain ⟨s, t, e⟩ := List.append_of_mem hm
  unfold sumW
  rw [e, List.map_append, List.sum_append, List.map_cons, List.sum_cons]
  have hx := h x hx px
  have hall : ∀ y ∈ ps.filter p, 0 ≤ y.2 := fun y hy => by
    have := h y (List.mem_filter.mp hy).1 (List.mem_filter.mp hy).2
    omega
  rw [e] at hall
  have h1 := sum_nonneg (fun x : Pr => x.2) s fun y hy => hall y (List.mem_append_left _ hy)
  have h2 := sum_nonneg (fun x : Pr => x.2) t fun y hy => hall y (List.mem_append_right _ (List.mem_cons_of_mem _ hy))
  omega
theorem none_free {ps : List Pr} {p : Pr → Bool} (h : ¬ ∃ x ∈ ps, p x = true) : ps.filter p = [] := by
  rw [List.filter_eq_nil_iff]
  intro x hx px
  exact h ⟨x, hx, px⟩
section
variable {total : Int} {ps : List Pr} {p : Pr → Bool} {room W : Int}
theorem split_not (f : Pr → Int) (b : Pr → Bool) : ((ps.filter fun x => !(p x && !b x)).map f).sum = ((ps.filter fun x => !p x).map f).sum + ((ps.filter fun x => p x && b x).map f).sum := by
  have h1 := sum_split1 f p ps
  have h2 := sum_split1 f (fun x => p x && !b x) ps
  have h3 := sum_split f p b ps
  omega
theorem Lev.step {cap : Bool} (g : Good ps) (h : Lev cap total ps p room W) :
    Lev cap total ps (fun x => p x && !bnd cap x room W) (room - sumL (ps.filter fun x => p x && bnd cap x room W)) (W - sumW (ps.filter fun x => p x && bnd cap x room W)) := by
  have eW := h.eW
  have eR := h.eR
  have hw := h.w0
  have hr := h.r0
  have sW := sum_split (fun x => x.2) p (fun x => bnd cap x room W) ps
  have sL := sum_split lim p (fun x => bnd cap x room W) ps
  have nL := split_not (ps := ps) (p := p) lim (fun x => bnd cap x room W)
  have gW1 := sum_nonneg (fun x : Pr => x.2) (ps.filter fun x => p x && bnd cap x room W) fun x hx => g.w0 x (List.mem_filter.mp hx).1
  have gL1 := sum_nonneg lim (ps.filter fun x => p x && bnd cap x room W) fun x hx => g.l0 x (List.mem_filter.mp hx).1
  have gL2 := sum_nonneg lim (ps.filter fun x => p x && !bnd cap x room W) fun x hx => g.l0 x (List.mem_filter.mp hx).1
  have pos2 : ∀ x ∈ ps, (p x && !bnd cap x room W) = true → 0 < x.2 := fun x hx px => h.pos x hx (by simp at px; exact px.1)
  generalize hq : (ps.filter fun x => p x && bnd cap x room W) = q at sW sL nL gW1 gL1 ⊢
  have hqm : ∀ x ∈ q, x ∈ ps ∧ p x = true ∧ bnd cap x room W = true := fun x hx => by
    rw [← hq] at hx
    have h1 := List.mem_filter.mp hx
    have h2 := h1.2
    simp at h2
    exact ⟨h1.1, h2.1, h2.2⟩
  generalize hf : (ps.filter fun x => p x && !bnd cap x room W) = f at sW sL gL2
  have nf : f = [] ∨ 0 < sumW f := by
    by_cases hn : ∃ x ∈ ps, (p x && !bnd cap x room W) = true
    · right
      rw [← hf]
      exact filter_pos pos2 hn
    · left
      rw [← hf]
      exact none_free hn
  have eW2 : W - sumW q = sumW f := by
    unfold sumW at eW ⊢
    omega
  have eR2 : room - sumL q = total - sumL (ps.filter fun x => !(p x && !bnd cap x room W)) := by
    unfold sumL at eR ⊢
    omega
  have kn : ∀ x ∈ ps, (p x && !bnd cap x room W) = false → x.1 ≠ none := fun x hx hp => by
    cases cap with
    | false => exact (by simpa using h.over : (∀ x ∈ ps, x.1 ≠ none) ∧ _).1 x hx
    | true =>
      cases e : p x with
      | false => exact h.known x hx e
      | true =>
        rw [e] at hp
        have h1 : bnd true x room W = true := by
          cases e3 : bnd true x room W with
          | true => rfl
          | false => rw [e3] at hp; cases hp
        exact (bnd_cap h1).1
  cases cap with
  | true =>
    have key : sumL q * W ≤ room * sumW q := sum_mul_le lim (fun x => x.2) W room q fun x hx => (bnd_cap (hqm x hx).2.2).2
    have hqW : sumW q ≤ W := by
      rcases nf with h0 | h0
      · rw [h0] at eW2
        have : sumW [] = 0 := rfl
        omega
      · omega
    have hLr : sumL q ≤ room := by
      have h1 : room * sumW q ≤ room * W := Int.mul_le_mul_of_nonneg_left hqW hr
      exact Int.le_of_mul_le_mul_right (Int.le_trans key h1) hw
    have ov : (∃ x ∈ ps, (p x && !bnd true x room W) = true ∧ x.1 = none) ∨ room - sumL q < sumL f := by
      have := h.over
      simp only [if_true] at this
      rcases this with ⟨x, hx, px, nx⟩ | h1
      · left
        refine ⟨x, hx, ?_, nx⟩
        rw [px]
        obtain ⟨c, w⟩ := x
        simp only at nx
        subst nx
        rfl
      · right
        unfold sumL at h1 ⊢
        omega
    have w2 : 0 < W - sumW q := by
      rcases nf with h0 | h0
      · exfalso
        rcases ov with ⟨x, hx, px, _⟩ | h1
        · have : x ∈ f := by
            rw [← hf]
            exact List.mem_filter.mpr ⟨hx, px⟩
          rw [h0] at this
          cases this
        · rw [h0] at h1
          have : sumL [] = 0 := rfl
          omega
      · omega
    refine ⟨pos2, by rw [eW2, hf], eR2, w2, by omega, ?_, kn, ?_⟩
    · intro x hx hx0 hp
      have hk := kn x hx hp
      have h1 : lim x * W ≤ room * x.2 := by
        cases e : p x with
        | false => exact (bnd_cap (h.stay x hx hx0 e)).2
        | true =>
          rw [e] at hp
          have h1 : bnd true x room W = true := by
            cases e3 : bnd true x room W with
            | true => rfl
            | false => rw [e3] at hp; cases hp
          exact (bnd_cap h1).2
      refine bnd_cap_of hk ?_
      have h2 : room * (W - sumW q) ≤ (room - sumL q) * W := by
        rw [Int.mul_sub, Int.sub_mul]
        omega
      have h3 : lim x * W * (W - sumW q) ≤ room * x.2 * (W - sumW q) := Int.mul_le_mul_of_nonneg_right h1 (by omega)
      have h4 : x.2 * (room * (W - sumW q)) ≤ x.2 * ((room - sumL q) * W) := Int.mul_le_mul_of_nonneg_left h2 (by omega)
      have e1 : lim x * W * (W - sumW q) = lim x * (W - sumW q) * W := by
        rw [Int.mul_assoc, Int.mul_comm W, ← Int.mul_assoc]
      have e2 : room * x.2 * (W - sumW q) = x.2 * (room * (W - sumW q)) := by
        rw [Int.mul_comm room x.2, Int.mul_assoc]
      have e3 : x.2 * ((room - sumL q) * W) = (room - sumL q) * x.2 * W := by
        rw [← Int.mul_assoc, Int.mul_comm x.2]
      rw [e1, e2] at h3
      rw [e3] at h4
      exact Int.le_of_mul_le_mul_right (Int.le_trans h3 h4) hw
    · rw [if_pos rfl, hf]
      exact ov
  | false =>
    have ov0 : (∀ x ∈ ps, x.1 ≠ none) ∧ sumL (ps.filter p) < room := by simpa using h.over
    have key : room * sumW q ≤ sumL q * W := sum_mul_ge lim (fun x => x.2) W room q fun x hx => bnd_flo (hqm x hx).2.2
    have ov : sumL f < room - sumL q := by
      have := ov0.2
      unfold sumL at this ⊢
      omega
    have w2 : 0 < W - sumW q := by
      rcases nf with h0 | h0
      · exfalso
        rw [h0] at ov eW2
        have z1 : sumL [] = 0 := rfl
        have z2 : sumW [] = 0 := rfl
        have : sumW q = W := by omega
        rw [this] at key
        have := Int.le_of_mul_le_mul_right key hw
        omega
      · omega
    have r2 : 0 ≤ room - sumL q := by
      unfold sumL at ov ⊢
      omega
    refine ⟨pos2, by rw [eW2, hf], eR2, w2, r2, ?_, kn, ?_⟩
    · intro x hx hx0 hp
      have h1 : room * x.2 ≤ lim x * W := by
        cases e : p x with
        | false => exact bnd_flo (h.stay x hx hx0 e)
        | true =>
          rw [e] at hp
          have h1 : bnd false x room W = true := by
            cases e3 : bnd false x room W with
            | true => rfl
            | false => rw [e3] at hp; cases hp
          exact bnd_flo h1
      refine bnd_flo_of ?_
      have h2 : (room - sumL q) * W ≤ room * (W - sumW q) := by
        rw [Int.mul_sub, Int.sub_mul]
        omega
      have h3 : room * x.2 * (W - sumW q) ≤ lim x * W * (W - sumW q) := Int.mul_le_mul_of_nonneg_right h1 (by omega)
      have h4 : x.2 * ((room - sumL q) * W) ≤ x.2 * (room * (W - sumW q)) := Int.mul_le_mul_of_nonneg_left h2 (by omega)
      have e1 : lim x * W * (W - sumW q) = lim x * (W - sumW q) * W := by
        rw [Int.mul_assoc, Int.mul_comm W, ← Int.mul_assoc]
      have e2 : room * x.2 * (W - sumW q) = x.2 * (room * (W - sumW q)) := by
        rw [Int.mul_comm room x.2, Int.mul_assoc]
      have e3 : x.2 * ((room - sumL q) * W) = (room - sumL q) * x.2 * W := by
        rw [← Int.mul_assoc, Int.mul_comm x.2]
      rw [e1, e2] at h3
      rw [e3] at h4
      exact Int.le_of_mul_le_mul_right (Int.le_trans h4 h3) hw
    · rw [if_neg (by decide), hf]
      exact ⟨ov0.1, ov⟩
end
/-- who gets level times weight -/
def free (cap : Bool) (room W : Int) (x : Pr) : Bool := decide (0 < x.2) && !bnd cap x room W
structure Fix (cap : Bool) (total : Int) (ps : List Pr) (room W : Int) : Prop where
  eW : W = sumW (ps.filter (free cap room W))
  eR : room = total - sumL (ps.filter fun x => !free cap room W x)
  w0 : 0 < W
  r0 : 0 ≤ room
  known : ∀ x ∈ ps, free cap room W x = false → x.1 ≠ none
theorem Lev.same {cap : Bool} {total : Int} {ps : List Pr} {p : Pr → Bool} {room W : Int} (h : Lev cap total ps p room W) (hn : ∀ x ∈ ps, p x = true → bnd cap x room W = false) : ∀ x ∈ ps, p x = free cap room W x := fun x hx => by
  unfold free
  cases e : p x with
  | true => rw [hn x hx e, decide_eq_true (h.pos x hx e)]; rfl
  | false =>
    by_cases h0 : 0 < x.2
    · rw [h.stay x hx h0 e, decide_eq_true h0]
      rfl
    · rw [decide_eq_false h0]
      rfl
theorem Lev.fix {cap : Bool} {total : Int} {ps : List Pr} {p : Pr → Bool} {room W : Int} (h : Lev cap total ps p room W) (hn : ∀ x ∈ ps, p x = true → bnd cap x room W = false) : Fix cap total ps room W := by
  have hs := h.same hn
  have e1 : ps.filter p = ps.filter (free cap room W) := List.filter_congr hs
  have e2 : (ps.filter fun x => !p x) = ps.filter fun x => !free cap room W x := List.filter_congr fun x hx => by rw [hs x hx]
  exact ⟨by rw [← e1]; exact h.eW, by rw [← e2]; exact h.eR, h.w0, h.r0, fun x hx hp => h.known x hx (by rw [hs x hx]; exact hp)⟩
/-- the parts -/
def runs (room W : Int) : Int → List Int → List Int
  | _, [] => []
  | cum, w :: r => (room * (cum + w) / W - room * cum / W) :: runs room W (cum + w) r
theorem runs_snoc (room W : Int) : ∀ (l : List Int) (cum w : Int), runs room W cum (l ++ [w]) = runs room W cum l ++ [room * (cum + l.sum + w) / W - room * (cum + l.sum) / W]
  | [], cum, w => by simp [runs]
  | v :: r, cum, w => by
    show _ :: runs room W (cum + v) (r ++ [w]) = _ :: (runs room W (cum + v) r ++ _)
    rw [runs_snoc room W r (cum + v) w, List.sum_cons, Int.add_assoc cum v]
theorem runs_len (room W : Int) : ∀ (l : List Int) (cum : Int), (runs room W cum l).length = l.length
  | [], _ => rfl
  | v :: r, cum => by
    show (runs room W (cum + v) r).length + 1 = _
    rw [runs_len room W r]
    rfl
def runP (room W : Int) (f : Pr → Bool) : Int → List Pr → List Int
  | _, [] => []
  | cum, x :: r => if f x = true then (room * (cum + x.2) / W - room * cum / W) :: runP room W f (cum + x.2) r else lim x :: runP room W f cum r
def setAll {α : Type} : List α → List (Nat × α) → List α
  | l, [] => l
  | l, (i, v) :: r => setAll (l.set i v) r
theorem setAll_snoc {α : Type} : ∀ (q : List (Nat × α)) (l : List α) (i : Nat) (v : α), setAll l (q ++ [(i, v)]) = (setAll l q).set i v
  | [], _, _, _ => rfl
  | (j, u) :: r, l, i, v => setAll_snoc r (l.set j u) i v
theorem setAll_len {α : Type} : ∀ (q : List (Nat × α)) (l : List α), (setAll l q).length = l.length
  | [], _ => rfl
  | (j, u) :: r, l => by
    show (setAll (l.set j u) r).length = _
    rw [setAll_len r]
    simp
theorem setAll_run {α : Type} (room W : Int) (f : Pr → Bool) (e : Int → α) (o : Pr → α) : ∀ (ps : List Pr) (pre : List α) (cum : Int), (∀ x ∈ ps, f x = false → o x = e (lim x)) →
    setAll (pre ++ ps.map o) ((((ps.zipIdx pre.length).filter fun x => f x.1).map fun x => x.2).zip ((runs room W cum (((ps.zipIdx pre.length).filter fun x => f x.1).map fun x => x.1.2)).map e)) = pre ++ (runP room W f cum ps).map e
  | [], pre, cum, _ => rfl
  | x :: r, pre, cum, h => by
    have hr : ∀ y ∈ r, f y = false → o y = e (lim y) := fun y hy => h y (List.mem_cons_of_mem _ hy)
    rw [List.zipIdx_cons]
    cases hf : f x with
    | true =>
      have ih := setAll_run room W f e o r (pre ++ [e (room * (cum + x.2) / W - room * cum / W)]) (cum + x.2) hr
      rw [List.length_append, List.length_singleton] at ih
      rw [List.filter_cons_of_pos (by exact hf)]
      show setAll ((pre ++ (o x :: r.map o)).set pre.length _) _ = _
      have es : ∀ v : α, (pre ++ (o x :: r.map o)).set pre.length v = pre ++ (v :: r.map o) := fun v => by simp
      rw [es]
      unfold runP
      rw [if_pos hf, List.map_cons]
      rw [List.append_assoc, List.append_assoc] at ih
      exact ih
    | false =>
      have ih := setAll_run room W f e o r (pre ++ [e (lim x)]) cum hr
      rw [List.length_append, List.length_singleton] at ih
      rw [List.filter_cons_of_neg (by rw [hf]; decide)]
      unfold runP
      rw [if_neg (by rw [hf]; decide), List.map_cons, List.map_cons, h x List.mem_cons_self hf]
      rw [List.append_assoc, List.append_assoc] at ih
      exact ih

/-! ### one level and no other -/
def val (cap : Bool) (top bot : Int) (x : Pr) : Int := if free cap top bot x = true then top * x.2 else lim x * bot
structure Val (cap : Bool) (total : Int) (ls : List Pr) (top bot : Int) : Prop where
  b0 : 0 < bot
  t0 : 0 ≤ top
  sum : (ls.map (val cap top bot)).sum = total * bot
  fr : ∃ x ∈ ls, free cap top bot x = true
theorem free_iff {cap : Bool} {top bot : Int} {x : Pr} : free cap top bot x = true ↔ 0 < x.2 ∧ bnd cap x top bot = false := by
  unfold free
  rw [Bool.and_eq_true, decide_eq_true_eq, Bool.not_eq_true']
theorem sum_val (cap : Bool) (top bot : Int) : ∀ ls : List Pr, (ls.map (val cap top bot)).sum = top * sumW (ls.filter (free cap top bot)) + sumL (ls.filter fun x => !free cap top bot x) * bot
  | [] => by simp [sumW, sumL]
  | x :: r => by
    rw [List.map_cons, List.sum_cons, sum_val cap top bot r, List.filter_cons, List.filter_cons]
    unfold val sumW sumL
    cases h : free cap top bot x with
    | true =>
      simp only [if_true, Bool.not_true, Bool.false_eq_true, if_false, List.map_cons, List.sum_cons]
      rw [Int.mul_add]
      omega
    | false =>
      simp only [if_true, Bool.not_false, Bool.false_eq_true, if_false, List.map_cons, List.sum_cons]
      rw [Int.add_mul]
      omega
theorem Fix.val {cap : Bool} {total : Int} {ls : List Pr} {room W : Int} (h : Fix cap total ls room W) : Val cap total ls room W := by
  refine ⟨h.w0, h.r0, ?_, ?_⟩
  · rw [sum_val, ← h.eW]
    have e := h.eR
    generalize sumL (ls.filter fun x => !free cap room W x) = z at e
    rw [e, Int.sub_mul]
    omega
  · refine Classical.byContradiction fun hn => ?_
    have e := h.eW
    rw [none_free hn] at e
    have := h.w0
    have z : sumW [] = 0 := rfl
    omega
theorem sum_le_lt (f g : Pr → Int) : ∀ ls : List Pr, (∀ x ∈ ls, f x ≤ g x) → (ls.map f).sum ≤ (ls.map g).sum
  | [], _ => Int.le_refl _
  | x :: r, h => by
    have h1 := h x List.mem_cons_self
    have h2 := sum_le_lt f g r fun y hy => h y (List.mem_cons_of_mem _ hy)
    simp only [List.map_cons, List.sum_cons]
    omega
theorem sum_lt (f g : Pr → Int) {ls : List Pr} (h : ∀ x ∈ ls, f x ≤ g x) (hx : ∃ x ∈ ls, f x < g x) : (ls.map f).sum < (ls.map g).sum := by
  obtain ⟨x, hx, hlt⟩ := hx
  obtain ⟨s, t, e⟩ := List.append_of_mem hx
  rw [e] at h ⊢
  have h1 := sum_le_lt f g s fun y hy => h y (List.mem_append_left _ hy)
  have h2 := sum_le_lt f g t fun y hy => h y (List.mem_append_right _ (List.mem_cons_of_mem _ hy))
  rw [List.map_append, List.map_append, List.sum_append, List.sum_append, List.map_cons, List.map_cons, List.sum_cons, List.sum_cons]
  omega
theorem sum_mulr (f : Pr → Int) (k : Int) : ∀ ls : List Pr, (ls.map fun x => f x * k).sum = (ls.map f).sum * k
  | [] => by simp
  | x :: r => by
    rw [List.map_cons, List.map_cons, List.sum_cons, List.sum_cons, sum_mulr f k r, Int.add_mul]
theorem not_bnd_cap {x : Pr} {top bot : Int} (h : bnd true x top bot = false) (hk : x.1 ≠ none) : top * x.2 < lim x * bot := by
  refine Int.not_le.mp fun z => ?_
  rw [bnd_cap_of hk z] at h
  cases h
theorem not_bnd_flo {x : Pr} {top bot : Int} (h : bnd false x top bot = false) : lim x * bot < top * x.2 := by
  refine Int.not_le.mp fun z => ?_
  rw [bnd_flo_of z] at h
  cases h
theorem not_free_bnd {cap : Bool} {top bot : Int} {x : Pr} (hx : 0 < x.2) (h : free cap top bot x = false) : bnd cap x top bot = true := by
  cases e : bnd cap x top bot with
  | true => rfl
  | false => rw [free_iff.mpr ⟨hx, e⟩] at h; cases h
theorem Val.not_lt {cap : Bool} {total : Int} {ls : List Pr} {r1 w1 r2 w2 : Int} (h1 : Val cap total ls r1 w1) (h2 : Val cap total ls r2 w2) : ¬ r1 * w2 < r2 * w1 := by
  intro hlt
  have p1 := h1.b0
  have p2 := h2.b0
  have key : ∀ x ∈ ls, val cap r1 w1 x * w2 ≤ val cap r2 w2 x * w1 ∧ ((if cap = true then free cap r1 w1 x = true else free cap r2 w2 x = true) → val cap r1 w1 x * w2 < val cap r2 w2 x * w1) := fun x _ => by
    have c1 : r1 * x.2 * w2 = r1 * w2 * x.2 := by rw [Int.mul_assoc, Int.mul_comm x.2, ← Int.mul_assoc]
    have c2 : r2 * x.2 * w1 = r2 * w1 * x.2 := by rw [Int.mul_assoc, Int.mul_comm x.2, ← Int.mul_assoc]
    have c3 : lim x * w1 * w2 = lim x * w2 * w1 := by rw [Int.mul_assoc, Int.mul_comm w1, ← Int.mul_assoc]
    unfold val
    cases e1 : free cap r1 w1 x with
    | true =>
      obtain ⟨x0, b1⟩ := free_iff.mp e1
      have g1 : r1 * w2 * x.2 < r2 * w1 * x.2 := Int.mul_lt_mul_of_pos_right hlt x0
      cases e2 : free cap r2 w2 x with
      | true =>
        simp only [if_true]
        rw [c1, c2]
        exact ⟨by omega, fun _ => g1⟩
      | false =>
        have b2 := not_free_bnd x0 e2
        simp only [if_true, Bool.false_eq_true, if_false]
        cases cap with
        | true =>
          have hk := bnd_cap b2
          have g3 := Int.mul_lt_mul_of_pos_right (not_bnd_cap b1 hk.1) p2
          rw [c3] at g3
          exact ⟨by omega, fun _ => g3⟩
        | false =>
          have g3 := Int.mul_le_mul_of_nonneg_right (bnd_flo b2) (Int.le_of_lt p1)
          rw [c2] at g3
          rw [c1]
          exact ⟨by omega, fun z => by simp at z⟩
    | false =>
      cases e2 : free cap r2 w2 x with
      | true =>
        obtain ⟨x0, b2⟩ := free_iff.mp e2
        have g1 : r1 * w2 * x.2 < r2 * w1 * x.2 := Int.mul_lt_mul_of_pos_right hlt x0
        have b1 := not_free_bnd x0 e1
        simp only [if_true, Bool.false_eq_true, if_false]
        cases cap with
        | true =>
          have g3 := Int.mul_le_mul_of_nonneg_right (bnd_cap b1).2 (Int.le_of_lt p2)
          rw [c1] at g3
          rw [c2]
          exact ⟨by omega, fun z => by simp at z⟩
        | false =>
          have g3 := Int.mul_lt_mul_of_pos_right (not_bnd_flo b2) p1
          rw [← c3] at g3
          exact ⟨by omega, fun _ => g3⟩
      | false =>
        simp only [Bool.false_eq_true, if_false]
        rw [c3]
        exact ⟨Int.le_refl _, fun z => by cases cap <;> simp at z⟩
  have hex : ∃ x ∈ ls, val cap r1 w1 x * w2 < val cap r2 w2 x * w1 := by
    cases cap with
    | true =>
      obtain ⟨x, hx, e⟩ := h1.fr
      exact ⟨x, hx, (key x hx).2 (by simpa using e)⟩
    | false =>
      obtain ⟨x, hx, e⟩ := h2.fr
      exact ⟨x, hx, (key x hx).2 (by simpa using e)⟩
  have hs := sum_lt (fun x => val cap r1 w1 x * w2) (fun x => val cap r2 w2 x * w1) (fun x hx => (key x hx).1) hex
  rw [sum_mulr, sum_mulr, h1.sum, h2.sum, Int.mul_assoc, Int.mul_assoc, Int.mul_comm w1] at hs
  omega
theorem Val.unique {cap : Bool} {total : Int} {ls : List Pr} {r1 w1 r2 w2 : Int} (h1 : Val cap total ls r1 w1) (h2 : Val cap total ls r2 w2) : r1 * w2 = r2 * w1 := by
  have a := h1.not_lt h2
  have b := h2.not_lt h1
  omega
theorem bnd_same {cap : Bool} {r1 w1 r2 w2 : Int} (p1 : 0 < w1) (p2 : 0 < w2) (h : r1 * w2 = r2 * w1) (x : Pr) : bnd cap x r1 w1 = bnd cap x r2 w2 := by
  have c1 : r1 * x.2 * w2 = r1 * w2 * x.2 := by rw [Int.mul_assoc, Int.mul_comm x.2, ← Int.mul_assoc]
  have c2 : r2 * x.2 * w1 = r2 * w1 * x.2 := by rw [Int.mul_assoc, Int.mul_comm x.2, ← Int.mul_assoc]
  have c3 : lim x * w1 * w2 = lim x * w2 * w1 := by rw [Int.mul_assoc, Int.mul_comm w1, ← Int.mul_assoc]
  have k1 : lim x * w1 ≤ r1 * x.2 ↔ lim x * w2 ≤ r2 * x.2 := by
    constructor
    · intro a
      have := Int.mul_le_mul_of_nonneg_right a (Int.le_of_lt p2)
      rw [c1, h, ← c2, c3] at this
      exact Int.le_of_mul_le_mul_right this p1
    · intro a
      have := Int.mul_le_mul_of_nonneg_right a (Int.le_of_lt p1)
      rw [c2, ← h, ← c1, ← c3] at this
      exact Int.le_of_mul_le_mul_right this p2
  have k2 : r1 * x.2 ≤ lim x * w1 ↔ r2 * x.2 ≤ lim x * w2 := by
    constructor
    · intro a
      have := Int.mul_le_mul_of_nonneg_right a (Int.le_of_lt p2)
      rw [c1, h, ← c2, c3] at this
      exact Int.le_of_mul_le_mul_right this p1
    · intro a
      have := Int.mul_le_mul_of_nonneg_right a (Int.le_of_lt p1)
      rw [c2, ← h, ← c1, ← c3] at this
      exact Int.le_of_mul_le_mul_right this p2
  obtain ⟨c, w⟩ := x
  cases cap with
  | true =>
    cases c with
    | none => rfl
    | some c => exact decide_eq_decide.mpr k1
  | false => exact decide_eq_decide.mpr k2
theorem free_same {cap : Bool} {r1 w1 r2 w2 : Int} (p1 : 0 < w1) (p2 : 0 < w2) (h : r1 * w2 = r2 * w1) (x : Pr) : free cap r1 w1 x = free cap r2 w2 x := by
  unfold free
  rw [bnd_same p1 p2 h]
def low (room W : Int) : Int × Int := (((room.toNat / Nat.gcd room.toNat W.toNat : Nat) : Int), ((W.toNat / Nat.gcd room.toNat W.toNat : Nat) : Int))
theorem low_nat {r w t b : Nat} (h : r * b = t * w) (hg : Nat.gcd t b = 1) (hb : 0 < b) (hw : 0 < w) : r / Nat.gcd r w = t ∧ w / Nat.gcd r w = b := by
  have hd : b ∣ w := by
    have h1 : b ∣ t * w := ⟨r, by rw [← h, Nat.mul_comm]⟩
    exact Nat.Coprime.dvd_of_dvd_mul_left (Nat.Coprime.symm hg) h1
  obtain ⟨k, rfl⟩ := hd
  have hk : 0 < k := Nat.pos_of_mul_pos_left hw
  have hr : r = t * k := by
    have : r * b = t * k * b := by rw [h, Nat.mul_comm b k, Nat.mul_assoc]
    exact Nat.eq_of_mul_eq_mul_right hb this
  subst hr
  rw [Nat.gcd_mul_right, hg, Nat.one_mul]
  exact ⟨Nat.mul_div_cancel _ hk, Nat.mul_div_cancel _ hk⟩
theorem low_of {room W : Int} {t b : Nat} (h : room * (b : Int) = (t : Int) * W) (hg : Nat.gcd t b = 1) (hb : 0 < b) (hw : 0 < W) (hr : 0 ≤ room) : low room W = ((t : Int), (b : Int)) := by
  have e1 : (room.toNat : Int) = room := Int.toNat_of_nonneg hr
  have e2 : (W.toNat : Int) = W := Int.toNat_of_nonneg (Int.le_of_lt hw)
  have h2 : room.toNat * b = t * W.toNat := by
    have : ((room.toNat * b : Nat) : Int) = ((t * W.toNat : Nat) : Int) := by
      rw [Int.natCast_mul, Int.natCast_mul, e1, e2]
      exact h
    exact Int.ofNat.inj this
  obtain ⟨a1, a2⟩ := low_nat h2 hg hb (by omega)
  unfold low
  rw [a1, a2]
theorem low_pos {room W : Int} (hw : 0 < W) (hr : 0 ≤ room) : ∃ t b : Nat, low room W = ((t : Int), (b : Int)) ∧ Nat.gcd t b = 1 ∧ 0 < b ∧ room * (b : Int) = (t : Int) * W := by
  have e1 : (room.toNat : Int) = room := Int.toNat_of_nonneg hr
  have e2 : (W.toNat : Int) = W := Int.toNat_of_nonneg (Int.le_of_lt hw)
  have g0 : 0 < Nat.gcd room.toNat W.toNat := Nat.gcd_pos_of_pos_right _ (by omega)
  refine ⟨_, _, rfl, ?_, ?_, ?_⟩
  · exact Nat.gcd_div_gcd_div_gcd_of_pos_right (by omega)
  · exact Nat.div_pos (Nat.le_of_dvd (by omega) (Nat.gcd_dvd_right _ _)) g0
  · obtain ⟨k, hk⟩ := Nat.gcd_dvd_left room.toNat W.toNat
    obtain ⟨j, hj⟩ := Nat.gcd_dvd_right room.toNat W.toNat
    have d1 : room.toNat / Nat.gcd room.toNat W.toNat = k := by
      conv => lhs; lhs; rw [hk]
      exact Nat.mul_div_cancel_left _ g0
    have d2 : W.toNat / Nat.gcd room.toNat W.toNat = j := by
      conv => lhs; lhs; rw [hj]
      exact Nat.mul_div_cancel_left _ g0
    rw [d1, d2]
    have : room.toNat * j = k * W.toNat := by
      conv => lhs; rw [hk]
      conv => rhs; rw [hj]
      rw [Nat.mul_comm (Nat.gcd _ _) k, Nat.mul_assoc]
    have h3 : ((room.toNat * j : Nat) : Int) = ((k * W.toNat : Nat) : Int) := by rw [this]
    rw [Int.natCast_mul, Int.natCast_mul, e1, e2] at h3
    exact h3
/-- the parts, where all comes out whole -/
theorem runP_exact {room W top bot : Int} (hw : 0 < W) (h : room * bot = top * W) (f : Pr → Bool) : ∀ (ls : List Pr) (u : Int), (∀ x ∈ ls, ∃ k, x.2 = k * bot) → 0 < bot → runP room W f (u * bot) ls = ls.map fun x => if f x = true then top * (x.2 / bot) else lim x
  | [], _, _, _ => rfl
  | x :: r, u, hd, hb => by
    obtain ⟨k, hk⟩ := hd x List.mem_cons_self
    have hr : ∀ y ∈ r, ∃ k, y.2 = k * bot := fun y hy => hd y (List.mem_cons_of_mem _ hy)
    have q : ∀ v : Int, room * (v * bot) / W = top * v := fun v => by
      rw [Int.mul_comm v, ← Int.mul_assoc, h, Int.mul_assoc, Int.mul_comm W, ← Int.mul_assoc]
      exact Int.mul_ediv_cancel _ (by omega)
    have hx : x.2 / bot = k := by rw [hk]; exact Int.mul_ediv_cancel _ (by omega)
    unfold runP
    rw [List.map_cons]
    cases hf : f x with
    | true =>
      rw [if_pos rfl, if_pos rfl, hx, hk, ← Int.add_mul, q, q, runP_exact hw h f r (u + k) hr hb, Int.mul_add]
      congr 1
      omega
    | false =>
      rw [if_neg (by decide), if_neg (by decide), runP_exact hw h f r u hr hb]
theorem Val.over {total : Int} {ls : List Pr} {top bot : Int} (h : Val true total ls top bot) (hk : ∀ x ∈ ls, x.1 ≠ none) (hz : ∀ x ∈ ls, x.2 ≤ 0 → lim x * bot = val true top bot x) : total < sumL ls := by
  refine Int.not_le.mp fun z => ?_
  have b0 := h.b0
  have s := sum_lt (val true top bot) (fun x => lim x * bot) (ls := ls) (fun x hx => ?_) ?_
  · rw [h.sum, sum_mulr] at s
    have := Int.mul_le_mul_of_nonneg_right z (Int.le_of_lt b0)
    unfold sumL at this
    omega
  · by_cases hx0 : x.2 ≤ 0
    · rw [hz x hx hx0]
      exact Int.le_refl _
    · unfold val
      cases e : free true top bot x with
      | true => exact Int.le_of_lt (not_bnd_cap (free_iff.mp e).2 (hk x hx))
      | false => exact Int.le_refl _
  · obtain ⟨x, hx, e⟩ := h.fr
    refine ⟨x, hx, ?_⟩
    show val true top bot x < lim x * bot
    unfold val
    rw [if_pos e]
    exact not_bnd_cap (free_iff.mp e).2 (hk x hx)
theorem Val.under {total : Int} {ls : List Pr} {top bot : Int} (h : Val false total ls top bot) : sumL ls < total := by
  refine Int.not_le.mp fun z => ?_
  have b0 := h.b0
  have s := sum_lt (fun x => lim x * bot) (val false top bot) (ls := ls) (fun x hx => ?_) ?_
  · rw [h.sum, sum_mulr] at s
    have := Int.mul_le_mul_of_nonneg_right z (Int.le_of_lt b0)
    unfold sumL at this
    omega
  · show lim x * bot ≤ val false top bot x
    unfold val
    cases e : free false top bot x with
    | true => exact Int.le_of_lt (not_bnd_flo (free_iff.mp e).2)
    | false => exact Int.le_refl _
  · obtain ⟨x, hx, e⟩ := h.fr
    refine ⟨x, hx, ?_⟩
    show lim x * bot < val false top bot x
    unfold val
    rw [if_pos e]
    exact not_bnd_flo (free_iff.mp e).2

/-! ### comprehensions whose turns tell one value or none -/
theorem big {n : Nat} (h : n ≤ 16000000) : n < sizeLine := Nat.lt_of_le_of_lt h (by decide)
theorem bigl {n : Nat} (h : n ≤ 16000000) : n ≤ sizeLine := Nat.le_of_lt (big h)
theorem fm_succ {α β : Type} {as : List α} {F : α → Option β} {i : Nat} {a : α} (h : as[i]? = some a) : (as.take (i + 1)).filterMap F = (as.take i).filterMap F ++ (F a).toList := by
  rw [List.take_add_one, h, List.filterMap_append]
  cases e : F a <;> simp [List.filterMap_cons, e]
theorem fm_len {α β : Type} (F : α → Option β) (as : List α) (i : Nat) : ((as.take i).filterMap F).length ≤ as.length := by
  refine Nat.le_trans (List.length_filterMap_le _ _) ?_
  rw [List.length_take]
  omega
theorem same_mut {H1 H : Hp} {D : Addr} {o : HO} (n : H1 D = none) (s : Same H1 H) : Same H1 (upd H D o) := fun b x e => by
  rw [upd_ne (ne_of_none e n)]
  exact s _ _ e
section
variable {K : PySem.W.Frag} {α β γ : Type}
theorem lcF_list {a : Addr} {as : List α} (e : α → V) {j : Nat} {tt : TT} {te : TE} {vs : List Nat} {σ : L2.St} {H1 : Hp} {D : Addr} {Qd : Hp → Prop} (F : α → Option β) (e2 : β → V) (hS : SqL K H1 a (as.map e)) (nD : H1 D = none) (hz : as.length ≤ 40000)
    (hs : ∀ (i : Nat) x H (A : V → Hp → Prop) (B : Hp → Prop), as[i]? = some x → Same H1 H → (∀ z H', F x = some z → Same H H' → A (e2 z) H') → (∀ H', F x = none → Same H H' → B H') →
      wipe ((wipe σ vs).set j (some (e x))) vs = wipe σ vs ∧ tt ((wipe σ vs).set j (some (e x))) H fun b H3 => if b = true then te ((wipe σ vs).set j (some (e x))) H3 A else B H3)
    (hd : ∀ H, Same H1 H → H D = some (.lst ((as.filterMap F).map e2)) → Qd H) :
    ∃ W : Nat → Nat → Hp → Prop, (∃ m, W 0 m (upd H1 D (.lst []))) ∧ ∀ i m H, W i m H →
      ((Itl K a).stop i H ∧ Qd H) ∨ ((Itl K a).go i H ∧ ∃ Nx : Hp → Prop, (∀ H', Nx H' → ∃ m', m' < m ∧ W (i + 1) m' H') ∧ ∀ x H', (Itl K a).yld i H x H' → gName j x (wipe σ vs) H' fun σ2 H2 => wipe σ2 vs = wipe σ vs ∧ tt σ2 H2 fun b H3 =>
        if b = true then te σ2 H3 fun y H4 => ∃ acc, H4 D = some (.lst acc) ∧ acc.length < sizeLine ∧ Nx (upd H4 D (.lst (acc ++ [y]))) else Nx H3) := by
  refine lc_it (walk_list (xs := as.map e)) (fun i H => H D = some (.lst (((as.take i).filterMap F).map e2)) ∧ Same H1 H) ⟨upd_same, same_upd nD⟩ (fun i H _ h => h.2.seq hS) ?_ ?_
  · rintro i y H H' hi ⟨eD, sm⟩ ⟨rfl, hy⟩
    rw [List.getElem?_map] at hy
    cases ex : as[i]? with
    | none => rw [ex] at hy; cases hy
    | some x =>
      rw [ex] at hy
      cases hy
      refine hs i x H' _ _ ex sm (fun z H4 hz4 s4 => ⟨_, s4 _ _ eD, ?_, ?_, same_mut nD (sm.trans s4)⟩) (fun H3 h3 s3 => ⟨?_, sm.trans s3⟩)
      · rw [List.length_map]
        exact big (Nat.le_trans (fm_len F as i) (by omega))
      · rw [upd_same, fm_succ ex, hz4, List.map_append]
        rfl
      · rw [fm_succ ex, h3]
        simpa using s3 _ _ eD
  · rintro H ⟨eD, sm⟩
    rw [List.length_map, List.take_length] at eD
    exact hd H sm eD
theorem lcF_zip {a b : Addr} {as : List α} {bs : List β} (e : α → V) (e' : β → V) {j1 j2 : Nat} {tt : TT} {te : TE} {vs : List Nat} {σ : L2.St} {H1 : Hp} {D : Addr} {Qd : Hp → Prop} (F : α → β → Option γ) (e2 : γ → V) (hS : SqL K H1 a (as.map e)) (hS2 : SqL K H1 b (bs.map e')) (nD : H1 D = none) (hz : as.length ≤ 40000)
    (hs : ∀ (i : Nat) x y H (A : V → Hp → Prop) (B : Hp → Prop), as[i]? = some x → bs[i]? = some y → Same H1 H → (∀ z H', F x y = some z → Same H H' → A (e2 z) H') → (∀ H', F x y = none → Same H H' → B H') →
      wipe (((wipe σ vs).set j1 (some (e x))).set j2 (some (e' y))) vs = wipe σ vs ∧ tt (((wipe σ vs).set j1 (some (e x))).set j2 (some (e' y))) H fun b H3 => if b = true then te (((wipe σ vs).set j1 (some (e x))).set j2 (some (e' y))) H3 A else B H3)
    (hd : ∀ H, Same H1 H → H D = some (.lst (((as.zip bs).filterMap fun p => F p.1 p.2).map e2)) → Qd H) :
    ∃ W : Nat → Nat → Hp → Prop, (∃ m, W 0 m (upd H1 D (.lst []))) ∧ ∀ i m H, W i m H →
      ((Itz K a b).stop i H ∧ Qd H) ∨ ((Itz K a b).go i H ∧ ∃ Nx : Hp → Prop, (∀ H', Nx H' → ∃ m', m' < m ∧ W (i + 1) m' H') ∧ ∀ x H', (Itz K a b).yld i H x H' → gTup K 2 (gCons (gName j1) (gCons (gName j2) gNil)) x (wipe σ vs) H' fun σ2 H2 => wipe σ2 vs = wipe σ vs ∧ tt σ2 H2 fun b H3 =>
        if b = true then te σ2 H3 fun y H4 => ∃ acc, H4 D = some (.lst acc) ∧ acc.length < sizeLine ∧ Nx (upd H4 D (.lst (acc ++ [y]))) else Nx H3) := by
  have hlen : (as.zip bs).length = min (as.map e).length (bs.map e').length := by rw [List.length_zip, List.length_map, List.length_map]
  refine lc_it (L2.walk_zip (xs := as.map e) (ys := bs.map e') hlen) (fun i H => H D = some (.lst ((((as.zip bs).take i).filterMap fun p => F p.1 p.2).map e2)) ∧ Same H1 H) ⟨upd_same, same_upd nD⟩ (fun i H _ h => ⟨h.2.seq hS, h.2.seq hS2⟩) ?_ ?_
  · rintro i y H H' hi ⟨eD, sm⟩ ⟨T, x, z, rfl, nT, rfl, hx, hy⟩
    rw [List.length_zip] at hi
    have l1 : i < as.length := by omega
    have l2 : i < bs.length := by omega
    have e1 : as[i]? = some as[i] := List.getElem?_eq_getElem l1
    have e3 : bs[i]? = some bs[i] := List.getElem?_eq_getElem l2
    replace hx : (as.map e)[i]? = some x := hx
    replace hy : (bs.map e')[i]? = some z := hy
    rw [List.getElem?_map, e1] at hx
    rw [List.getElem?_map, e3] at hy
    cases hx
    cases hy
    have ez : (as.zip bs)[i]? = some (as[i], bs[i]) := by
      rw [List.getElem?_zip_eq_some]
      exact ⟨e1, e3⟩
    have sT := same_upd (o := .tup [e as[i], e' bs[i]]) nT
    refine ⟨T, _, rfl, .of upd_same, rfl, _, _, rfl, _, _, rfl, rfl, ?_⟩
    refine hs i as[i] bs[i] _ _ _ e1 e3 (sm.trans sT) (fun z H4 hz4 s4 => ⟨_, s4 _ _ (sT _ _ eD), ?_, ?_, same_mut nD ((sm.trans sT).trans s4)⟩) (fun H3 h3 s3 => ⟨?_, (sm.trans sT).trans s3⟩)
    · rw [List.length_map]
      refine big (Nat.le_trans (fm_len _ _ i) ?_)
      rw [List.length_zip]
      omega
    · rw [upd_same, fm_succ ez, hz4, List.map_append]
      rfl
    · rw [fm_succ ez, h3]
      simpa using s3 _ _ (sT _ _ eD)
  · rintro H ⟨eD, sm⟩
    rw [List.take_length] at eD
    exact hd H sm eD
theorem lcF_enum {a : Addr} {as : List α} (e : α → V) {j1 j2 : Nat} {tt : TT} {te : TE} {vs : List Nat} {σ : L2.St} {H1 : Hp} {D : Addr} {Qd : Hp → Prop} (F : α × Nat → Option γ) (e2 : γ → V) (hS : SqL K H1 a (as.map e)) (nD : H1 D = none) (hz : as.length ≤ 40000)
    (hs : ∀ (i : Nat) x H (A : V → Hp → Prop) (B : Hp → Prop), as[i]? = some x → Same H1 H → (∀ z H', F (x, i) = some z → Same H H' → A (e2 z) H') → (∀ H', F (x, i) = none → Same H H' → B H') →
      wipe (((wipe σ vs).set j1 (some (.int (i : Nat)))).set j2 (some (e x))) vs = wipe σ vs ∧ tt (((wipe σ vs).set j1 (some (.int (i : Nat)))).set j2 (some (e x))) H fun b H3 => if b = true then te (((wipe σ vs).set j1 (some (.int (i : Nat)))).set j2 (some (e x))) H3 A else B H3)
    (hd : ∀ H, Same H1 H → H D = some (.lst ((as.zipIdx.filterMap F).map e2)) → Qd H) :
    ∃ W : Nat → Nat → Hp → Prop, (∃ m, W 0 m (upd H1 D (.lst []))) ∧ ∀ i m H, W i m H →
      ((Ite K a).stop i H ∧ Qd H) ∨ ((Ite K a).go i H ∧ ∃ Nx : Hp → Prop, (∀ H', Nx H' → ∃ m', m' < m ∧ W (i + 1) m' H') ∧ ∀ x H', (Ite K a).yld i H x H' → gTup K 2 (gCons (gName j1) (gCons (gName j2) gNil)) x (wipe σ vs) H' fun σ2 H2 => wipe σ2 vs = wipe σ vs ∧ tt σ2 H2 fun b H3 =>
        if b = true then te σ2 H3 fun y H4 => ∃ acc, H4 D = some (.lst acc) ∧ acc.length < sizeLine ∧ Nx (upd H4 D (.lst (acc ++ [y]))) else Nx H3) := by
  refine lc_it (walk_enum (xs := as.map e)) (fun i H => H D = some (.lst (((as.zipIdx.take i).filterMap F).map e2)) ∧ Same H1 H) ⟨upd_same, same_upd nD⟩ (fun i H _ h => h.2.seq hS) ?_ ?_
  · rintro i y H H' hi ⟨eD, sm⟩ ⟨T, x, z, rfl, nT, rfl, hx, hy⟩
    rw [List.length_map] at hi
    have e1 : as[i]? = some as[i] := List.getElem?_eq_getElem hi
    replace hy : (as.map e)[i]? = some z := hy
    rw [List.getElem?_map, e1] at hy
    cases hx
    cases hy
    have ez : as.zipIdx[i]? = some (as[i], i) := by
      rw [List.getElem?_zipIdx, e1]
      simp
    have sT := same_upd (o := .tup [.int (i : Nat), e as[i]]) nT
    refine ⟨T, _, rfl, .of upd_same, rfl, _, _, rfl, _, _, rfl, rfl, ?_⟩
    refine hs i as[i] _ _ _ e1 (sm.trans sT) (fun z H4 hz4 s4 => ⟨_, s4 _ _ (sT _ _ eD), ?_, ?_, same_mut nD ((sm.trans sT).trans s4)⟩) (fun H3 h3 s3 => ⟨?_, (sm.trans sT).trans s3⟩)
    · rw [List.length_map]
      refine big (Nat.le_trans (fm_len _ _ i) ?_)
      rw [List.length_zipIdx]
      omega
    · rw [upd_same, fm_succ ez, hz4, List.map_append]
      rfl
    · rw [fm_succ ez, h3]
      simpa using s3 _ _ (sT _ _ eD)
  · rintro H ⟨eD, sm⟩
    rw [List.length_map, ← List.length_zipIdx (l := as) (i := 0), List.take_length] at eD
    exact hd H sm eD
end

/-! ### the program: numbers dealt -/
def ov : Option Int → V
  | none => .non
  | some c => .int c
def small (i : Int) : Prop := i.natAbs < 2 ^ 400
theorem small_mul {i j : Int} (h : small i) (h2 : small j) : CMulW i j := wide_mul h h2 (by decide) (by decide) (by decide)
theorem small_le {i j : Int} (h0 : 0 ≤ i) (h : i ≤ j) (h2 : small j) : small i := Nat.lt_of_le_of_lt (by omega) h2
theorem small_div {i j : Int} (h0 : 0 < j) (h : small j) : CDivW i j := wide_div h0 h (by decide) (by decide)
def spWholeI : Sp := fun vs H Q _ => ∃ i : Int, vs = [.int i] ∧ Q (.bl true) H
def spCountI : Sp := fun vs H Q _ => ∃ i : Int, vs = [.int i] ∧ 0 ≤ i ∧ Q (.bl true) H
def spNoList : Sp := fun vs H Q _ => ∃ (a : Addr) (xs : List V), vs = [.ref a] ∧ H a = some (.lst xs) ∧ Q .non H
def spNoCounts : Sp := fun vs H Q _ => ∃ (a : Addr) (ns : List Int), vs = [.ref a] ∧ H a = some (.lst (ns.map V.int)) ∧ (∀ n ∈ ns, 0 ≤ n) ∧ Q .non H
def spNoWeights : Sp := fun vs H Q _ => ∃ (a : Addr) (ns : List Int), vs = [.ref a, .int (ns.length : Int)] ∧ H a = some (.lst (ns.map V.int)) ∧ (∀ n ∈ ns, 0 ≤ n) ∧ Q .non H
def spB (cap : Bool) : Sp := fun vs H Q _ => ∃ (x : Pr) (top bot : Int), vs = [ov x.1, .int x.2, .int top, .int bot] ∧ (cap = false → x.1 ≠ none) ∧ small (lim x) ∧ small x.2 ∧ small top ∧ small bot ∧ Q (.bl (bnd cap x top bot)) H
def spRun : Sp := fun vs H Q _ => ∃ (room : Int) (a : Addr) (ns : List Int), vs = [.int room, .ref a] ∧ H a = some (.lst (ns.map V.int)) ∧ (∀ n ∈ ns, 0 ≤ n) ∧ 0 < ns.sum ∧ small ns.sum ∧ small room ∧ ns.length ≤ 4000 ∧
  ∀ p H', H p = none → Same H H' → H' p = some (.lst ((runs room ns.sum 0 ns).map V.int)) → Q (.ref p) H'
def spLow : Sp := fun vs H Q _ => ∃ top bot : Nat, vs = [.int (top : Int), .int (bot : Int)] ∧ 0 < bot ∧ small (top : Int) ∧ small (bot : Int) ∧
  ∀ p H', H p = none → Same H H' → H' p = some (.tup [.int ((top / Nat.gcd top bot : Nat) : Int), .int ((bot / Nat.gcd top bot : Nat) : Int)]) → Q (.ref p) H'
def nmB : Bool → Str
  | true => "cap_binds"
  | false => "floor_binds"
def hasB (_ : Bool) : Prop := True
def p0 (x : Pr) : Bool := decide (0 < x.2)
def eI (x : Pr × Nat) : V := .int (x.2 : Nat)
def frI (cap : Bool) (room W : Int) (ps : List Pr) : List (Pr × Nat) := ps.zipIdx.filter fun x => free cap room W x.1
structure Fits (total : Int) (ps : List Pr) : Prop where
  good : Good ps
  t0 : 0 ≤ total
  t1 : small total
  l1 : ∀ x ∈ ps, small (lim x)
  w1 : small (sumW ps)
  n1 : ps.length ≤ 4000
def Lev0 (cap : Bool) (total : Int) (ps : List Pr) : Prop := Lev cap total ps p0 (total - sumL (ps.filter fun x => !p0 x)) (sumW (ps.filter p0))
def spUnb (mg : Str → Option Value) : Sp := fun vs H Q _ => ∃ (total : Int) (la wa f : Addr) (cap : Bool) (ps : List Pr), vs = [.int total, .ref la, .ref wa, .ref f] ∧ (mg (nmB cap) = some (.ref f) ∧ hasB cap) ∧ H la = some (.lst (ps.map fun x => ov x.1)) ∧ H wa = some (.lst (ps.map fun x => .int x.2)) ∧
  Fits total ps ∧ Lev0 cap total ps ∧
  ∀ t fl room W H', H t = none → Fix cap total ps room W → room ≤ total → W ≤ sumW ps → H' t = some (.tup [.ref fl, .int room, .int W]) → H' fl = some (.lst ((frI cap room W ps).map eI)) → Same H H' → Q (.ref t) H'
/-- what a level told is -/
def LvAt (H : Hp) (v : V) : Option (Int × Int) → Prop
  | none => v = .non
  | some (a, b) => ∃ q, v = .ref q ∧ H q = some (.tup [.int a, .int b])
def spBy (mg : Str → Option Value) : Sp := fun vs H Q _ => ∃ (total : Int) (la wa f : Addr) (cap : Bool) (ps : List Pr), vs = [.int total, .ref la, .ref wa, .ref f] ∧ (mg (nmB cap) = some (.ref f) ∧ hasB cap) ∧ H la = some (.lst (ps.map fun x => ov x.1)) ∧ H wa = some (.lst (ps.map fun x => .int x.2)) ∧
  Fits total ps ∧ Lev0 cap total ps ∧
  ∀ t p lv room W H', H t = none → H p = none → Fix cap total ps room W → H' t = some (.tup [lv, .ref p]) → LvAt H' lv (some (low room W)) → H' p = some (.lst ((runP room W (free cap room W) 0 ps).map V.int)) → Same H H' → Q (.ref t) H'
theorem fm_filter {α : Type} (p : α → Bool) : ∀ l : List α, (l.filterMap fun y => if p y = true then some y else none) = l.filter p
  | [] => rfl
  | x :: r => by
    rw [List.filterMap_cons, fm_filter p r, List.filter_cons]
    cases p x <;> rfl
theorem fm_some {α β : Type} (f : α → β) : ∀ l : List α, (l.filterMap fun y => some (f y)) = l.map f
  | [] => rfl
  | x :: r => by
    rw [List.filterMap_cons, fm_some f r]
    rfl
section
variable {P : Program} {w : World} {K : PySem.W.Frag} {mg : Str → Option Value} {base : Heap}
theorem ok_wholeI (T : Txt K mg) : Ok P w K mg base CX0 "is_whole" s_p_is_whole 1 ["thing"] spWholeI := by
  refine T.h_p_is_whole.ok sc_p_is_whole (fun vs H Q E h => ?_) (fun f cdv A outer s H vs Q E hr h => ?_)
  · obtain ⟨x, rfl, _⟩ := h; rfl
  obtain ⟨i, rfl, q⟩ := h
  refine ⟨_, (pss_one (ps_ret (pe_and (pe_callB call_isi (by rfl) T.m_isinstance (by decide +kernel) (pa_cons (pv 0) (pa_cons (pe_bltn (v := .ty "int") (by rfl) T.m_int (by decide +kernel) rfl) pa_nil))) (pe_one (pe_not (pe_callB call_isi (by rfl) T.m_isinstance (by decide +kernel) (pa_cons (pv 0) (pa_cons (pe_bltn (v := .ty "bool") (by rfl) T.m_bool (by decide +kernel) rfl) pa_nil)))))))), ?_⟩
  refine ⟨_, rfl, _, _, _, _, true, rfl, .ty _, .base (.int i), kit_ty (by decide +kernel), true, rfl, iteT ?_⟩
  exact ⟨_, rfl, _, _, _, _, false, rfl, .ty _, .base (.int i), kit_ty (by decide +kernel), false, rfl, q⟩
theorem ok_countI (T : Txt K mg) : Ok P w K mg base CX0 "is_count" s_p_is_count 2 ["thing"] spCountI := by
  have O_p_is_whole := ok_wholeI (P := P) (w := w) (base := base) T
  refine T.h_p_is_count.ok sc_p_is_count (fun vs H Q E h => ?_) (fun f cdv A outer s H vs Q E hr h => ?_)
  · obtain ⟨x, rfl, _⟩ := h; rfl
  obtain ⟨i, rfl, i0, q⟩ := h
  refine ⟨_, (pss_one (ps_ret (pe_and (callO O_p_is_whole (hr.mono (by decide)) (by rfl) (pa_cons (pv 0) pa_nil)) (pe_one (pe_cmpR op_ge (pv 0) pe_int (nomark _)))))), ?_⟩
  refine ⟨_, rfl, i, rfl, true, rfl, iteT ?_⟩
  refine ⟨_, rfl, _, _, rfl, rfl, ?_⟩
  show Q (.bl (decide (0 ≤ i))) H
  rw [decide_eq_true i0]
  exact q
theorem ok_no_list (T : Txt K mg) : Ok P w K mg base CX0 "refuse_no_list" s_p_refuse_no_list 1 ["thing"] spNoList := by
  refine T.h_p_refuse_no_list.ok sc_p_refuse_no_list (fun vs H Q E h => ?_) (fun f cdv A outer s H vs Q E hr h => ?_)
  · obtain ⟨a, x, rfl, _⟩ := h; rfl
  obtain ⟨a, x, rfl, ha, q⟩ := h
  refine ⟨_, (pss_one (ps_if (pt_not (pt_val (pe_callB call_isi (by rfl) T.m_isinstance (by decide +kernel) (pa_cons (pv 0) (pa_cons (pe_bltn (v := .ty "list") (by rfl) T.m_list (by decide +kernel) rfl) pa_nil)))))
      (pss_one ps_never)
      pss_nil)), ?_⟩
  exact ⟨_, rfl, _, _, _, _, true, rfl, .ty _, .base (.lst ha), kit_ty (by decide +kernel), true, rfl, iteF q⟩
theorem ok_no_counts (T : Txt K mg) : Ok P w K mg base CX0 "refuse_no_counts" s_p_refuse_no_counts 3 ["things"] spNoCounts := by
  have O_p_is_count := ok_countI (P := P) (w := w) (base := base) T
  refine T.h_p_refuse_no_counts.ok sc_p_refuse_no_counts (fun vs H Q E h => ?_) (fun f cdv A outer s H vs Q E hr h => ?_)
  · obtain ⟨a, x, rfl, _⟩ := h; rfl
  obtain ⟨a, ns, rfl, ha, h0, q⟩ := h
  refine ⟨_, (pss_one (ps_for PassesOwn.never rfl (pi_list (pv 0)) (pg_name (i := 1) sc_p_refuse_no_counts.nd rfl (by first | exact Or.inl rfl | exact Or.inr rfl))
      (pss_one (ps_if (pt_not (pt_val (callO O_p_is_count (hr.mono (by decide)) (by rfl) (pa_cons (pv 1) pa_nil))))
      (pss_one ps_never)
      pss_nil)))), ?_⟩
  refine ⟨_, rfl, a, rfl, ⟨_, .of ha⟩, for_list (K := K) (a := a) (xs := ns.map V.int) (fun i σ H' => ∃ v1, σ = [some (.ref a), v1] ∧ H' = H) ⟨none, rfl, rfl⟩ (fun i σ H' _ h => by obtain ⟨_, _, rfl⟩ := h; exact .of ha) ?_ ?_⟩
  · rintro i y σ H' hi ⟨v1, rfl, rfl⟩
    obtain ⟨z, rfl, hz⟩ := int_at hi
    exact ⟨_, rfl, z, rfl, h0 z (List.mem_of_getElem? hz), true, rfl, iteF ⟨_, rfl, rfl⟩⟩
  · rintro σ H' ⟨v1, rfl, rfl⟩
    exact q
theorem ok_no_weights (T : Txt K mg) : Ok P w K mg base CX0 "refuse_no_weights" s_p_refuse_no_weights 4 ["weights", "many"] spNoWeights := by
  have O_p_refuse_no_list := ok_no_list (P := P) (w := w) (base := base) T
  have O_p_refuse_no_counts := ok_no_counts (P := P) (w := w) (base := base) T
  refine T.h_p_refuse_no_weights.ok sc_p_refuse_no_weights (fun vs H Q E h => ?_) (fun f cdv A outer s H vs Q E hr h => ?_)
  · obtain ⟨a, x, rfl, _⟩ := h; rfl
  obtain ⟨a, ns, rfl, ha, h0, q⟩ := h
  refine ⟨_, (pss_cons (ps_expr (callO O_p_refuse_no_list (hr.mono (by decide)) (by rfl) (pa_cons (pv 0) pa_nil)))
      (pss_cons (ps_expr (callO O_p_refuse_no_counts (hr.mono (by decide)) (by rfl) (pa_cons (pv 0) pa_nil)))
      (pss_one (ps_if (pt_cmpR op_ne (pe_callB call_len (by rfl) T.m_len (by decide +kernel) (pa_cons (pv 0) pa_nil)) (pv 1) (nomark _))
      (pss_one ps_never)
      pss_nil)))), ?_⟩
  refine ⟨_, rfl, a, _, rfl, ha, ?_⟩
  refine ⟨_, rfl, a, ns, rfl, ha, h0, ?_⟩
  refine ⟨_, rfl, _, _, rfl, .inl ⟨_, .of ha, rfl⟩, _, rfl, rfl, _, rfl, ?_⟩
  rw [List.length_map, decide_eq_true rfl]
  exact iteF q
theorem ok_cap_binds (T : Txt K mg) : Ok P w K mg base CX0 "cap_binds" s_p_cap_binds 1 ["cap", "weight", "top", "bottom"] (spB true) := by
  refine T.h_p_cap_binds.ok sc_p_cap_binds (fun vs H Q E h => ?_) (fun f cdv A outer s H vs Q E hr h => ?_)
  · obtain ⟨a, _, _, rfl, _⟩ := h; rfl
  obtain ⟨⟨c, wt⟩, top, bot, rfl, _, s1, s2, s3, s4, q⟩ := h
  refine ⟨_, (pss_one (ps_ret (pe_and (pe_cmpR op_notN (pv 0) pe_non (nomark _)) (pe_one (pe_cmpR op_le (pe_op op_mulW (pv 0) (pv 3)) (pe_op op_mulW (pv 2) (pv 1)) (nomark _)))))), ?_⟩
  cases c with
  | none => exact ⟨_, rfl, rfl, _, rfl, iteF q⟩
  | some c => exact ⟨_, rfl, rfl, _, rfl, iteT ⟨_, rfl, _, rfl, _, _, rfl, rfl, small_mul s1 s4, _, rfl, _, rfl, _, _, rfl, rfl, small_mul s3 s2, _, _, rfl, rfl, q⟩⟩
theorem ok_floor_binds (T : Txt K mg) : Ok P w K mg base CX0 "floor_binds" s_p_floor_binds 1 ["floor", "weight", "top", "bottom"] (spB false) := by
  refine T.h_p_floor_binds.ok sc_p_floor_binds (fun vs H Q E h => ?_) (fun f cdv A outer s H vs Q E hr h => ?_)
  · obtain ⟨a, _, _, rfl, _⟩ := h; rfl
  obtain ⟨⟨c, wt⟩, top, bot, rfl, hk, s1, s2, s3, s4, q⟩ := h
  refine ⟨_, (pss_one (ps_ret (pe_cmpR op_ge (pe_op op_mulW (pv 0) (pv 3)) (pe_op op_mulW (pv 2) (pv 1)) (nomark _)))), ?_⟩
  cases c with
  | none => exact absurd rfl (hk rfl)
  | some c => exact ⟨_, rfl, _, rfl, _, _, rfl, rfl, small_mul s1 s4, _, rfl, _, rfl, _, _, rfl, rfl, small_mul s3 s2, _, _, rfl, rfl, q⟩
theorem take_sum_succ {ns : List Int} {i : Nat} {z : Int} (h : ns[i]? = some z) : (ns.take (i + 1)).sum = (ns.take i).sum + z := by
  rw [List.take_add_one, h, List.sum_append]
  simp
theorem take_sum_le {ns : List Int} (h : ∀ n ∈ ns, 0 ≤ n) (i : Nat) : 0 ≤ (ns.take i).sum ∧ (ns.take i).sum ≤ ns.sum := by
  have h1 := sum_nonneg (fun n : Int => n) (ns.take i) fun x hx => h x (List.mem_of_mem_take hx)
  have h2 := sum_nonneg (fun n : Int => n) (ns.drop i) fun x hx => h x (List.mem_of_mem_drop hx)
  have h3 : ns.sum = (ns.take i).sum + (ns.drop i).sum := by
    rw [← List.sum_append, List.take_append_drop]
  simp only [List.map_id'] at h1 h2
  omega
theorem ok_running (T : Txt K mg) : Ok P w K mg base CX0 "running_parts" s_p_running_parts 1 ["room", "weights"] spRun := by
  refine T.h_p_running_parts.ok sc_p_running_parts (fun vs H Q E h => ?_) (fun f cdv A outer s H vs Q E hr h => ?_)
  · obtain ⟨_, a, _, rfl, _⟩ := h; rfl
  obtain ⟨room, a, ns, rfl, ha, h0, hp, hs, hm, hl, q⟩ := h
  refine ⟨_, (pss_cons (ps_set (i := 2) sc_p_running_parts.nd rfl (by first | exact Or.inl rfl | exact Or.inr rfl) (pe_callB (cr_sum rfl) (by rfl) T.m_sum (by decide +kernel) (pa_cons (pv 1) pa_nil)))
      (pss_cons (ps_set (i := 3) sc_p_running_parts.nd rfl (by first | exact Or.inl rfl | exact Or.inr rfl) (pe_lst pa_nil))
      (pss_cons (ps_set (i := 4) sc_p_running_parts.nd rfl (by first | exact Or.inl rfl | exact Or.inr rfl) pe_int)
      (pss_cons (ps_set (i := 5) sc_p_running_parts.nd rfl (by first | exact Or.inl rfl | exact Or.inr rfl) pe_int)
      (pss_cons (ps_for PassesOwn.never rfl (pi_list (pv 1)) (pg_name (i := 6) sc_p_running_parts.nd rfl (by first | exact Or.inl rfl | exact Or.inr rfl))
      (pss_cons (ps_aug (i := 4) sc_p_running_parts.nd rfl (by first | exact Or.inl rfl | exact Or.inr rfl) (pv 6) ip_add)
      (pss_cons (ps_set (i := 7) sc_p_running_parts.nd rfl (by first | exact Or.inl rfl | exact Or.inr rfl) (pe_op op_fdivW (pe_op op_mulW (pv 0) (pv 4)) (pv 2)))
      (pss_cons (ps_expr (pe_bm PySem.F.plainAttrs_list PySem.F.slot_list_append PySem.F.type_list_append mt_append (pv 3) (pa_cons (pe_op op_sub (pv 7) (pv 5)) pa_nil)))
      (pss_one (ps_set (i := 5) sc_p_running_parts.nd rfl (by first | exact Or.inl rfl | exact Or.inr rfl) (pv 7)))))))
      (pss_one (ps_ret (pv 3)))))))), ?_⟩
  refine ⟨_, rfl, a, ns, rfl, .of ha, (by show 0 ≤ sizeLine; decide), fun S nS => ?_⟩
  have sS := same_upd (o := .lst []) nS
  have eS : (upd H S (.lst [])) S = some (.lst []) := upd_same
  generalize upd H S (.lst []) = HB at sS eS ⊢
  refine ⟨_, rfl, a, rfl, ⟨_, .of (sS _ _ ha)⟩, for_list (K := K) (a := a) (xs := ns.map V.int) (fun i σ H' => ∃ v6 v7, σ = [some (.int room), some (.ref a), some (.int ns.sum), some (.ref S), some (.int (ns.take i).sum), some (.int (room * (ns.take i).sum / ns.sum)), v6, v7] ∧ H' S = some (.lst ((runs room ns.sum 0 (ns.take i)).map V.int)) ∧ Same H H')
    ⟨none, none, by simp; rfl, eS, sS⟩ (fun i σ H' _ h => by obtain ⟨_, _, _, _, z⟩ := h; exact .of (z _ _ ha)) ?_ ?_⟩
  · rintro i y σ H' hi ⟨v6, v7, rfl, eSi, sm⟩
    obtain ⟨z, rfl, hz⟩ := int_at hi
    have b1 := take_sum_le h0 (i + 1)
    have e1 := take_sum_succ hz
    have hil : i < ns.length := (List.getElem?_eq_some_iff.mp hz).1
    refine ⟨_, rfl, _, rfl, _, _, rfl, rfl, ?_⟩
    refine ⟨_, rfl, _, rfl, _, _, rfl, rfl, small_mul hm (by show small ((ns.take i).sum + z); rw [← e1]; exact small_le b1.1 b1.2 hs), _, rfl, _, _, rfl, rfl, small_div hp hs, ?_⟩
    refine ⟨_, rfl, .inl ⟨rfl, _, .of eSi⟩, _, rfl, _, rfl, _, _, rfl, rfl, S, _, _, rfl, rfl, eSi, ?_, ?_⟩
    · rw [List.length_map, runs_len, List.length_take]
      exact big (by omega)
    refine ⟨_, rfl, _, _, by rw [e1]; rfl, ?_, same_mut nS sm⟩
    rw [upd_same, List.take_add_one, hz]
    show _ = some (HO.lst ((runs room ns.sum 0 (ns.take i ++ [z])).map V.int))
    rw [runs_snoc, Int.zero_add, List.map_append]
    rfl
  · rintro σ H' ⟨v6, v7, rfl, eSi, sm⟩
    rw [List.length_map, List.take_length] at eSi
    exact ⟨_, rfl, q S H' nS sm eSi⟩
theorem ok_low (T : Txt K mg) : Ok P w K mg base CX0 "in_lowest_terms" s_p_in_lowest_terms 1 ["top", "bottom"] spLow := by
  refine T.h_p_in_lowest_terms.ok sc_p_in_lowest_terms (fun vs H Q E h => ?_) (fun f cdv A outer s H vs Q E hr h => ?_)
  · obtain ⟨_, _, rfl, _⟩ := h; rfl
  obtain ⟨top, bot, rfl, hb, s1, s2, q⟩ := h
  refine ⟨_, (pss_cons (ps_set (i := 2) sc_p_in_lowest_terms.nd rfl (by first | exact Or.inl rfl | exact Or.inr rfl) (pv 1))
      (pss_cons (ps_set (i := 3) sc_p_in_lowest_terms.nd rfl (by first | exact Or.inl rfl | exact Or.inr rfl) (pv 0))
      (pss_cons (ps_while PassesOwn.never (pt_cmpR op_gt (pv 3) pe_int (nomark _))
      (pss_one (ps_par (i := 2) (j := 3) (by rfl) sc_p_in_lowest_terms.nd rfl rfl (by decide) rfl rfl (pa_cons (pv 3) (pa_cons (pe_op op_mod (pv 2) (pv 3)) pa_nil)) (by rfl))))
      (pss_one (ps_ret (pe_tup (pa_cons (pe_op op_fdivW (pv 0) (pv 2)) (pa_cons (pe_op op_fdivW (pv 1) (pv 2)) pa_nil)))))))), ?_⟩
  refine ⟨_, rfl, _, rfl, fun m σ H' => ∃ d r : Nat, σ = [some (.int (top : Int)), some (.int (bot : Int)), some (.int (d : Int)), some (.int (r : Int))] ∧ 0 < d ∧ Nat.gcd d r = Nat.gcd top bot ∧ small (d : Int) ∧ small (r : Int) ∧ m = r ∧ H' = H,
    ⟨top, bot, top, rfl, hb, Nat.gcd_comm _ _, s2, s1, rfl, rfl⟩, ?_⟩
  rintro m σ H' ⟨d, r, rfl, d0, hg, sd, sr, rfl, rfl⟩
  refine ⟨_, rfl, _, _, rfl, rfl, _, rfl, ite2 (fun e => ?_) (fun e => ?_)⟩
  · have e1 := of_decide_eq_true e
    refine ⟨fun σ2 H2 => ∃ d2 r2 : Nat, σ2 = [some (.int (top : Int)), some (.int (bot : Int)), some (.int (d2 : Int)), some (.int (r2 : Int))] ∧ 0 < d2 ∧ Nat.gcd d2 r2 = Nat.gcd top bot ∧ small (d2 : Int) ∧ small (r2 : Int) ∧ r2 < m ∧ H2 = H', ?_, ?_⟩
    · rintro σ2 H2 ⟨d2, r2, h1, h2, h3, h4, h5, h6, h7⟩
      exact ⟨r2, h6, d2, r2, h1, h2, h3, h4, h5, rfl, h7⟩
    · have m0 : 0 < m := by omega
      have hlt := Nat.mod_lt d m0
      refine ⟨_, rfl, _, rfl, _, rfl, _, _, rfl, rfl, e1, _, _, rfl, ?_⟩
      refine ⟨m, d % m, ?_, m0, ?_, sr, ?_, hlt, rfl⟩
      · rw [Int.natCast_emod]
        rfl
      · rw [← hg, Nat.gcd_comm d m, Nat.gcd_rec m d, Nat.gcd_comm]
      · exact small_le (by omega) (by omega) sr
  · have hr0 : m = 0 := by
      have : ¬ (0 : Int) < (m : Int) := fun z => e (decide_eq_true z)
      omega
    subst hr0
    rw [Nat.gcd_zero_right] at hg
    have dd : (0 : Int) < (d : Int) := by omega
    refine ⟨_, rfl, _, rfl, _, _, rfl, rfl, small_div dd sd, _, rfl, _, rfl, _, _, rfl, rfl, small_div dd sd, (by show 2 ≤ sizeLine; decide), fun p np => ?_⟩
    refine q p _ np (same_upd np) ?_
    rw [upd_same, ← hg, Int.natCast_ediv, Int.natCast_ediv]
end

/-! ### the level is found -/
theorem fm_zip_self {α β : Type} (F : α → α → Option β) : ∀ l : List α, ((l.zip l).filterMap fun p => F p.1 p.2) = l.filterMap fun x => F x x
  | [] => rfl
  | x :: r => by
    rw [List.zip_cons_cons, List.filterMap_cons, List.filterMap_cons, fm_zip_self F r]
theorem fm_zero : ∀ ps : List Pr, (∀ x ∈ ps, 0 ≤ x.2) → (ps.filterMap fun x => if x.2 = 0 then some (lim x) else none) = (ps.filter fun x => !p0 x).map lim
  | [], _ => rfl
  | x :: r, h => by
    have h1 := h x List.mem_cons_self
    rw [List.filterMap_cons, fm_zero r fun y hy => h y (List.mem_cons_of_mem _ hy), List.filter_cons]
    by_cases e : x.2 = 0
    · rw [if_pos e, show p0 x = false from decide_eq_false (by omega)]
      rfl
    · rw [if_neg e, show p0 x = true from decide_eq_true (by omega)]
      rfl
theorem sumW_p0 : ∀ ps : List Pr, (∀ x ∈ ps, 0 ≤ x.2) → sumW (ps.filter p0) = (ps.map fun x => x.2).sum
  | [], _ => rfl
  | x :: r, h => by
    have h1 := h x List.mem_cons_self
    have ih := sumW_p0 r fun y hy => h y (List.mem_cons_of_mem _ hy)
    rw [List.filter_cons, List.map_cons, List.sum_cons, ← ih]
    by_cases e : x.2 = 0
    · rw [show p0 x = false from decide_eq_false (by omega), e, if_neg (by decide)]
      omega
    · rw [show p0 x = true from decide_eq_true (by omega), if_pos rfl]
      rfl
theorem ff {α : Type} (p q : α → Bool) : ∀ l : List α, (l.filter p).filter q = l.filter fun x => p x && q x
  | [] => rfl
  | x :: r => by
    have ih := ff p q r
    cases hp : p x <;> cases hq : q x <;> simp [List.filter_cons, hp, hq, ih]
theorem filter_split_len {α : Type} (p b : α → Bool) : ∀ l : List α, (l.filter p).length = (l.filter fun x => p x && b x).length + (l.filter fun x => p x && !b x).length
  | [] => rfl
  | x :: r => by
    have ih := filter_split_len p b r
    cases hp : p x <;> cases hb : b x <;> simp [List.filter_cons, hp, hb] <;> omega
theorem zip_fst {β : Type} (q : Pr → Bool) (f : Pr → β) : ∀ (ps : List Pr) (k : Nat), ((ps.zipIdx k).filter fun x => q x.1).map (fun x => f x.1) = (ps.filter q).map f
  | [], _ => rfl
  | x :: r, k => by
    have ih := zip_fst q f r (k + 1)
    rw [List.zipIdx_cons]
    cases h : q x <;> simp [List.filter_cons, h, ih]
theorem zidx {ps : List Pr} {x : Pr × Nat} (h : x ∈ ps.zipIdx) : ps[x.2]? = some x.1 := by
  obtain ⟨a, i⟩ := x
  exact List.mem_zipIdx_iff_getElem?.mp h
theorem inV_idx {ps : List Pr} {l : List (Pr × Nat)} {x : Pr × Nat} (hl : ∀ y ∈ l, y ∈ ps.zipIdx) (hx : x ∈ ps.zipIdx) : inV (eI x) (l.map eI) = decide (x ∈ l) := by
  unfold inV
  by_cases h : x ∈ l
  · rw [decide_eq_true h, List.any_eq_true]
    refine ⟨eI x, List.mem_map.mpr ⟨x, h, rfl⟩, ?_⟩
    show ((x.2 : Int) == (x.2 : Int)) = true
    simp
  · rw [decide_eq_false h, List.any_eq_false]
    intro v hv e
    obtain ⟨y, hy, rfl⟩ := List.mem_map.mp hv
    have e2 : ((y.2 : Int) == (x.2 : Int)) = true := e
    have e3 : y.2 = x.2 := by
      have e5 := eq_of_beq e2
      omega
    have h1 := zidx (hl y hy)
    have h2 := zidx hx
    rw [e3, h2] at h1
    have e4 : x.1 = y.1 := Option.some.inj h1
    have : x = y := Prod.ext e4 e3.symm
    rw [this] at h
    exact h hy
theorem flat_eI (l : List (Pr × Nat)) : (l.map eI).all flatV = true := by
  rw [List.all_eq_true]
  intro v hv
  obtain ⟨y, _, rfl⟩ := List.mem_map.mp hv
  rfl
theorem ov_some {x : Pr} (h : x.1 ≠ none) : ov x.1 = .int (lim x) := by
  obtain ⟨c, w⟩ := x
  cases c with
  | none => exact absurd rfl h
  | some c => rfl
def WU (H : Hp) (total : Int) (la wa fa : Addr) (cap : Bool) (ps : List Pr) (m : Nat) (σ : L2.St) (H' : Hp) : Prop :=
  ∃ (p : Pr → Bool) (room W : Int) (fl : Addr) (v5 v6 v8 v10 : Option V), σ = [some (.int total), some (.ref la), some (.ref wa), some (.ref fa), some (.ref fl), v5, v6, some (.int room), v8, some (.int W), v10] ∧ Lev cap total ps p room W ∧
    H' fl = some (.lst ((ps.zipIdx.filter fun x => p x.1).map eI)) ∧ Same H H' ∧ m = (ps.zipIdx.filter fun x => p x.1).length
theorem Lev.small {cap : Bool} {total : Int} {ps : List Pr} {p : Pr → Bool} {room W : Int} (ft : Fits total ps) (h : Lev cap total ps p room W) : room ≤ total ∧ W ≤ sumW ps := by
  have h1 := sum_nonneg lim (ps.filter fun x => !p x) fun x hx => ft.good.l0 x (List.mem_filter.mp hx).1
  have h2 := sum_nonneg (fun x : Pr => x.2) (ps.filter fun x => !p x) fun x hx => ft.good.w0 x (List.mem_filter.mp hx).1
  have h3 := sum_split1 (fun x : Pr => x.2) p ps
  have e1 := h.eR
  have e2 := h.eW
  unfold sumL at e1
  unfold sumW at e2 ⊢
  omega
theorem Fits.small_w {total : Int} {ps : List Pr} (ft : Fits total ps) : ∀ x ∈ ps, small x.2 := fun x hx => by
  obtain ⟨s, t, e⟩ := List.append_of_mem hx
  have h1 := sum_nonneg (fun x : Pr => x.2) s fun y hy => ft.good.w0 y (by rw [e]; exact List.mem_append_left _ hy)
  have h2 := sum_nonneg (fun x : Pr => x.2) t fun y hy => ft.good.w0 y (by rw [e]; exact List.mem_append_right _ (List.mem_cons_of_mem _ hy))
  refine small_le (ft.good.w0 x hx) ?_ ft.w1
  unfold sumW
  rw [e, List.map_append, List.sum_append, List.map_cons, List.sum_cons]
  omega
theorem zlen (ps : List Pr) (q : Pr × Nat → Bool) : (ps.zipIdx.filter q).length ≤ ps.length := by
  refine Nat.le_trans (List.length_filter_le _ _) ?_
  rw [List.length_zipIdx]
  exact Nat.le_refl _
section
variable {P : Program} {w : World} {K : PySem.W.Frag} {mg : Str → Option Value} {base : Heap}
theorem binds_ok (T : Txt K mg) {cap : Bool} {fa : Addr} (hf : mg (nmB cap) = some (.ref fa)) (hb : hasB cap) : ∃ fd pn, FnOk P w K mg base CX0 1 fa fd pn (spB cap) ∧ PySem.W.keepIn K (.ref fa) = true ∧ Binds K fd pn [] := by
  cases cap with
  | true =>
    obtain ⟨f2, fd, F, G, m, b⟩ := ok_cap_binds (P := P) (w := w) (base := base) T
    have e := m.symm.trans hf
    cases e
    exact ⟨fd, _, G, F.kp, b⟩
  | false =>
    obtain ⟨f2, fd, F, G, m, b⟩ := ok_floor_binds (P := P) (w := w) (base := base) T
    have e := m.symm.trans hf
    cases e
    exact ⟨fd, _, G, F.kp, b⟩
theorem ok_unbound (T : Txt K mg) : Ok P w K mg base CX0 "unbound" s_p_unbound 2 ["total", "limits", "weights", "binds"] (spUnb mg) := by
  refine T.h_p_unbound.ok sc_p_unbound (fun vs H Q E h => ?_) (fun f cdv A outer s H vs Q E hr h => ?_)
  · obtain ⟨_, _, _, _, _, _, rfl, _⟩ := h; rfl
  obtain ⟨total, la, wa, fa, cap, ps, rfl, hf, hla, hwa, ft, lv, q⟩ := h
  obtain ⟨fd, pn, FB_binds, kB_binds, bB_binds⟩ := binds_ok (P := P) (w := w) (base := base) T hf.1 hf.2
  have n1 := ft.n1
  refine ⟨_, (pss_cons (ps_setLc (i := 4) (own := [("at", 5), ("weight", 6)]) (g := gTup K 2 (gCons (gName 5) (gCons (gName 6) gNil))) (by rfl) sc_p_unbound.nd rfl rfl (sw_true rfl rfl rfl (by decide +kernel)) (pi_enum (by rfl) T.m_enumerate (pa_cons (pv 2) pa_nil)) (blkOk_by (own := [("at", 5), ("weight", 6)]) (N := n_p_unbound) (sc := defScope s_p_unbound) (by decide +kernel)) (fun _ _ _ _ _ => (pg_tup rfl (pgs_cons (pg_name (i := 5) sc_p_unbound.nd rfl (by first | exact Or.inl rfl | exact Or.inr rfl)) (pgs_cons (pg_name (i := 6) sc_p_unbound.nd rfl (by first | exact Or.inl rfl | exact Or.inr rfl)) pgs_nil)))) (fun _ _ _ _ _ => (pts_one (pt_cmpR op_gt (pv 6) pe_int (nomark _)))) (fun _ _ _ _ _ => (pv 5)))
      (pss_cons (ps_set (i := 7) sc_p_unbound.nd rfl (by first | exact Or.inl rfl | exact Or.inr rfl) (pe_op op_sub (pv 0) (pe_callB (cr_sum rfl) (by rfl) T.m_sum (by decide +kernel) (pa_cons (pe_lc (own := [("limit", 8), ("weight", 6)]) (g := gTup K 2 (gCons (gName 8) (gCons (gName 6) gNil))) (by rfl) sc_p_unbound.nd (pi_zip (by rfl) T.m_zip (pa_cons (pv 1) (pa_cons (pv 2) pa_nil))) (blkOk_by (own := [("limit", 8), ("weight", 6)]) (N := n_p_unbound) (sc := defScope s_p_unbound) (by decide +kernel)) (fun _ _ _ _ _ => (pg_tup rfl (pgs_cons (pg_name (i := 8) sc_p_unbound.nd rfl (by first | exact Or.inl rfl | exact Or.inr rfl)) (pgs_cons (pg_name (i := 6) sc_p_unbound.nd rfl (by first | exact Or.inl rfl | exact Or.inr rfl)) pgs_nil)))) (fun _ _ _ _ _ => (pts_one (pt_cmpR op_eq (pv 6) pe_int (nomark _)))) (fun _ _ _ _ _ => (pv 8))) pa_nil))))
      (pss_cons (ps_set (i := 9) sc_p_unbound.nd rfl (by first | exact Or.inl rfl | exact Or.inr rfl) (pe_callB (cr_sum rfl) (by rfl) T.m_sum (by decide +kernel) (pa_cons (pv 2) pa_nil)))
      (pss_one (ps_while PassesOwn.never (pt_val pe_bl)
      (pss_cons (ps_set (i := 10) sc_p_unbound.nd rfl (by first | exact Or.inl rfl | exact Or.inr rfl) (pe_lc (own := [("at", 5)]) (tt := (tB (tCallL _ _ _ _ _ (tCons (tOp (rIxL K) (tVar 1) (tVar 5)) (tCons (tOp (rIxL K) (tVar 2) (tVar 5)) (tCons (tVar 7) (tCons (tVar 9) tNil))))))) (by rfl) sc_p_unbound.nd (pi_list (pv 4)) (blkOk_by (own := [("at", 5)]) (N := n_p_unbound) (sc := defScope s_p_unbound) (by decide +kernel)) (fun _ _ _ _ _ => (pg_name (i := 5) sc_p_unbound.nd rfl (by first | exact Or.inl rfl | exact Or.inr rfl))) (fun _ _ _ _ _ => (pts_one (pt_val (pe_callL FB_binds (hr.mono (by decide)) (i := 3) rfl (by first | exact Or.inl rfl | exact Or.inr (Or.inl rfl) | exact Or.inr (Or.inr rfl)) kB_binds bB_binds .nil pass0 (pa_cons (pe_ix ix_list (pv 1) (pv 5) (fun _ _ => rfl)) (pa_cons (pe_ix ix_list (pv 2) (pv 5) (fun _ _ => rfl)) (pa_cons (pv 7) (pa_cons (pv 9) pa_nil)))))))) (fun _ _ _ _ _ => (pv 5))))
      (pss_cons (ps_if (pt_cmpR op_eq (pe_callB call_len (by rfl) T.m_len (by decide +kernel) (pa_cons (pv 10) pa_nil)) pe_int (nomark _))
      (pss_one (ps_ret (pe_tup (pa_cons (pv 4) (pa_cons (pv 7) (pa_cons (pv 9) pa_nil))))))
      pss_nil)
      (pss_cons (ps_aug (i := 7) sc_p_unbound.nd rfl (by first | exact Or.inl rfl | exact Or.inr rfl) (pe_callB (cr_sum rfl) (by rfl) T.m_sum (by decide +kernel) (pa_cons (pe_lc (own := [("at", 5)]) (te := (tOp (rIxL K) (tVar 1) (tVar 5))) (by rfl) sc_p_unbound.nd (pi_list (pv 10)) (blkOk_by (own := [("at", 5)]) (N := n_p_unbound) (sc := defScope s_p_unbound) (by decide +kernel)) (fun _ _ _ _ _ => (pg_name (i := 5) sc_p_unbound.nd rfl (by first | exact Or.inl rfl | exact Or.inr rfl))) (fun _ _ _ _ _ => pts_nil) (fun _ _ _ _ _ => (pe_ix ix_list (pv 1) (pv 5) (fun _ _ => rfl)))) pa_nil)) ip_sub)
      (pss_cons (ps_aug (i := 9) sc_p_unbound.nd rfl (by first | exact Or.inl rfl | exact Or.inr rfl) (pe_callB (cr_sum rfl) (by rfl) T.m_sum (by decide +kernel) (pa_cons (pe_lc (own := [("at", 5)]) (te := (tOp (rIxL K) (tVar 2) (tVar 5))) (by rfl) sc_p_unbound.nd (pi_list (pv 10)) (blkOk_by (own := [("at", 5)]) (N := n_p_unbound) (sc := defScope s_p_unbound) (by decide +kernel)) (fun _ _ _ _ _ => (pg_name (i := 5) sc_p_unbound.nd rfl (by first | exact Or.inl rfl | exact Or.inr rfl))) (fun _ _ _ _ _ => pts_nil) (fun _ _ _ _ _ => (pe_ix ix_list (pv 2) (pv 5) (fun _ _ => rfl)))) pa_nil)) ip_sub)
      (pss_one (ps_setLc (i := 4) (own := [("at", 5)]) (tt := (tTest (tOp (rIn K true) (tVar 5) (tVar 10)))) (by rfl) sc_p_unbound.nd rfl rfl (sw_true rfl rfl rfl (by decide +kernel)) (pi_list (pv 4)) (blkOk_by (own := [("at", 5)]) (N := n_p_unbound) (sc := defScope s_p_unbound) (by decide +kernel)) (fun _ _ _ _ _ => (pg_name (i := 5) sc_p_unbound.nd rfl (by first | exact Or.inl rfl | exact Or.inr rfl))) (fun _ _ _ _ _ => (pts_one (pt_cmpR op_notIn_seq (pv 5) (pv 10) (by rfl)))) (fun _ _ _ _ _ => (pv 5))))))))))))), ?_⟩
  refine ⟨_, rfl, wa, _, rfl, .of hwa, fun D nD => lcF_enum (K := K) (as := ps) (fun x => V.int x.2) (fun y => if p0 y.1 = true then some y else none) eI (.of hwa) nD (by omega) ?_ ?_⟩
  · intro i x H' A' B' hx sm ka kb
    refine ⟨rfl, _, rfl, _, _, rfl, rfl, _, rfl, ite2 (fun e => ?_) (fun e => ?_)⟩
    · exact ⟨_, rfl, ka (x, i) _ (if_pos e) (Same.refl _)⟩
    · exact kb _ (if_neg e) (Same.refl _)
  intro H1 s1 e1
  rw [fm_filter (fun y : Pr × Nat => p0 y.1)] at e1
  refine ⟨_, rfl, _, rfl, _, rfl, la, wa, _, _, rfl, .of (s1 _ _ hla), .of (s1 _ _ hwa), fun D2 n2 => lcF_zip (K := K) (as := ps) (bs := ps) (fun x => ov x.1) (fun x => V.int x.2) (fun x y => if y.2 = 0 then some (lim x) else none) V.int (.of (s1 _ _ hla)) (.of (s1 _ _ hwa)) n2 (by omega) ?_ ?_⟩
  · intro i x y H' A' B' hx hy sm ka kb
    rw [hx] at hy
    cases hy
    refine ⟨rfl, _, rfl, rfl, _, rfl, ite2 (fun e => ?_) (fun e => ?_)⟩
    · have e0 : x.2 = 0 := by
        have := of_decide_eq_true e
        exact V.int.inj this
      refine ⟨_, rfl, ?_⟩
      rw [ov_some (lv.known x (List.mem_of_getElem? hx) (decide_eq_false (by omega)))]
      exact ka _ _ (if_pos e0) (Same.refl _)
    · refine kb _ (if_neg fun z => e ?_) (Same.refl _)
      rw [z]
      exact decide_eq_true rfl
  intro H2 s2 e2
  rw [fm_zip_self (fun (x y : Pr) => if y.2 = 0 then some (lim x) else none) ps, fm_zero ps ft.good.w0] at e2
  refine ⟨D2, _, rfl, .of e2, _, _, rfl, rfl, ?_⟩
  have hw2 : H2 wa = some (.lst ((ps.map fun x => x.2).map V.int)) := by
    rw [List.map_map]
    exact s2 _ _ (s1 _ _ hwa)
  refine ⟨_, rfl, wa, _, rfl, .of hw2, ?_⟩
  rw [← sumW_p0 ps ft.good.w0]
  refine ⟨WU H total la wa fa cap ps, ⟨_, p0, _, _, D, none, none, none, none, rfl, lv, s2 _ _ e1, s1.trans s2, rfl⟩, ?_⟩
  rintro m σ H' ⟨p, room, W, fl, v5, v6, v8, v10, rfl, L, hfl, sm, rfl⟩
  have hla' := sm _ _ hla
  have hwa' := sm _ _ hwa
  obtain ⟨b1, b2⟩ := L.small ft
  have sr : small room := small_le L.r0 b1 ft.t1
  have sw : small W := small_le (Int.le_of_lt L.w0) b2 ft.w1
  have kn : ∀ x ∈ ps, cap = false → x.1 ≠ none := fun x hx e => by
    have := L.over
    rw [if_neg (by rw [e]; decide)] at this
    exact this.1 x hx
  refine ⟨true, rfl, iteT ⟨fun σ' H'' => ∃ m', m' < (ps.zipIdx.filter fun x => p x.1).length ∧ WU H total la wa fa cap ps m' σ' H'', fun _ _ h => h, ?_⟩⟩
  refine ⟨_, rfl, fl, rfl, ⟨_, .of hfl⟩, fun B nB => lcF_list (K := K) (as := ps.zipIdx.filter fun x => p x.1) eI (fun y => if bnd cap y.1 room W = true then some y else none) eI (.of hfl) nB (Nat.le_trans (zlen _ _) (by omega)) ?_ ?_⟩
  · intro i x H3 A' B' hx s3 ka kb
    have hxm := (List.mem_filter.mp (List.mem_of_getElem? hx)).1
    have hp := zidx hxm
    have hpm := List.mem_of_getElem? hp
    refine ⟨rfl, rfl, _, rfl, _, rfl, la, _, _, _, rfl, rfl, .of (s3 _ _ hla'), atI_nat (j := x.2) (by rw [List.getElem?_map, hp]; rfl), _, rfl, _, rfl, wa, _, _, _, rfl, rfl, .of (s3 _ _ hwa'), atI_nat (j := x.2) (by rw [List.getElem?_map, hp]; rfl), _, rfl, _, rfl,
      x.1, room, W, rfl, kn x.1 hpm, ft.l1 x.1 hpm, ft.small_w x.1 hpm, sr, sw, _, rfl, ite2 (fun e => ?_) (fun e => ?_)⟩
    · exact ⟨_, rfl, ka x _ (if_pos e) (Same.refl _)⟩
    · exact kb _ (if_neg e) (Same.refl _)
  intro H3 s3 e3
  rw [fm_filter (fun y : Pr × Nat => bnd cap y.1 room W), ff] at e3
  have hla3 := s3 _ _ hla'
  have hwa3 := s3 _ _ hwa'
  have hfl3 := s3 _ _ hfl
  refine ⟨_, rfl, _, _, rfl, .inl ⟨_, .of e3, rfl⟩, rfl, _, rfl, ite2 (fun e => ?_) (fun e => ?_)⟩
  · have e0 : (ps.zipIdx.filter fun x => p x.1 && bnd cap x.1 room W) = [] := by
      have h1 := V.int.inj (of_decide_eq_true e)
      rw [List.length_map] at h1
      exact List.eq_nil_of_length_eq_zero (by omega)
    have hn : ∀ x ∈ ps, p x = true → bnd cap x room W = false := fun x hx px => by
      cases eb : bnd cap x room W with
      | false => rfl
      | true =>
        obtain ⟨i, hi⟩ := List.getElem?_of_mem hx
        have : (x, i) ∈ ps.zipIdx.filter fun x => p x.1 && bnd cap x.1 room W := List.mem_filter.mpr ⟨List.mem_zipIdx_iff_getElem?.mpr hi, by simp [px, eb]⟩
        rw [e0] at this
        cases this
    have es : (ps.zipIdx.filter fun x => p x.1) = frI cap room W ps := List.filter_congr fun x hx => L.same hn x.1 (List.mem_of_getElem? (zidx hx))
    refine ⟨_, rfl, _, rfl, _, rfl, (by show 3 ≤ sizeLine; decide), fun t nt => ?_⟩
    refine q t fl room W _ ?_ (L.fix hn) b1 b2 upd_same ?_ ((sm.trans s3).trans (same_upd nt))
    · cases eh : H t with
      | none => rfl
      | some o =>
        rw [s3 _ _ (sm _ _ eh)] at nt
        cases nt
    · rw [← es]
      exact same_upd nt _ _ hfl3
  have kb : ∀ y ∈ (ps.zipIdx.filter fun x => p x.1 && bnd cap x.1 room W), ps[y.2]? = some y.1 ∧ y.1.1 ≠ none := fun y hy => by
    obtain ⟨h1, h2⟩ := List.mem_filter.mp hy
    have hp := zidx h1
    refine ⟨hp, ?_⟩
    cases ec : cap with
    | false => exact kn _ (List.mem_of_getElem? hp) ec
    | true =>
      rw [ec] at h2
      simp at h2
      exact (bnd_cap h2.2).1
  have lb : (ps.zipIdx.filter fun x => p x.1 && bnd cap x.1 room W).length ≤ 40000 := Nat.le_trans (zlen _ _) (by omega)
  refine ⟨_, rfl, _, rfl, B, rfl, ⟨_, .of e3⟩, fun D4 n4 => lcF_list (K := K) (as := ps.zipIdx.filter fun x => p x.1 && bnd cap x.1 room W) eI (fun y => some (lim y.1)) V.int (.of e3) n4 lb ?_ ?_⟩
  · intro i x H4 A' B' hx s4 ka kb'
    obtain ⟨hp, hk⟩ := kb x (List.mem_of_getElem? hx)
    refine ⟨rfl, yes_if ⟨_, rfl, _, rfl, la, _, _, _, rfl, rfl, .of (s4 _ _ hla3), atI_nat (j := x.2) (by rw [List.getElem?_map, hp]; rfl), ?_⟩⟩
    show A' (ov x.1.1) H4
    rw [ov_some hk]
    exact ka _ _ rfl (Same.refl _)
  intro H4 s4 e4
  rw [fm_some] at e4
  refine ⟨D4, _, rfl, .of e4, _, _, rfl, rfl, ?_⟩
  refine ⟨_, rfl, _, rfl, B, rfl, ⟨_, .of (s4 _ _ e3)⟩, fun D5 n5 => lcF_list (K := K) (as := ps.zipIdx.filter fun x => p x.1 && bnd cap x.1 room W) eI (fun y => some y.1.2) V.int (.of (s4 _ _ e3)) n5 lb ?_ ?_⟩
  · intro i x H5 A' B' hx s5 ka kb'
    obtain ⟨hp, hk⟩ := kb x (List.mem_of_getElem? hx)
    exact ⟨rfl, yes_if ⟨_, rfl, _, rfl, wa, _, _, _, rfl, rfl, .of (s5 _ _ (s4 _ _ hwa3)), atI_nat (j := x.2) (by rw [List.getElem?_map, hp]; rfl), ka _ _ rfl (Same.refl _)⟩⟩
  intro H5 s5 e5
  rw [fm_some] at e5
  refine ⟨D5, _, rfl, .of e5, _, _, rfl, rfl, ?_⟩
  have hfl5 := s5 _ _ (s4 _ _ hfl3)
  have eB5 := s5 _ _ (s4 _ _ e3)
  refine ⟨_, rfl, fl, rfl, ⟨_, .of hfl5⟩, fun D6 n6 => lcF_list (K := K) (as := ps.zipIdx.filter fun x => p x.1) eI (fun y => if (!bnd cap y.1 room W) = true then some y else none) eI (.of hfl5) n6 (Nat.le_trans (zlen _ _) (by omega)) ?_ ?_⟩
  · intro i x H6 A' B' hx s6 ka kb'
    obtain ⟨hxm, hpx⟩ := List.mem_filter.mp (List.mem_of_getElem? hx)
    have hin : inV (eI x) ((ps.zipIdx.filter fun x => p x.1 && bnd cap x.1 room W).map eI) = bnd cap x.1 room W := by
      rw [inV_idx (ps := ps) (fun y hy => (List.mem_filter.mp hy).1) hxm]
      cases eb : bnd cap x.1 room W with
      | true => exact decide_eq_true (List.mem_filter.mpr ⟨hxm, by simp [hpx, eb]⟩)
      | false =>
        refine decide_eq_false fun z => ?_
        have z2 := (List.mem_filter.mp z).2
        simp [eb] at z2
    refine ⟨rfl, _, rfl, _, rfl, B, _, rfl, .inl (.of (s6 _ _ eB5)), rfl, flat_eI _, _, rfl, ?_⟩
    show if (!inV (eI x) ((ps.zipIdx.filter fun x => p x.1 && bnd cap x.1 room W).map eI)) = true then _ else _
    rw [hin]
    refine ite2 (fun e => ?_) (fun e => ?_)
    · exact ⟨_, rfl, ka x _ (if_pos e) (Same.refl _)⟩
    · exact kb' _ (if_neg e) (Same.refl _)
  intro H6 s6 e6
  rw [fm_filter (fun y : Pr × Nat => !bnd cap y.1 room W), ff] at e6
  have LS := L.step ft.good
  have z1 : ((ps.zipIdx.filter fun x => p x.1 && bnd cap x.1 room W).map fun y => lim y.1).sum = sumL (ps.filter fun x => p x && bnd cap x room W) := by
    rw [zip_fst (fun x => p x && bnd cap x room W) lim]
    rfl
  have z2 : ((ps.zipIdx.filter fun x => p x.1 && bnd cap x.1 room W).map fun y => y.1.2).sum = sumW (ps.filter fun x => p x && bnd cap x room W) := by
    rw [zip_fst (fun x => p x && bnd cap x room W) (fun x => x.2)]
    rfl
  have hne : 0 < (ps.zipIdx.filter fun x => p x.1 && bnd cap x.1 room W).length := by
    rcases Nat.eq_zero_or_pos (ps.zipIdx.filter fun x => p x.1 && bnd cap x.1 room W).length with h0 | h0
    · exfalso
      apply e
      rw [List.length_map, h0]
      exact decide_eq_true rfl
    · exact h0
  have hlen := filter_split_len (fun x : Pr × Nat => p x.1) (fun x => bnd cap x.1 room W) ps.zipIdx
  refine ⟨_, ?_, fun x => p x && !bnd cap x room W, _, _, D6, _, _, _, _, rfl, ?_, e6, (((sm.trans s3).trans s4).trans s5).trans s6, rfl⟩
  · show (ps.zipIdx.filter fun x => p x.1 && !bnd cap x.1 room W).length < _
    omega
  · show Lev cap total ps _ (room - _) (W - _)
    rw [z1, z2]
    exact LS
end

/-! ### dealt, levelled -/
theorem sback {H H' : Hp} {p : Addr} (s : Same H H') (n : H' p = none) : H p = none := by
  cases e : H p with
  | none => rfl
  | some o =>
    rw [s _ _ e] at n
    cases n
theorem ixN_at {n j : Nat} (hj : j < n) : ixN n (j : Int) = some j := by
  unfold ixN
  rw [if_pos (by omega), if_pos (by omega)]
  simp
def lims1 (x : Pr) : Pr := if 0 < x.2 then x else (some 0, x.2)
def lims (ps : List Pr) : List Pr := ps.map lims1
def allCapped (total : Int) (ps : List Pr) : Prop := (∀ x ∈ lims ps, x.1 ≠ none) ∧ sumL (lims ps) ≤ total
def Dealt (total : Int) (ps : List Pr) (lv : Option (Int × Int)) (parts : List Int) : Prop :=
  (allCapped total ps ∧ lv = none ∧ parts = (lims ps).map lim) ∨ (¬ allCapped total ps ∧ ∃ room W, Fix true total (lims ps) room W ∧ lv = some (low room W) ∧ parts = runP room W (free true room W) 0 (lims ps))
def Levelled (total : Int) (ps : List Pr) (lv : Option (Int × Int)) (parts : List Int) : Prop :=
  ((sumW ps = 0 ∨ total ≤ sumL ps) ∧ lv = none ∧ parts = ps.map lim) ∨ (¬ (sumW ps = 0 ∨ total ≤ sumL ps) ∧ ∃ room W, Fix false total ps room W ∧ lv = some (low room W) ∧ parts = runP room W (free false room W) 0 ps)
def spDealt : Sp := fun vs H Q _ => ∃ (total : Int) (ca wa : Addr) (ps : List Pr), vs = [.int total, .ref ca, .ref wa] ∧ H ca = some (.lst (ps.map fun x => ov x.1)) ∧ H wa = some (.lst (ps.map fun x => .int x.2)) ∧ Fits total ps ∧
  ∀ t p lvv lv parts H', H t = none → H p = none → Dealt total ps lv parts → H' t = some (.tup [lvv, .ref p]) → LvAt H' lvv lv → H' p = some (.lst (parts.map V.int)) → Same H H' → Q (.ref t) H'
def spLevelled : Sp := fun vs H Q _ => ∃ (total : Int) (ca wa : Addr) (ps : List Pr), vs = [.int total, .ref ca, .ref wa] ∧ H ca = some (.lst (ps.map fun x => ov x.1)) ∧ H wa = some (.lst (ps.map fun x => .int x.2)) ∧ (∀ x ∈ ps, x.1 ≠ none) ∧ Fits total ps ∧
  ∀ t p lvv lv parts H', H t = none → H p = none → Levelled total ps lv parts → H' t = some (.tup [lvv, .ref p]) → LvAt H' lvv lv → H' p = some (.lst (parts.map V.int)) → Same H H' → Q (.ref t) H'
theorem lims_w (ps : List Pr) : (lims ps).map (fun x => V.int x.2) = ps.map fun x => V.int x.2 := by
  unfold lims
  rw [List.map_map]
  refine List.map_congr_left fun x _ => ?_
  show V.int (lims1 x).2 = V.int x.2
  unfold lims1
  split <;> rfl
theorem lims_sumW (ps : List Pr) : sumW (lims ps) = sumW ps := by
  unfold sumW lims
  rw [List.map_map]
  congr 1
  refine List.map_congr_left fun x _ => ?_
  show (lims1 x).2 = x.2
  unfold lims1
  split <;> rfl
theorem fits_lims {total : Int} {ps : List Pr} (h : Fits total ps) : Fits total (lims ps) := by
  have key : ∀ y ∈ lims ps, ∃ x ∈ ps, y = lims1 x := fun y hy => by
    obtain ⟨x, hx, e⟩ := List.mem_map.mp hy
    exact ⟨x, hx, e.symm⟩
  refine ⟨⟨fun y hy => ?_, fun y hy => ?_⟩, h.t0, h.t1, fun y hy => ?_, by rw [lims_sumW]; exact h.w1, by unfold lims; rw [List.length_map]; exact h.n1⟩
  · obtain ⟨x, hx, rfl⟩ := key y hy
    have := h.good.w0 x hx
    unfold lims1
    split <;> exact this
  · obtain ⟨x, hx, rfl⟩ := key y hy
    have := h.good.l0 x hx
    unfold lims1
    split
    · exact this
    · exact Int.le_refl 0
  · obtain ⟨x, hx, rfl⟩ := key y hy
    have := h.l1 x hx
    unfold lims1
    split
    · exact this
    · exact Nat.two_pow_pos 400
theorem lims_not {ps : List Pr} {x : Pr} (hx : x ∈ lims ps) (h : p0 x = false) : x.1 = some 0 := by
  obtain ⟨y, _, rfl⟩ := List.mem_map.mp hx
  unfold lims1 at h ⊢
  split
  · rename_i h1
    rw [if_pos h1] at h
    rw [show p0 y = true from decide_eq_true h1] at h
    cases h
  · rfl
theorem sum_zero {α : Type} (f : α → Int) : ∀ l : List α, (∀ x ∈ l, f x = 0) → (l.map f).sum = 0
  | [], _ => rfl
  | x :: r, h => by
    rw [List.map_cons, List.sum_cons, h x List.mem_cons_self, sum_zero f r fun y hy => h y (List.mem_cons_of_mem _ hy)]
    rfl
theorem lev0_cap {total : Int} {ps : List Pr} (ft : Fits total ps) (h : ¬ allCapped total ps) : Lev0 true total (lims ps) := by
  have z : sumL ((lims ps).filter fun x => !p0 x) = 0 := sum_zero lim _ fun x hx => by
    obtain ⟨h1, h2⟩ := List.mem_filter.mp hx
    unfold lim
    rw [lims_not h1 (by simpa using h2)]
    rfl
  have s1 := sum_split1 lim p0 (lims ps)
  have ov : (∃ x ∈ lims ps, p0 x = true ∧ x.1 = none) ∨ total < sumL ((lims ps).filter p0) := by
    by_cases hn : ∃ x ∈ lims ps, x.1 = none
    · obtain ⟨x, hx, e⟩ := hn
      left
      refine ⟨x, hx, ?_, e⟩
      cases hp : p0 x with
      | true => rfl
      | false => rw [lims_not hx hp] at e; cases e
    · right
      have hk : ∀ x ∈ lims ps, x.1 ≠ none := fun x hx e => hn ⟨x, hx, e⟩
      have : ¬ sumL (lims ps) ≤ total := fun z => h ⟨hk, z⟩
      unfold sumL at this z ⊢
      omega
  unfold Lev0
  rw [z]
  refine ⟨fun x _ hp => of_decide_eq_true hp, rfl, by rw [z], filter_pos (fun x _ hp => of_decide_eq_true hp) ?_, by have := ft.t0; omega, fun x _ hx hp => ?_, fun x hx hp => by rw [lims_not hx hp]; simp, ?_⟩
  · rcases ov with ⟨x, hx, hp, _⟩ | h1
    · exact ⟨x, hx, hp⟩
    · by_cases hn : ∃ x ∈ lims ps, p0 x = true
      · exact hn
      · rw [none_free hn] at h1
        have : sumL [] = 0 := rfl
        have := ft.t0
        omega
  · rw [show p0 x = true from decide_eq_true hx] at hp
    cases hp
  · rw [if_pos rfl]
    rcases ov with h1 | h1
    · exact .inl h1
    · exact .inr (by omega)
theorem lev0_flo {total : Int} {ps : List Pr} (ft : Fits total ps) (hk : ∀ x ∈ ps, x.1 ≠ none) (h : ¬ (sumW ps = 0 ∨ total ≤ sumL ps)) : Lev0 false total ps := by
  have s1 := sum_split1 lim p0 ps
  have g1 := sum_nonneg lim (ps.filter p0) fun x hx => ft.good.l0 x (List.mem_filter.mp hx).1
  have g2 := sum_nonneg (fun x : Pr => x.2) ps fun x hx => ft.good.w0 x hx
  have e1 := sumW_p0 ps ft.good.w0
  have h1 : ¬ sumW ps = 0 := fun z => h (.inl z)
  have h2 : ¬ total ≤ sumL ps := fun z => h (.inr z)
  unfold sumL at h2
  unfold sumW at h1
  refine ⟨fun x _ hp => of_decide_eq_true hp, rfl, rfl, by rw [e1]; omega, ?_, fun x _ hx hp => ?_, fun x hx _ => hk x hx, ?_⟩
  · unfold sumL
    omega
  · rw [show p0 x = true from decide_eq_true hx] at hp
    cases hp
  · rw [if_neg (by decide)]
    refine ⟨hk, ?_⟩
    unfold sumL
    omega
theorem ovs_known {ps : List Pr} (h : ∀ x ∈ ps, x.1 ≠ none) : (ps.map fun x => ov x.1) = (ps.map lim).map V.int := by
  rw [List.map_map]
  exact List.map_congr_left fun x hx => ov_some (h x hx)
theorem ovs_runP {room W : Int} {f : Pr → Bool} {ps : List Pr} (h : ∀ x ∈ ps, f x = false → x.1 ≠ none) :
    setAll (ps.map fun x => ov x.1) ((((ps.zipIdx).filter fun x => f x.1).map fun x => x.2).zip ((runs room W 0 ((ps.zipIdx.filter fun x => f x.1).map fun x => x.1.2)).map V.int)) = (runP room W f 0 ps).map V.int :=
  setAll_run room W f V.int (fun x => ov x.1) ps [] 0 fun x hx hf => ov_some (h x hx hf)
theorem flat_ov (ps : List Pr) : (ps.map fun x => ov x.1).all flatV = true := by
  rw [List.all_eq_true]
  intro v hv
  obtain ⟨⟨c, _⟩, _, rfl⟩ := List.mem_map.mp hv
  cases c <;> rfl
theorem in_none (ps : List Pr) : inV .non (ps.map fun x => ov x.1) = decide (¬ ∀ x ∈ ps, x.1 ≠ none) := by
  unfold inV
  by_cases h : ∀ x ∈ ps, x.1 ≠ none
  · rw [decide_eq_false fun z => z h, List.any_eq_false]
    intro v hv e
    obtain ⟨x, hx, rfl⟩ := List.mem_map.mp hv
    simp only [ov_some (h x hx)] at e
    cases e
  · rw [decide_eq_true h, List.any_eq_true]
    have : ∃ x ∈ ps, x.1 = none := by
      refine Classical.byContradiction fun z => h fun x hx e => z ⟨x, hx, e⟩
    obtain ⟨x, hx, e⟩ := this
    refine ⟨ov x.1, List.mem_map.mpr ⟨x, hx, rfl⟩, ?_⟩
    rw [e]
    rfl
section
variable {P : Program} {w : World} {K : PySem.W.Frag} {mg : Str → Option Value} {base : Heap}
theorem ok_by_level (T : Txt K mg) : Ok P w K mg base CX0 "by_level" s_p_by_level 3 ["total", "limits", "weights", "binds"] (spBy mg) := by
  have O_p_unbound := ok_unbound (P := P) (w := w) (base := base) T
  have O_p_running_parts := ok_running (P := P) (w := w) (base := base) T
  have O_p_in_lowest_terms := ok_low (P := P) (w := w) (base := base) T
  refine T.h_p_by_level.ok sc_p_by_level (fun vs H Q E h => ?_) (fun f cdv A outer s H vs Q E hr h => ?_)
  · obtain ⟨_, _, _, _, _, _, rfl, _⟩ := h; rfl
  obtain ⟨total, la, wa, fa, cap, ps, rfl, hf, hla, hwa, ft, lv, q⟩ := h
  have n1 := ft.n1
  refine ⟨_, (pss_cons (ps_asg (callO O_p_unbound (hr.mono (by decide)) (by rfl) (pa_cons (pv 0) (pa_cons (pv 1) (pa_cons (pv 2) (pa_cons (pv 3) pa_nil))))) (pg_tup rfl (pgs_cons (pg_name (i := 4) sc_p_by_level.nd rfl (by first | exact Or.inl rfl | exact Or.inr rfl)) (pgs_cons (pg_name (i := 5) sc_p_by_level.nd rfl (by first | exact Or.inl rfl | exact Or.inr rfl)) (pgs_cons (pg_name (i := 6) sc_p_by_level.nd rfl (by first | exact Or.inl rfl | exact Or.inr rfl)) pgs_nil)))))
      (pss_cons (ps_set (i := 7) sc_p_by_level.nd rfl (by first | exact Or.inl rfl | exact Or.inr rfl) (pe_callTy call_list_of (by rfl) T.m_list (by decide +kernel) (pa_cons (pv 1) pa_nil)))
      (pss_cons (ps_for PassesOwn.never rfl (pi_zip (by rfl) T.m_zip (pa_cons (pv 4) (pa_cons (callO O_p_running_parts (hr.mono (by decide)) (by rfl) (pa_cons (pv 5) (pa_cons (pe_lc (own := [("place", 10)]) (te := (tOp (rIxL K) (tVar 2) (tVar 10))) (by rfl) sc_p_by_level.nd (pi_list (pv 4)) (blkOk_by (own := [("place", 10)]) (N := n_p_by_level) (sc := defScope s_p_by_level) (by decide +kernel)) (fun _ _ _ _ _ => (pg_name (i := 10) sc_p_by_level.nd rfl (by first | exact Or.inl rfl | exact Or.inr rfl))) (fun _ _ _ _ _ => pts_nil) (fun _ _ _ _ _ => (pe_ix ix_list (pv 2) (pv 10) (fun _ _ => rfl)))) pa_nil))) pa_nil))) (pg_tup rfl (pgs_cons (pg_name (i := 8) sc_p_by_level.nd rfl (by first | exact Or.inl rfl | exact Or.inr rfl)) (pgs_cons (pg_name (i := 9) sc_p_by_level.nd rfl (by first | exact Or.inl rfl | exact Or.inr rfl)) pgs_nil)))
      (pss_one (ps_asg (pv 9) (pg_sub (pv 7) (pv 8) set_list))))
      (pss_one (ps_ret (pe_tup (pa_cons (callO O_p_in_lowest_terms (hr.mono (by decide)) (by rfl) (pa_cons (pv 5) (pa_cons (pv 6) pa_nil))) (pa_cons (pv 7) pa_nil)))))))), ?_⟩
  refine ⟨_, rfl, _, rfl, _, rfl, _, rfl, total, la, wa, fa, cap, ps, rfl, hf, hla, hwa, ft, lv, fun t fl room W H1 nt fx b1 b2 et efl s1 => ⟨t, _, rfl, .of et, rfl, _, _, rfl, _, _, rfl, _, _, rfl, rfl, ?_⟩⟩
  have sr : small room := small_le fx.r0 b1 ft.t1
  have sw : small W := small_le (Int.le_of_lt fx.w0) b2 ft.w1
  refine ⟨_, rfl, la, _, rfl, .inl (.of (s1 _ _ hla)), fun Pp nP => ?_⟩
  have s2 := same_upd (o := .lst (ps.map fun x => ov x.1)) nP
  have eP : (upd H1 Pp (.lst (ps.map fun x => ov x.1))) Pp = some (.lst (ps.map fun x => ov x.1)) := upd_same
  generalize upd H1 Pp (.lst (ps.map fun x => ov x.1)) = H2 at s2 eP ⊢
  have hwa2 := s2 _ _ (s1 _ _ hwa)
  have hfl2 := s2 _ _ efl
  refine ⟨_, rfl, _, rfl, _, rfl, fl, rfl, ⟨_, .of hfl2⟩, fun D nD => lcF_list (K := K) (as := frI cap room W ps) eI (fun y => some y.1.2) V.int (.of hfl2) nD (Nat.le_trans (zlen _ _) (by omega)) ?_ ?_⟩
  · intro i x H3 A' B' hx s3 ka kb
    have hp := zidx (List.mem_filter.mp (List.mem_of_getElem? hx)).1
    exact ⟨rfl, yes_if ⟨_, rfl, _, rfl, wa, _, _, _, rfl, rfl, .of (s3 _ _ hwa2), atI_nat (j := x.2) (by rw [List.getElem?_map, hp]; rfl), ka _ _ rfl (Same.refl _)⟩⟩
  intro H3 s3 e3
  rw [fm_some] at e3
  have eW : ((frI cap room W ps).map fun y => y.1.2).sum = W := by
    unfold frI
    rw [zip_fst (free cap room W) (fun x => x.2)]
    exact fx.eW.symm
  refine ⟨room, D, _, rfl, e3, ?_, by rw [eW]; exact fx.w0, by rw [eW]; exact sw, sr, ?_, fun R H4 nR s4 eR => ?_⟩
  · intro n hn
    obtain ⟨y, hy, rfl⟩ := List.mem_map.mp hn
    exact ft.good.w0 _ (List.mem_of_getElem? (zidx (List.mem_filter.mp hy).1))
  · rw [List.length_map]
    exact Nat.le_trans (zlen _ _) (by omega)
  rw [eW] at eR
  have hfl4 := s4 _ _ (s3 _ _ hfl2)
  have eP4 := s4 _ _ (s3 _ _ eP)
  have nfl : fl ≠ Pp := ne_of_none efl nP
  have nR2 : R ≠ Pp := fun z => by
    rw [z] at nR
    rw [s3 _ _ eP] at nR
    cases nR
  have efl' : (frI cap room W ps).map eI = ((frI cap room W ps).map fun x => x.2).map fun (n : Nat) => V.int (n : Int) := by
    rw [List.map_map]
    rfl
  have hlen : (((frI cap room W ps).map fun x => x.2).zip ((runs room W 0 ((frI cap room W ps).map fun y => y.1.2)).map V.int)).length = min ((frI cap room W ps).map eI).length ((runs room W 0 ((frI cap room W ps).map fun y => y.1.2)).map V.int).length := by
    rw [List.length_zip, List.length_map, List.length_map, List.length_map]
  refine ⟨fl, R, _, _, rfl, .of hfl4, .of eR, for_it (L2.walk_zip (xs := (frI cap room W ps).map eI) (ys := (runs room W 0 ((frI cap room W ps).map fun y => y.1.2)).map V.int) hlen)
    (fun i σ H' => ∃ v8 v9 v10, σ = [some (.int total), some (.ref la), some (.ref wa), some (.ref fa), some (.ref fl), some (.int room), some (.int W), some (.ref Pp), v8, v9, v10] ∧ H' Pp = some (.lst (setAll (ps.map fun x => ov x.1) ((((frI cap room W ps).map fun x => x.2).zip ((runs room W 0 ((frI cap room W ps).map fun y => y.1.2)).map V.int)).take i))) ∧ Off Pp H4 H')
    ⟨none, none, none, rfl, eP4, Off.refl⟩ (fun i σ H' _ h => by
      obtain ⟨_, _, _, _, _, o⟩ := h
      exact ⟨.of (o _ _ hfl4 nfl), .of (o _ _ eR nR2)⟩) ?_ ?_⟩
  · rintro i y σ H' H'' hi ⟨v8, v9, v10, rfl, hP, o⟩ ⟨Tt, x, z, rfl, nT, rfl, hx, hz⟩
    replace hx : ((frI cap room W ps).map eI)[i]? = some x := hx
    replace hz : ((runs room W 0 ((frI cap room W ps).map fun y => y.1.2)).map V.int)[i]? = some z := hz
    rw [List.getElem?_map] at hx
    cases ex : (frI cap room W ps)[i]? with
    | none => rw [ex] at hx; cases hx
    | some yy =>
      rw [ex] at hx
      cases hx
      have hp := zidx (List.mem_filter.mp (List.mem_of_getElem? ex)).1
      have ez : (((frI cap room W ps).map fun x => x.2).zip ((runs room W 0 ((frI cap room W ps).map fun y => y.1.2)).map V.int))[i]? = some (yy.2, z) := by
        rw [List.getElem?_zip_eq_some]
        refine ⟨?_, hz⟩
        rw [List.getElem?_map, ex]
        rfl
      have hP2 := same_upd (o := .tup [eI yy, z]) nT _ _ hP
      have nTP : Tt ≠ Pp := (ne_of_none hP nT).symm
      refine ⟨Tt, _, rfl, .of upd_same, rfl, _, _, rfl, _, _, rfl, rfl, ?_⟩
      refine ⟨_, rfl, _, rfl, _, rfl, Pp, _, _, yy.2, rfl, rfl, hP2, ?_, ?_⟩
      · refine ixN_at ?_
        rw [setAll_len, List.length_map]
        exact (List.getElem?_eq_some_iff.mp hp).1
      refine ⟨_, _, _, rfl, ?_, ?_⟩
      · rw [upd_same, List.take_add_one, ez]
        show _ = some (HO.lst (setAll _ (_ ++ [(yy.2, z)])))
        rw [setAll_snoc]
      · exact (o.trans (off_new nT)).trans off_upd
  rintro σ H' ⟨v8, v9, v10, rfl, hP, o⟩
  rw [List.take_length] at hP
  rw [show (frI cap room W ps) = ps.zipIdx.filter (fun x => free cap room W x.1) from rfl, ovs_runP fx.known] at hP
  have e1 : (room.toNat : Int) = room := Int.toNat_of_nonneg fx.r0
  have e2 : (W.toNat : Int) = W := Int.toNat_of_nonneg (Int.le_of_lt fx.w0)
  have s5 : Same H H' := fun b x e => o b x (s4 _ _ (s3 _ _ (s2 _ _ (s1 _ _ e)))) (ne_of_none (s1 _ _ e) nP)
  refine ⟨_, rfl, _, rfl, room.toNat, W.toNat, by rw [e1, e2]; rfl, by have := fx.w0; omega, by rw [e1]; exact sr, by rw [e2]; exact sw, fun L H5 nL s6 eL => ⟨_, rfl, (by show 2 ≤ sizeLine; decide), fun t2 nt2 => ?_⟩⟩
  have s7 := same_upd (o := .tup [.ref L, .ref Pp]) nt2
  exact q t2 Pp (.ref L) room W _ (sback s5 (sback s6 nt2)) (sback s1 nP) fx upd_same ⟨L, rfl, s7 _ _ eL⟩ (s7 _ _ (s6 _ _ hP)) ((s5.trans s6).trans s7)
theorem ok_dealt (T : Txt K mg) : Ok P w K mg base CX0 "dealt" s_p_dealt 5 ["total", "caps", "weights"] spDealt := by
  have O_p_refuse_no_counts := ok_no_counts (P := P) (w := w) (base := base) T
  have O_p_refuse_no_list := ok_no_list (P := P) (w := w) (base := base) T
  have O_p_refuse_no_weights := ok_no_weights (P := P) (w := w) (base := base) T
  have O_p_by_level := ok_by_level (P := P) (w := w) (base := base) T
  obtain ⟨f_p_cap_binds, _, _, g_p_cap_binds, _⟩ := T.h_p_cap_binds
  refine T.h_p_dealt.ok sc_p_dealt (fun vs H Q E h => ?_) (fun f cdv A outer s H vs Q E hr h => ?_)
  · obtain ⟨_, _, _, _, rfl, _⟩ := h; rfl
  obtain ⟨total, ca, wa, ps, rfl, hca, hwa, ft, q⟩ := h
  have n1 := ft.n1
  refine ⟨_, (pss_cons (ps_expr (callO O_p_refuse_no_counts (hr.mono (by decide)) (by rfl) (pa_cons (pe_lst (pa_cons (pv 0) pa_nil)) pa_nil)))
      (pss_cons (ps_expr (callO O_p_refuse_no_list (hr.mono (by decide)) (by rfl) (pa_cons (pv 1) pa_nil)))
      (pss_cons (ps_expr (callO O_p_refuse_no_counts (hr.mono (by decide)) (by rfl) (pa_cons (pe_lc (own := [("cap", 3)]) (by rfl) sc_p_dealt.nd (pi_list (pv 1)) (blkOk_by (own := [("cap", 3)]) (N := n_p_dealt) (sc := defScope s_p_dealt) (by decide +kernel)) (fun _ _ _ _ _ => (pg_name (i := 3) sc_p_dealt.nd rfl (by first | exact Or.inl rfl | exact Or.inr rfl))) (fun _ _ _ _ _ => (pts_one (pt_cmpR op_notN (pv 3) pe_non (nomark _)))) (fun _ _ _ _ _ => (pv 3))) pa_nil)))
      (pss_cons (ps_expr (callO O_p_refuse_no_weights (hr.mono (by decide)) (by rfl) (pa_cons (pv 2) (pa_cons (pe_callB call_len (by rfl) T.m_len (by decide +kernel) (pa_cons (pv 1) pa_nil)) pa_nil))))
      (pss_cons (ps_setLc (i := 4) (own := [("cap", 3), ("weight", 5)]) (g := gTup K 2 (gCons (gName 3) (gCons (gName 5) gNil))) (by rfl) sc_p_dealt.nd rfl rfl (sw_true rfl rfl rfl (by decide +kernel)) (pi_zip (by rfl) T.m_zip (pa_cons (pv 1) (pa_cons (pv 2) pa_nil))) (blkOk_by (own := [("cap", 3), ("weight", 5)]) (N := n_p_dealt) (sc := defScope s_p_dealt) (by decide +kernel)) (fun _ _ _ _ _ => (pg_tup rfl (pgs_cons (pg_name (i := 3) sc_p_dealt.nd rfl (by first | exact Or.inl rfl | exact Or.inr rfl)) (pgs_cons (pg_name (i := 5) sc_p_dealt.nd rfl (by first | exact Or.inl rfl | exact Or.inr rfl)) pgs_nil)))) (fun _ _ _ _ _ => pts_nil) (fun _ _ _ _ _ => (pe_ifExp (pt_cmpR op_gt (pv 5) pe_int (nomark _)) (pv 3) pe_int)))
      (pss_cons (ps_if (PW.pt (pw_and (pt_cmpR op_notIn_seq pe_non (pv 4) (by rfl)) (pw_and1 (pt_cmpR op_le (pe_callB (cr_sum rfl) (by rfl) T.m_sum (by decide +kernel) (pa_cons (pv 4) pa_nil)) (pv 0) (nomark _)))))
      (pss_one (ps_ret (pe_tup (pa_cons pe_non (pa_cons (pv 4) pa_nil)))))
      pss_nil)
      (pss_one (ps_ret (callO O_p_by_level (hr.mono (by decide)) (by rfl) (pa_cons (pv 0) (pa_cons (pv 4) (pa_cons (pv 2) (pa_cons (pe_glob (v := .ref f_p_cap_binds) (by rfl) g_p_cap_binds rfl) pa_nil))))))))))))), ?_⟩
  refine ⟨_, rfl, (by show 1 ≤ sizeLine; decide), fun p1 m1 => ⟨p1, [total], rfl, upd_same, fun n hn => by rw [List.mem_singleton.mp hn]; exact ft.t0, ?_⟩⟩
  have s1 := same_upd (o := .lst [.int total]) m1
  show tSeq _ _ _ _ (upd H p1 (.lst [.int total]))
  generalize upd H p1 (.lst [.int total]) = H1 at s1 ⊢
  refine ⟨_, rfl, ca, _, rfl, s1 _ _ hca, ?_⟩
  refine ⟨_, rfl, ca, rfl, ⟨_, .of (s1 _ _ hca)⟩, fun D nD => lcF_list (K := K) (as := ps) (fun x => ov x.1) (fun x => x.1) V.int (.of (s1 _ _ hca)) nD (by omega) ?_ ?_⟩
  · rintro i ⟨c, wt⟩ H' A' B' hx sm ka kb
    cases c with
    | none => exact ⟨rfl, _, rfl, rfl, _, rfl, iteF (kb _ rfl (Same.refl _))⟩
    | some c => exact ⟨rfl, _, rfl, rfl, _, rfl, iteT ⟨_, rfl, ka _ _ rfl (Same.refl _)⟩⟩
  intro H2 s2 e2
  refine ⟨D, _, rfl, e2, fun n hn => ?_, ?_⟩
  · obtain ⟨x, hx, e⟩ := List.mem_filterMap.mp hn
    have := ft.good.l0 x hx
    unfold lim at this
    rw [e] at this
    exact this
  have s12 := s1.trans s2
  have hwa2 : H2 wa = some (.lst ((ps.map fun x => x.2).map V.int)) := by
    rw [List.map_map]
    exact s12 _ _ hwa
  refine ⟨_, rfl, _, rfl, _, _, rfl, .inl ⟨_, .of (s12 _ _ hca), rfl⟩, wa, ps.map fun x => x.2, ?_, hwa2, fun n hn => ?_, ?_⟩
  · rw [List.length_map, List.length_map]
    rfl
  · obtain ⟨x, hx, rfl⟩ := List.mem_map.mp hn
    exact ft.good.w0 x hx
  refine ⟨_, rfl, _, rfl, ca, wa, _, _, rfl, .of (s12 _ _ hca), .of (s12 _ _ hwa), fun L nL => lcF_zip (K := K) (as := ps) (bs := ps) (fun x => ov x.1) (fun x => V.int x.2) (fun x _ => some (lims1 x)) (fun x => ov x.1) (.of (s12 _ _ hca)) (.of (s12 _ _ hwa)) nL (by omega) ?_ ?_⟩
  · intro i x y H' A' B' hx hy sm ka kb
    rw [hx] at hy
    cases hy
    refine ⟨rfl, yes_if ⟨_, rfl, _, _, rfl, rfl, _, rfl, ite2 (fun e => ⟨_, rfl, ?_⟩) (fun e => ?_)⟩⟩
    · have h1 : 0 < x.2 := of_decide_eq_true e
      have := ka _ _ rfl (Same.refl H')
      unfold lims1 at this
      rw [if_pos h1] at this
      exact this
    · have h1 : ¬ 0 < x.2 := fun z => e (decide_eq_true z)
      have := ka _ _ rfl (Same.refl H')
      unfold lims1 at this
      rw [if_neg h1] at this
      exact this
  intro H3 s3 e3
  rw [fm_zip_self (fun (x _ : Pr) => some (lims1 x)) ps, fm_some] at e3
  replace e3 : H3 L = some (.lst ((lims ps).map fun x => ov x.1)) := e3
  have s13 := s12.trans s3
  have byl : ¬ allCapped total ps → tRet (tCall (spBy mg) [] E0 (tCons (tVar 0) (tCons (tVar 4) (tCons (tVar 2) (tCons (tC (.ref f_p_cap_binds)) tNil))))) { nx := fun _ H' => Q .non H', rt := Q } (List.set (L2.start n_p_dealt [V.int total, V.ref ca, V.ref wa]) 4 (some (.ref L))) H3 := fun hn => by
    refine ⟨_, rfl, _, rfl, _, rfl, total, L, wa, f_p_cap_binds, true, lims ps, rfl, ⟨g_p_cap_binds, by first | exact trivial | exact rfl⟩, e3, ?_, fits_lims ft, lev0_cap ft hn, fun t p lvv room W H' nt np fx et el ep sm => ?_⟩
    · rw [lims_w]
      exact s13 _ _ hwa
    · exact q t p lvv _ _ H' (sback s13 nt) (sback s13 np) (.inr ⟨hn, room, W, fx, rfl, rfl⟩) et el ep (s13.trans sm)
  refine ⟨_, rfl, L, _, rfl, .inl (.of e3), rfl, flat_ov _, _, rfl, ?_⟩
  rw [in_none]
  by_cases hk : ∀ x ∈ lims ps, x.1 ≠ none
  · rw [decide_eq_false fun z => z hk]
    have e4 := e3
    rw [ovs_known hk] at e4
    refine iteT ⟨_, rfl, L, _, rfl, .of e4, _, rfl, _, _, rfl, rfl, _, rfl, ite2 (fun e => ?_) (fun e => ?_)⟩
    · refine ⟨_, rfl, (by show 2 ≤ sizeLine; decide), fun t nt => ?_⟩
      have s4 := same_upd (o := .tup [.non, .ref L]) nt
      exact q t L .non none _ _ (sback s13 nt) (sback s12 nL) (.inl ⟨⟨hk, of_decide_eq_true e⟩, rfl, rfl⟩) upd_same rfl (s4 _ _ e4) (s13.trans s4)
    · exact byl fun z => e (decide_eq_true z.2)
  · rw [decide_eq_true hk]
    exact iteF (iteF (byl fun z => hk z.1))
theorem ok_levelled (T : Txt K mg) : Ok P w K mg base CX0 "levelled" s_p_levelled 5 ["total", "floors", "weights"] spLevelled := by
  have O_p_refuse_no_counts := ok_no_counts (P := P) (w := w) (base := base) T
  have O_p_refuse_no_list := ok_no_list (P := P) (w := w) (base := base) T
  have O_p_refuse_no_weights := ok_no_weights (P := P) (w := w) (base := base) T
  have O_p_by_level := ok_by_level (P := P) (w := w) (base := base) T
  obtain ⟨f_p_floor_binds, _, _, g_p_floor_binds, _⟩ := T.h_p_floor_binds
  refine T.h_p_levelled.ok sc_p_levelled (fun vs H Q E h => ?_) (fun f cdv A outer s H vs Q E hr h => ?_)
  · obtain ⟨_, _, _, _, rfl, _⟩ := h; rfl
  obtain ⟨total, ca, wa, ps, rfl, hca, hwa, hk, ft, q⟩ := h
  have n1 := ft.n1
  refine ⟨_, (pss_cons (ps_expr (callO O_p_refuse_no_counts (hr.mono (by decide)) (by rfl) (pa_cons (pe_lst (pa_cons (pv 0) pa_nil)) pa_nil)))
      (pss_cons (ps_expr (callO O_p_refuse_no_list (hr.mono (by decide)) (by rfl) (pa_cons (pv 1) pa_nil)))
      (pss_cons (ps_expr (callO O_p_refuse_no_counts (hr.mono (by decide)) (by rfl) (pa_cons (pv 1) pa_nil)))
      (pss_cons (ps_expr (callO O_p_refuse_no_weights (hr.mono (by decide)) (by rfl) (pa_cons (pv 2) (pa_cons (pe_callB call_len (by rfl) T.m_len (by decide +kernel) (pa_cons (pv 1) pa_nil)) pa_nil))))
      (pss_cons (ps_if (PW.pt (pw_or (pt_cmpR op_eq (pe_callB (cr_sum rfl) (by rfl) T.m_sum (by decide +kernel) (pa_cons (pv 2) pa_nil)) pe_int (nomark _)) (pw_or1 (pt_cmpR op_ge (pe_callB (cr_sum rfl) (by rfl) T.m_sum (by decide +kernel) (pa_cons (pv 1) pa_nil)) (pv 0) (nomark _)))))
      (pss_one (ps_ret (pe_tup (pa_cons pe_non (pa_cons (pe_callTy call_list_of (by rfl) T.m_list (by decide +kernel) (pa_cons (pv 1) pa_nil)) pa_nil)))))
      pss_nil)
      (pss_one (ps_ret (callO O_p_by_level (hr.mono (by decide)) (by rfl) (pa_cons (pv 0) (pa_cons (pv 1) (pa_cons (pv 2) (pa_cons (pe_glob (v := .ref f_p_floor_binds) (by rfl) g_p_floor_binds rfl) pa_nil)))))))))))), ?_⟩
  refine ⟨_, rfl, (by show 1 ≤ sizeLine; decide), fun p1 m1 => ⟨p1, [total], rfl, upd_same, fun n hn => by rw [List.mem_singleton.mp hn]; exact ft.t0, ?_⟩⟩
  have s1 := same_upd (o := .lst [.int total]) m1
  show tSeq _ _ _ _ (upd H p1 (.lst [.int total]))
  generalize upd H p1 (.lst [.int total]) = H1 at s1 ⊢
  have hca1 : H1 ca = some (.lst ((ps.map lim).map V.int)) := by
    rw [← ovs_known hk]
    exact s1 _ _ hca
  have hwa1 : H1 wa = some (.lst ((ps.map fun x => x.2).map V.int)) := by
    rw [List.map_map]
    exact s1 _ _ hwa
  refine ⟨_, rfl, ca, _, rfl, s1 _ _ hca, ?_⟩
  refine ⟨_, rfl, ca, _, rfl, hca1, fun n hn => ?_, ?_⟩
  · obtain ⟨x, hx, rfl⟩ := List.mem_map.mp hn
    exact ft.good.l0 x hx
  refine ⟨_, rfl, _, rfl, _, _, rfl, .inl ⟨_, .of (s1 _ _ hca), rfl⟩, wa, ps.map fun x => x.2, ?_, hwa1, fun n hn => ?_, ?_⟩
  · rw [List.length_map, List.length_map]
    rfl
  · obtain ⟨x, hx, rfl⟩ := List.mem_map.mp hn
    exact ft.good.w0 x hx
  have ret : (sumW ps = 0 ∨ total ≤ sumL ps) → tRet (tTup (tCons (tC .non) (tCons (tCB (fun xs H Q => ∃ p ys, xs = [.ref p] ∧ (SqL K H p ys ∨ SqT K H p ys) ∧ ∀ l, H l = none → Q (.ref l) (upd H l (.lst ys))) (tCons (tVar 1) tNil)) tNil))) { nx := fun _ H' => Q .non H', rt := Q } (L2.start n_p_levelled [V.int total, V.ref ca, V.ref wa]) H1 := fun hn => by
    refine ⟨_, rfl, ca, _, rfl, .inl (.of hca1), fun L nL => ⟨(by show 2 ≤ sizeLine; decide), fun t nt => ?_⟩⟩
    have s2 := same_upd (o := .lst ((ps.map lim).map V.int)) nL
    have s3 := same_upd (o := .tup [.non, .ref L]) nt
    exact q t L .non none _ _ (sback s1 (sback s2 nt)) (sback s1 nL) (.inl ⟨hn, rfl, rfl⟩) upd_same rfl (s3 _ _ upd_same) ((s1.trans s2).trans s3)
  refine ⟨_, rfl, wa, _, rfl, .of hwa1, rfl, _, rfl, ite2 (fun e => iteT ?_) (fun e => ?_)⟩
  · exact ret (.inl (V.int.inj (of_decide_eq_true e)))
  refine ⟨_, rfl, ca, _, rfl, .of hca1, _, rfl, _, _, rfl, rfl, _, rfl, ite2 (fun e2 => ?_) (fun e2 => ?_)⟩
  · exact ret (.inr (of_decide_eq_true e2))
  have hn : ¬ (sumW ps = 0 ∨ total ≤ sumL ps) := fun z => by
    rcases z with z | z
    · apply e
      unfold sumW at z
      rw [z]
      exact decide_eq_true rfl
    · exact e2 (decide_eq_true z)
  refine ⟨_, rfl, _, rfl, _, rfl, total, ca, wa, f_p_floor_binds, false, ps, rfl, ⟨g_p_floor_binds, by first | exact trivial | exact rfl⟩, s1 _ _ hca, s1 _ _ hwa, ft, lev0_flo ft hk hn, fun t p lvv room W H' nt np fx et el ep sm => ?_⟩
  exact q t p lvv _ _ H' (sback s1 nt) (sback s1 np) (.inr ⟨hn, room, W, fx, rfl, rfl⟩) et el ep (s1.trans sm)
end

/-! ### a level that is known -/
theorem mk_fits {α : Type} (f : α → Int) : ∀ (l : List α) (B : Int), (∀ x ∈ l, f x ≤ B) → 0 ≤ B → (l.map f).sum ≤ (l.length : Int) * B
  | [], B, _, _ => by simp
  | x :: r, B, h, hB => by
    have h1 := h x List.mem_cons_self
    have h2 := mk_fits f r B (fun y hy => h y (List.mem_cons_of_mem _ hy)) hB
    rw [List.map_cons, List.sum_cons, List.length_cons, Int.natCast_add, Int.add_mul]
    omega
def fnd (top : Int) (x : Pr) : Int := match x.1 with
  | none => x.2 * top
  | some c => if x.2 * top < c then x.2 * top else c
def fndF (top : Int) (x : Pr) : Int := if x.2 * top > lim x then x.2 * top else lim x
def wt (bot : Int) (x : Pr) : Pr := (x.1, x.2 * bot)
def above (top : Int) (x : Pr) : Bool := decide (0 < x.2) && (match x.1 with | none => true | some c => decide (x.2 * top < c))
section
variable {top bot : Int}
theorem free_wt (hb : 0 < bot) (x : Pr) (h0 : 0 ≤ x.2) : free true top bot (lims1 (wt bot x)) = above top x := by
  obtain ⟨c, u⟩ := x
  have h0 : 0 ≤ u := h0
  unfold lims1 wt above
  by_cases hu : 0 < u
  · have hw : 0 < u * bot := Int.mul_pos hu hb
    rw [if_pos hw]
    unfold free
    show (decide (0 < u * bot) && !bnd true (c, u * bot) top bot) = _
    rw [decide_eq_true hw, decide_eq_true hu]
    cases c with
    | none => rfl
    | some c =>
      show (!decide (c * bot ≤ top * (u * bot))) = decide (u * top < c)
      have e : top * (u * bot) = u * top * bot := by rw [← Int.mul_assoc, Int.mul_comm top u]
      rw [e]
      by_cases h : c ≤ u * top
      · rw [decide_eq_true (Int.mul_le_mul_of_nonneg_right h (Int.le_of_lt hb)), decide_eq_false (by omega)]
        rfl
      · rw [decide_eq_false (fun z => h (Int.le_of_mul_le_mul_right z hb)), decide_eq_true (by omega)]
        rfl
  · have hu0 : u = 0 := by omega
    subst hu0
    rw [if_neg (by simp)]
    unfold free
    show (decide (0 < 0 * bot) && _) = (decide ((0 : Int) < 0) && _)
    rw [Int.zero_mul]
    rfl
theorem lim_wt (hb : 0 < bot) (x : Pr) (h0 : 0 ≤ x.2) (hl : 0 ≤ lim x) (h : above top x = false) : lims1 (wt bot x) ≠ (none, x.2 * bot) ∧ (lims1 (wt bot x)).1 ≠ none ∧ lim (lims1 (wt bot x)) = fnd top x := by
  obtain ⟨c, u⟩ := x
  have h0 : 0 ≤ u := h0
  unfold lims1 wt fnd
  unfold above at h
  by_cases hu : 0 < u
  · have hw : 0 < u * bot := Int.mul_pos hu hb
    simp only [hw, if_true]
    simp only [hu, decide_true, Bool.true_and] at h
    cases c with
    | none => cases h
    | some c =>
      have h1 : ¬ u * top < c := of_decide_eq_false h
      refine ⟨by simp, by simp, ?_⟩
      show c = if u * top < c then u * top else c
      rw [if_neg h1]
  · have hu0 : u = 0 := by omega
    subst hu0
    simp only [Int.zero_mul, Int.lt_irrefl, if_false]
    refine ⟨by simp, by simp, ?_⟩
    cases c with
    | none => rfl
    | some c =>
      have : 0 ≤ c := hl
      show 0 = if 0 < c then 0 else c
      split <;> omega
theorem val_wt (hb : 0 < bot) (x : Pr) (h0 : 0 ≤ x.2) (hl : 0 ≤ lim x) : val true top bot (lims1 (wt bot x)) = fnd top x * bot := by
  unfold val
  rw [free_wt hb x h0]
  cases h : above top x with
  | true =>
    obtain ⟨c, u⟩ := x
    unfold above at h
    rw [Bool.and_eq_true] at h
    have hu : 0 < u := of_decide_eq_true h.1
    have hw : 0 < u * bot := Int.mul_pos hu hb
    rw [if_pos rfl]
    unfold lims1 wt fnd
    simp only [hw, if_true]
    have e : top * (u * bot) = u * top * bot := by rw [← Int.mul_assoc, Int.mul_comm top u]
    rw [e]
    cases c with
    | none => rfl
    | some c =>
      have h1 : u * top < c := of_decide_eq_true h.2
      show _ = (if u * top < c then u * top else c) * bot
      rw [if_pos h1]
  | false =>
    rw [if_neg (by decide), (lim_wt hb x h0 hl h).2.2]
theorem part_wt (hb : 0 < bot) (x : Pr) (h0 : 0 ≤ x.2) (hl : 0 ≤ lim x) : (if above top x = true then top * ((lims1 (wt bot x)).2 / bot) else lim (lims1 (wt bot x))) = fnd top x := by
  have e2 : (lims1 (wt bot x)).2 = x.2 * bot := by
    unfold lims1
    split <;> rfl
  cases h : above top x with
  | true =>
    rw [if_pos rfl, e2, Int.mul_ediv_cancel _ (by omega)]
    obtain ⟨c, u⟩ := x
    unfold above at h
    rw [Bool.and_eq_true] at h
    unfold fnd
    cases c with
    | none => exact Int.mul_comm _ _
    | some c =>
      have h1 : u * top < c := of_decide_eq_true h.2
      show top * u = if u * top < c then u * top else c
      rw [if_pos h1, Int.mul_comm]
  | false =>
    rw [if_neg (by decide), (lim_wt hb x h0 hl h).2.2]
end
theorem known_cap {t b : Nat} {ps : List Pr} (hb : 0 < b) (hg : Nat.gcd t b = 1) (g : Good ps) {lv : Option (Int × Int)} {parts : List Int} (h : Dealt (ps.map (fnd (t : Int))).sum (ps.map (wt (b : Int))) lv parts) :
    parts = ps.map (fnd (t : Int)) ∧ lv = if ps.any (above (t : Int)) = true then some ((t : Int), (b : Int)) else none := by
  have hb' : (0 : Int) < (b : Int) := by omega
  have el : lims (ps.map (wt (b : Int))) = ps.map fun x => lims1 (wt (b : Int) x) := by
    unfold lims
    rw [List.map_map]
    rfl
  cases hA : ps.any (above (t : Int)) with
  | true =>
    rw [List.any_eq_true] at hA
    obtain ⟨x, hx, ax⟩ := hA
    have V1 : Val true (ps.map (fnd (t : Int))).sum (lims (ps.map (wt (b : Int)))) (t : Int) (b : Int) := by
      refine ⟨hb', by omega, ?_, lims1 (wt (b : Int) x), ?_, ?_⟩
      · rw [el, List.map_map, ← sum_mulr]
        congr 1
        exact List.map_congr_left fun y hy => val_wt hb' y (g.w0 y hy) (g.l0 y hy)
      · rw [el]
        exact List.mem_map.mpr ⟨x, hx, rfl⟩
      · rw [free_wt hb' x (g.w0 x hx)]
        exact ax
    rcases h with ⟨hc, _⟩ | ⟨_, room, W, fx, rfl, rfl⟩
    · exfalso
      have := V1.over hc.1 fun y hy hy0 => by
        unfold val
        rw [if_neg]
        intro z
        have := (free_iff.mp z).1
        omega
      have := hc.2
      omega
    · have e := fx.val.unique V1
      refine ⟨?_, by rw [if_pos rfl, low_of e hg hb fx.w0 fx.r0]⟩
      have := runP_exact fx.w0 e (free true room W) (lims (ps.map (wt (b : Int)))) 0 (fun y hy => by
        rw [el] at hy
        obtain ⟨z, _, rfl⟩ := List.mem_map.mp hy
        refine ⟨z.2, ?_⟩
        unfold lims1
        split <;> rfl) hb'
      rw [Int.zero_mul] at this
      rw [this, el, List.map_map]
      refine List.map_congr_left fun y hy => ?_
      show (if free true room W (lims1 (wt (b : Int) y)) = true then _ else _) = _
      rw [free_same fx.w0 hb' e, free_wt hb' y (g.w0 y hy)]
      exact part_wt hb' y (g.w0 y hy) (g.l0 y hy)
  | false =>
    rw [List.any_eq_false] at hA
    have hA' : ∀ y ∈ ps, above (t : Int) y = false := fun y hy => by
      cases e : above (t : Int) y with
      | false => rfl
      | true => exact absurd e (hA y hy)
    have em : (lims (ps.map (wt (b : Int)))).map lim = ps.map (fnd (t : Int)) := by
      rw [el, List.map_map]
      exact List.map_congr_left fun y hy => (lim_wt hb' y (g.w0 y hy) (g.l0 y hy) (hA' y hy)).2.2
    have hc : allCapped (ps.map (fnd (t : Int))).sum (ps.map (wt (b : Int))) := by
      refine ⟨fun y hy => ?_, ?_⟩
      · rw [el] at hy
        obtain ⟨z, hz, rfl⟩ := List.mem_map.mp hy
        exact (lim_wt hb' z (g.w0 z hz) (g.l0 z hz) (hA' z hz)).2.1
      · unfold sumL
        rw [em]
        exact Int.le_refl _
    rcases h with ⟨_, rfl, rfl⟩ | ⟨hn, _⟩
    · exact ⟨em, by rw [if_neg (by decide)]⟩
    · exact absurd hc hn
theorem sumW_pos {ls : List Pr} (h : ∀ x ∈ ls, 0 ≤ x.2) (hx : ∃ x ∈ ls, 0 < x.2) : 0 < sumW ls := by
  have := sum_lt (fun _ => 0) (fun x => x.2) (ls := ls) h hx
  rw [sum_zero (fun _ => 0) ls fun _ _ => rfl] at this
  exact this
theorem free_wtF {top bot : Int} (hb : 0 < bot) (ht : 0 ≤ top) (x : Pr) (h0 : 0 ≤ x.2) (hl : 0 ≤ lim x) : free false top bot (wt bot x) = decide (x.2 * top > lim x) := by
  obtain ⟨c, u⟩ := x
  have h0 : 0 ≤ u := h0
  unfold free wt
  show (decide (0 < u * bot) && !decide (top * (u * bot) ≤ c.getD 0 * bot)) = decide (u * top > c.getD 0)
  have hl : 0 ≤ c.getD 0 := hl
  have e : top * (u * bot) = u * top * bot := by rw [← Int.mul_assoc, Int.mul_comm top u]
  rw [e]
  by_cases h : u * top ≤ c.getD 0
  · rw [decide_eq_true (Int.mul_le_mul_of_nonneg_right h (Int.le_of_lt hb)), decide_eq_false (show ¬ u * top > c.getD 0 by omega)]
    simp
  · have hu : 0 < u := by
      rcases Int.lt_or_le 0 u with z | z
      · exact z
      · exfalso
        have : u = 0 := by omega
        rw [this, Int.zero_mul] at h
        omega
    rw [decide_eq_false (fun z => h (Int.le_of_mul_le_mul_right z hb)), decide_eq_true (Int.mul_pos hu hb), decide_eq_true (by omega)]
    rfl
theorem known_flo {t b : Nat} {ps : List Pr} (hb : 0 < b) (hg : Nat.gcd t b = 1) (g : Good ps) {lv : Option (Int × Int)} {parts : List Int} (h : Levelled (ps.map (fndF (t : Int))).sum (ps.map (wt (b : Int))) lv parts) :
    parts = ps.map (fndF (t : Int)) ∧ lv = if ps.any (fun x => decide (x.2 * (t : Int) > lim x)) = true then some ((t : Int), (b : Int)) else none := by
  have hb' : (0 : Int) < (b : Int) := by omega
  have ht' : (0 : Int) ≤ (t : Int) := by omega
  cases hA : ps.any (fun x => decide (x.2 * (t : Int) > lim x)) with
  | true =>
    rw [List.any_eq_true] at hA
    obtain ⟨x, hx, ax⟩ := hA
    have V1 : Val false (ps.map (fndF (t : Int))).sum (ps.map (wt (b : Int))) (t : Int) (b : Int) := by
      refine ⟨hb', by omega, ?_, wt (b : Int) x, List.mem_map.mpr ⟨x, hx, rfl⟩, ?_⟩
      · rw [List.map_map, ← sum_mulr]
        congr 1
        refine List.map_congr_left fun y hy => ?_
        show val false (t : Int) (b : Int) (wt (b : Int) y) = fndF (t : Int) y * (b : Int)
        unfold val fndF
        rw [free_wtF hb' ht' y (g.w0 y hy) (g.l0 y hy)]
        by_cases e : y.2 * (t : Int) > lim y
        · rw [if_pos (decide_eq_true e), if_pos e]
          show (t : Int) * (y.2 * (b : Int)) = _
          rw [← Int.mul_assoc, Int.mul_comm (t : Int)]
        · rw [if_neg (by rw [decide_eq_false e]; decide), if_neg e]
          rfl
      · rw [free_wtF hb' ht' x (g.w0 x hx) (g.l0 x hx)]
        exact ax
    rcases h with ⟨hc, _⟩ | ⟨_, room, W, fx, rfl, rfl⟩
    · exfalso
      rcases hc with hc | hc
      · obtain ⟨y, hy, fy⟩ := V1.fr
        have := sumW_pos (ls := ps.map (wt (b : Int))) (fun z hz => by
          obtain ⟨v, hv, rfl⟩ := List.mem_map.mp hz
          exact Int.mul_nonneg (g.w0 v hv) (Int.le_of_lt hb')) ⟨y, hy, (free_iff.mp fy).1⟩
        omega
      · have := V1.under
        omega
    · have e := fx.val.unique V1
      refine ⟨?_, by rw [if_pos rfl, low_of e hg hb fx.w0 fx.r0]⟩
      have := runP_exact fx.w0 e (free false room W) (ps.map (wt (b : Int))) 0 (fun y hy => by
        obtain ⟨z, _, rfl⟩ := List.mem_map.mp hy
        exact ⟨z.2, rfl⟩) hb'
      rw [Int.zero_mul] at this
      rw [this, List.map_map]
      refine List.map_congr_left fun y hy => ?_
      show (if free false room W (wt (b : Int) y) = true then (t : Int) * (y.2 * (b : Int) / (b : Int)) else lim y) = fndF (t : Int) y
      rw [free_same fx.w0 hb' e, free_wtF hb' ht' y (g.w0 y hy) (g.l0 y hy), Int.mul_ediv_cancel _ (by omega)]
      unfold fndF
      by_cases e : y.2 * (t : Int) > lim y
      · rw [if_pos (decide_eq_true e), if_pos e, Int.mul_comm]
      · rw [if_neg (by rw [decide_eq_false e]; decide), if_neg e]
  | false =>
    rw [List.any_eq_false] at hA
    have em : (ps.map (wt (b : Int))).map lim = ps.map (fndF (t : Int)) := by
      rw [List.map_map]
      refine List.map_congr_left fun y hy => ?_
      show lim y = fndF (t : Int) y
      unfold fndF
      rw [if_neg]
      intro z
      exact hA y hy (decide_eq_true z)
    rcases h with ⟨_, rfl, rfl⟩ | ⟨hn, _⟩
    · exact ⟨em, by rw [if_neg (by decide)]⟩
    · exfalso
      apply hn
      right
      unfold sumL
      rw [em]
      exact Int.le_refl _

/-! ### lists of numbers as data -/
def datI (ns : List Int) : PyData := .list (ns.map PyData.int)
theorem dpI_all {K : PySem.W.Frag} {H : Hp} : ∀ ns : List Int, DpAll K H (ns.map V.int) (ns.map PyData.int)
  | [] => .nil
  | n :: r => .cons (.int n) (dpI_all r)
theorem dp_ints {K : PySem.W.Frag} {H : Hp} {a : Addr} {ns : List Int} (h : SqL K H a (ns.map V.int)) : Dp K H (.ref a) (datI ns) := .lst h (dpI_all ns)
theorem can_ints : ∀ ns : List Int, PyData.canLayAll0 (ns.map PyData.int) = true
  | [] => rfl
  | n :: r => by
    show (true && PyData.canLayAll0 (r.map PyData.int)) = true
    rw [can_ints r]
    rfl
theorem depth_ints : ∀ ns : List Int, PyData.depthAll (ns.map PyData.int) = 0
  | [] => rfl
  | n :: r => by
    show max 0 (PyData.depthAll (r.map PyData.int)) = 0
    rw [depth_ints r]
    rfl
theorem shaped_ints (ns : List Int) : SeqAt.shaped (datI ns) = true := by
  unfold SeqAt.shaped datI
  rw [Bool.and_eq_true]
  refine ⟨can_ints ns, ?_⟩
  show decide (PyData.depthAll (ns.map PyData.int) + 1 ≤ 64) = true
  rw [depth_ints]
  rfl
theorem eqv_datI : ∀ ns ms : List Int, PyData.eqv (datI ns) (datI ms) = decide (ns = ms) := by
  have key : ∀ ns ms : List Int, PyData.eqvAll (ns.map PyData.int) (ms.map PyData.int) = decide (ns = ms) := by
    intro ns
    induction ns with
    | nil =>
      intro ms
      cases ms with
      | nil => rfl
      | cons m r => simp [PyData.eqvAll]
    | cons n r ih =>
      intro ms
      cases ms with
      | nil => simp [PyData.eqvAll]
      | cons m q =>
        show (PyData.eqv (.int n) (.int m) && PyData.eqvAll (r.map PyData.int) (q.map PyData.int)) = _
        rw [ih q]
        show ((n == m) && decide (r = q)) = _
        by_cases h1 : n = m
        · by_cases h2 : r = q
          · simp [h1, h2]
          · simp [h1, h2]
        · simp [h1]
  intro ns ms
  exact key ns ms

/-! ### draws -/
theorem pick {ns : List Int} {r : Int} (h0 : 0 ≤ r) (h1 : r < (ns.length : Int)) (Pm : Int → Prop) (h : ∀ n ∈ ns, Pm n) : ∃ m : Int, atI (ns.map V.int) r = some (.int m) ∧ Pm m := by
  obtain ⟨v, hv, ha⟩ := atI_mem (xs := ns.map V.int) (i := r) h0 (by rw [List.length_map]; exact h1)
  obtain ⟨m, hm, rfl⟩ := List.mem_map.mp hv
  exact ⟨m, ha, h m hm⟩
theorem Off.same {p : Addr} {H H' : Hp} (s : Same H H') : Off p H H' := .of s
theorem Off.back {p D : Addr} {H H' : Hp} (o : Off p H H') (n : H' D = none) (h : D ≠ p) : H D = none := by
  cases e : H D with
  | none => rfl
  | some x =>
    rw [o _ _ e h] at n
    cases n
theorem lcD {β : Type} {J : It} {n : Nat} {G : Hp → Prop} {Y : Nat → Hp → V → Hp → Prop} (w : Walk J n G Y) {te : TE} {vs : List Nat} {σ : L2.St} {H1 : Hp} {D p : Addr} {j : Nat} {Qd : Hp → Prop} (e2 : β → V) (Yv : Nat → V → Prop) (hY : ∀ i H x H', Y i H x H' → H' = H ∧ Yv i x) (R : Nat → β → Prop)
    (hS : Src H1 p) (nD : H1 D = none) (hz : n ≤ 40000) (hG : ∀ H, Off p H1 H → G H)
    (hs : ∀ i x H (A : V → Hp → Prop), i < n → Yv i x → Src H p → Off p H1 H → (∀ z H', R i z → Src H' p → Off p H H' → A (e2 z) H') → wipe ((wipe σ vs).set j (some x)) vs = wipe σ vs ∧ te ((wipe σ vs).set j (some x)) H A)
    (hd : ∀ H (zs : List β), D ≠ p → zs.length = n → (∀ i z, zs[i]? = some z → R i z) → H D = some (.lst (zs.map e2)) → Src H p → Off p H1 H → Qd H) :
    ∃ W : Nat → Nat → Hp → Prop, (∃ m, W 0 m (upd H1 D (.lst []))) ∧ ∀ i m H, W i m H →
      (J.stop i H ∧ Qd H) ∨ (J.go i H ∧ ∃ Nx : Hp → Prop, (∀ H', Nx H' → ∃ m', m' < m ∧ W (i + 1) m' H') ∧ ∀ x H', J.yld i H x H' → gName j x (wipe σ vs) H' fun σ2 H2 => wipe σ2 vs = wipe σ vs ∧ tYes σ2 H2 fun b H3 =>
        if b = true then te σ2 H3 fun y H4 => ∃ acc, H4 D = some (.lst acc) ∧ acc.length < sizeLine ∧ Nx (upd H4 D (.lst (acc ++ [y]))) else Nx H3) := by
  have hDp := hS.ne_new nD
  refine lc_it w (fun i H => ∃ zs : List β, zs.length = i ∧ (∀ i z, zs[i]? = some z → R i z) ∧ H D = some (.lst (zs.map e2)) ∧ Src H p ∧ Off p H1 H) ⟨[], rfl, fun i z h => by simp at h, upd_same, hS.keep nD, off_new nD⟩ (fun i H _ h => by obtain ⟨_, _, _, _, _, o⟩ := h; exact hG H o) ?_ ?_
  · rintro i x H H' hi ⟨zs, hl, hR, eD, sH, o⟩ hy
    obtain ⟨rfl, yv⟩ := hY i H x H' hy
    obtain ⟨h1, h2⟩ := hs i x H' (fun y H4 => ∃ acc, H4 D = some (.lst acc) ∧ acc.length < sizeLine ∧ ∃ zs : List β, zs.length = i + 1 ∧ (∀ i z, zs[i]? = some z → R i z) ∧ (upd H4 D (.lst (acc ++ [y]))) D = some (.lst (zs.map e2)) ∧ Src (upd H4 D (.lst (acc ++ [y]))) p ∧ Off p H1 (upd H4 D (.lst (acc ++ [y])))) hi yv sH o (fun z H4 rz s4 o4 => by
      refine ⟨_, o4 _ _ eD hDp, ?_, zs ++ [z], ?_, ?_, ?_, ?_, ?_⟩
      · rw [List.length_map, hl]
        exact big (by omega)
      · rw [List.length_append, hl]
        rfl
      · intro k y hk
        rcases Nat.lt_or_ge k zs.length with hlt | hge
        · rw [List.getElem?_append_left hlt] at hk
          exact hR k y hk
        · rw [List.getElem?_append_right hge] at hk
          have hk0 : k - zs.length = 0 := by
            have := (List.getElem?_eq_some_iff.mp hk).1
            simp at this
            omega
          rw [hk0] at hk
          cases hk
          have : k = i := by omega
          rw [this]
          exact rz
      · rw [upd_same, List.map_append]
        rfl
      · obtain ⟨a, b, c, e⟩ := s4
        exact ⟨a, b, c, by rw [upd_ne hDp.symm]; exact e⟩
      · intro b x hb hne
        rw [upd_ne (ne_of_none hb nD)]
        exact o4 _ _ (o _ _ hb hne) hne)
    exact ⟨h1, yes_if h2⟩
  · rintro H ⟨zs, hl, hR, eD, sH, o⟩
    exact hd H zs hDp hl hR eD sH o
/-! ### levels and lists as data -/
def dLv : Option (Int × Int) → PyData
  | none => .none
  | some (a, b) => .tuple [.int a, .int b]
def datT (lv : Option (Int × Int)) (ps : List Int) : PyData := .tuple [dLv lv, datI ps]
theorem dp_lv {K : PySem.W.Frag} {H : Hp} {v : V} {lv : Option (Int × Int)} (h : LvAt H v lv) : Dp K H v (dLv lv) := by
  cases lv with
  | none =>
    rw [show v = .non from h]
    exact .non
  | some ab =>
    obtain ⟨a, b⟩ := ab
    obtain ⟨q, rfl, e⟩ := h
    exact .tup (.of e) (.cons (.int a) (.cons (.int b) .nil))
theorem dp_T {K : PySem.W.Frag} {H : Hp} {t p : Addr} {lvv : V} {lv : Option (Int × Int)} {ps : List Int} (et : H t = some (.tup [lvv, .ref p])) (h : LvAt H lvv lv) (ep : H p = some (.lst (ps.map V.int))) : Dp K H (.ref t) (datT lv ps) :=
  .tup (.of et) (.cons (dp_lv h) (.cons (dp_ints (.of ep)) .nil))
theorem shaped_T (lv : Option (Int × Int)) (ps : List Int) : SeqAt.shaped (datT lv ps) = true := by
  unfold SeqAt.shaped datT
  rw [Bool.and_eq_true]
  constructor
  · show (PyData.canLay0 (dLv lv) && (PyData.canLay0 (datI ps) && true)) = true
    have h1 : PyData.canLay0 (dLv lv) = true := by
      cases lv with
      | none => rfl
      | some ab => rfl
    have h2 : PyData.canLay0 (datI ps) = true := can_ints ps
    rw [h1, h2]
    rfl
  · have h2 : PyData.depth (datI ps) = 1 := by
      show PyData.depthAll (ps.map PyData.int) + 1 = 1
      rw [depth_ints]
    cases lv with
    | none =>
      show decide (max 0 (max (PyData.depth (datI ps)) 0) + 1 ≤ 64) = true
      rw [h2]
      rfl
    | some ab =>
      show decide (max 1 (max (PyData.depth (datI ps)) 0) + 1 ≤ 64) = true
      rw [h2]
      rfl
theorem eqv_T (lv lv' : Option (Int × Int)) (ps ps' : List Int) : PyData.eqv (datT lv ps) (datT lv' ps') = decide (lv = lv' ∧ ps = ps') := by
  have h1 : PyData.eqv (dLv lv) (dLv lv') = decide (lv = lv') := by
    cases lv with
    | none =>
      cases lv' with
      | none => rfl
      | some ab => rfl
    | some ab =>
      cases lv' with
      | none => rfl
      | some cd =>
        obtain ⟨a, b⟩ := ab
        obtain ⟨c, d⟩ := cd
        show ((a == c) && ((b == d) && true)) = _
        by_cases e1 : a = c
        · by_cases e2 : b = d
          · simp [e1, e2]
          · simp [e1, e2]
        · simp [e1]
  show (PyData.eqv (dLv lv) (dLv lv') && (PyData.eqv (datI ps) (datI ps') && true)) = _
  rw [h1, eqv_datI]
  by_cases e1 : lv = lv'
  · by_cases e2 : ps = ps'
    · simp [e1, e2]
    · simp [e1, e2]
  · simp [e1]
theorem lvSame {H H' : Hp} {v : V} {lv : Option (Int × Int)} (s : Same H H') (h : LvAt H v lv) : LvAt H' v lv := by
  cases lv with
  | none => exact h
  | some ab =>
    obtain ⟨q, e, g⟩ := h
    exact ⟨q, e, s _ _ g⟩
/-- caps as data -/
def datO (os : List (Option Int)) : PyData := .list (os.map fun o => match o with | none => .none | some c => .int c)
theorem dpO_all {K : PySem.W.Frag} {H : Hp} : ∀ os : List (Option Int), DpAll K H (os.map ov) (os.map fun o => match o with | none => .none | some c => .int c)
  | [] => .nil
  | none :: r => .cons .non (dpO_all r)
  | some c :: r => .cons (.int c) (dpO_all r)
theorem dp_O {K : PySem.W.Frag} {H : Hp} {a : Addr} {os : List (Option Int)} (h : H a = some (.lst (os.map ov))) : Dp K H (.ref a) (datO os) := .lst (.of h) (dpO_all os)
theorem can_O : ∀ os : List (Option Int), PyData.canLayAll0 (os.map fun o => match o with | none => PyData.none | some c => .int c) = true
  | [] => rfl
  | none :: r => by
    show (true && _) = true
    rw [Bool.true_and]
    exact can_O r
  | some c :: r => by
    show (true && _) = true
    rw [Bool.true_and]
    exact can_O r
theorem depth_O : ∀ os : List (Option Int), PyData.depthAll (os.map fun o => match o with | none => PyData.none | some c => .int c) = 0
  | [] => rfl
  | none :: r => by
    show max 0 _ = 0
    rw [depth_O r]
    rfl
  | some c :: r => by
    show max 0 _ = 0
    rw [depth_O r]
    rfl
theorem shaped_O (os : List (Option Int)) : SeqAt.shaped (datO os) = true := by
  unfold SeqAt.shaped datO
  rw [Bool.and_eq_true]
  refine ⟨can_O os, ?_⟩
  show decide (PyData.depthAll _ + 1 ≤ 64) = true
  rw [depth_O]
  rfl
theorem eqv_O_nil (os : List (Option Int)) : PyData.eqv (datO os) (datI []) = decide (os = []) := by
  cases os with
  | nil => rfl
  | cons o r => cases o <;> rfl

/-! ### the greatest shared divisor -/
def spShared : Sp := fun vs H Q _ => ∃ a b : Nat, vs = [.int (a : Int), .int (b : Int)] ∧ Q (.int (Nat.gcd a b : Nat)) H
section
variable {P : Program} {w : World} {K : PySem.W.Frag} {mg : Str → Option Value} {base : Heap}
theorem ok_shared (T : Txt K mg) : Ok P w K mg base CX0 "_law_shared" s_shared 1 ["_law_one", "_law_other"] spShared := by
  refine T.h_shared.ok sc_shared (fun vs H Q E h => ?_) (fun f cdv A outer s H vs Q E hr h => ?_)
  · obtain ⟨_, _, rfl, _⟩ := h; rfl
  obtain ⟨a, b, rfl, q⟩ := h
  refine ⟨_, (pss_cons (ps_while PassesOwn.never (pt_cmpR op_ne (pv 1) pe_int (nomark _))
      (pss_one (ps_par (i := 0) (j := 1) (by rfl) sc_shared.nd rfl rfl (by decide) rfl rfl (pa_cons (pv 1) (pa_cons (pe_op op_mod (pv 0) (pv 1)) pa_nil)) (by rfl))))
      (pss_one (ps_ret (pv 0)))), ?_⟩
  refine ⟨fun m σ H' => ∃ d r : Nat, σ = [some (.int (d : Int)), some (.int (r : Int))] ∧ Nat.gcd d r = Nat.gcd a b ∧ m = r ∧ H' = H, ⟨b, a, b, rfl, rfl, rfl, rfl⟩, ?_⟩
  rintro m σ H' ⟨d, r, rfl, hg, rfl, rfl⟩
  refine ⟨_, rfl, rfl, _, rfl, ite2 (fun e => ?_) (fun e => ?_)⟩
  · have m0 : 0 < m := by
      rcases Nat.eq_zero_or_pos m with z | z
      · exfalso
        rw [z, show (decide (V.int ((0 : Nat) : Int) = V.int 0)) = true from decide_eq_true rfl] at e
        cases e
      · exact z
    refine ⟨fun σ2 H2 => ∃ m', m' < m ∧ ∃ d r : Nat, σ2 = [some (.int (d : Int)), some (.int (r : Int))] ∧ Nat.gcd d r = Nat.gcd a b ∧ m' = r ∧ H2 = H', fun _ _ h => h, ?_⟩
    have e1 : (0 : Int) < (m : Int) := by omega
    refine ⟨_, rfl, _, rfl, _, rfl, _, _, rfl, rfl, e1, _, _, rfl, ?_⟩
    refine ⟨d % m, Nat.mod_lt d m0, m, d % m, ?_, ?_, rfl, rfl⟩
    · rw [Int.natCast_emod]
      rfl
    · rw [← hg, Nat.gcd_comm d m, Nat.gcd_rec m d, Nat.gcd_comm]
  · have hr0 : m = 0 := by
      rcases Nat.eq_zero_or_pos m with z | z
      · exact z
      · exfalso
        apply e
        rw [decide_eq_false fun z2 => by have := V.int.inj z2; omega]
        rfl
    subst hr0
    rw [Nat.gcd_zero_right] at hg
    rw [← hg] at q
    exact ⟨_, rfl, q⟩
end

/-! ### this law's defs -/
def spLevel : Sp := fun vs H Q _ => ∃ p : Addr, vs = [.ref p] ∧ Src H p ∧ ∀ (t : Addr) (top bot : Nat) (H' : Hp), H t = none → t ≠ p → top < 1000000 → 0 < bot → bot ≤ 1000000 → Nat.gcd top bot = 1 → H' t = some (.tup [.int (top : Int), .int (bot : Int)]) → Src H' p → Off p H H' → Q (.ref t) H'
def spBounds : Sp := fun vs H Q _ => ∃ (p pa : Addr) (ns : List Int), vs = [.ref p, .ref pa] ∧ Src H p ∧ pa ≠ p ∧ H pa = some (.lst (ns.map V.int)) ∧ (∀ n ∈ ns, 0 ≤ n) ∧ ns.length ≤ 4000 ∧
  ∀ (b : Addr) (bs : List Int) H', H b = none → b ≠ p → bs.length = ns.length → (∀ n ∈ bs, 0 ≤ n ∧ n ≤ 5000000000) → H' b = some (.lst (bs.map V.int)) → Src H' p → Off p H H' → Q (.ref b) H'
structure Lists (H : Hp) (t pa ca wa : Addr) (top bot : Nat) (ps : List Pr) : Prop where
  et : H t = some (.tup [.int (top : Int), .int (bot : Int)])
  ep : H pa = some (.lst (ps.map fun x => .int (x.2 * (top : Int))))
  ec : H ca = some (.lst (ps.map fun x => ov x.1))
  ew : H wa = some (.lst (ps.map fun x => .int (x.2 * (bot : Int))))
  t1 : top < 1000000
  b0 : 0 < bot
  b1 : bot ≤ 1000000
  cop : Nat.gcd top bot = 1
  good : Good ps
  l1 : ∀ x ∈ ps, lim x ≤ 5000000000
  w1 : ∀ x ∈ ps, x.2 ≤ 10000
  n1 : ps.length ≤ 4000
theorem Lists.same {H H' : Hp} {t pa ca wa : Addr} {top bot : Nat} {ps : List Pr} (s : Same H H') (h : Lists H t pa ca wa top bot ps) : Lists H' t pa ca wa top bot ps :=
  ⟨s _ _ h.et, s _ _ h.ep, s _ _ h.ec, s _ _ h.ew, h.t1, h.b0, h.b1, h.cop, h.good, h.l1, h.w1, h.n1⟩
def spDR : Sp := fun vs H Q _ => ∃ (t pa ca wa : Addr) (top bot : Nat) (ps : List Pr), vs = [.ref t, .ref pa, .ref ca, .ref wa] ∧ Lists H t pa ca wa top bot ps ∧ ∀ H', Same H H' → Q (.bl true) H'
def spLR : Sp := fun vs H Q _ => ∃ (t pa ca wa : Addr) (top bot : Nat) (ps : List Pr), vs = [.ref t, .ref pa, .ref ca, .ref wa] ∧ Lists H t pa ca wa top bot ps ∧ (∀ x ∈ ps, x.1 ≠ none) ∧ ∀ H', Same H H' → Q (.bl true) H'
def spLaw (K : PySem.W.Frag) : Sp := fun vs H Q _ => ∃ (a : Addr) (ns : List Int), vs = [.ref a] ∧ SqL K H a (ns.map V.int) ∧ ns.length ≤ 63 ∧ ∀ H', Q (.bl true) H'
theorem small_of {i : Int} (h : i.natAbs < 2 ^ 200) : small i := Nat.lt_of_lt_of_le h (Nat.pow_le_pow_right (by decide) (by decide))
theorem part_bound {top : Nat} {x : Pr} (h0 : 0 ≤ x.2) (h1 : x.2 ≤ 10000) (ht : top ≤ 1000000) : 0 ≤ x.2 * (top : Int) ∧ x.2 * (top : Int) ≤ 10000 * 1000000 :=
  ⟨Int.mul_nonneg h0 (by omega), Int.mul_le_mul h1 (by omega) (by omega) (by omega)⟩
section
variable {H : Hp} {t pa ca wa : Addr} {top bot : Nat} {ps : List Pr}
theorem fnd_bound (h : Lists H t pa ca wa top bot ps) : ∀ x ∈ ps, 0 ≤ fnd (top : Int) x ∧ fnd (top : Int) x ≤ 10000000000 := fun x hx => by
  have b := part_bound (h.good.w0 x hx) (h.w1 x hx) (Nat.le_of_lt h.t1)
  have l0 := h.good.l0 x hx
  obtain ⟨c, u⟩ := x
  cases c with
  | none => exact b
  | some c =>
    show 0 ≤ (if u * (top : Int) < c then u * (top : Int) else c) ∧ (if u * (top : Int) < c then u * (top : Int) else c) ≤ _
    have b' : 0 ≤ u * (top : Int) ∧ u * (top : Int) ≤ 10000 * 1000000 := b
    have l1 : 0 ≤ c := l0
    split <;> omega
theorem fndF_bound (h : Lists H t pa ca wa top bot ps) : ∀ x ∈ ps, 0 ≤ fndF (top : Int) x ∧ fndF (top : Int) x ≤ 10000000000 := fun x hx => by
  have b := part_bound (h.good.w0 x hx) (h.w1 x hx) (Nat.le_of_lt h.t1)
  have l0 := h.good.l0 x hx
  have l1 := h.l1 x hx
  unfold fndF
  split <;> omega
theorem fits_known (h : Lists H t pa ca wa top bot ps) {f : Pr → Int} (hf : ∀ x ∈ ps, 0 ≤ f x ∧ f x ≤ 10000000000) : Fits (ps.map f).sum (ps.map (wt (bot : Int))) := by
  have n1 := h.n1
  have s0 := sum_nonneg f ps fun x hx => (hf x hx).1
  have s1 := mk_fits f ps 10000000000 (fun x hx => (hf x hx).2) (by decide)
  have s2 := mk_fits (fun x : Pr => x.2 * (bot : Int)) ps 10000000000 (fun x hx => (part_bound (h.good.w0 x hx) (h.w1 x hx) h.b1).2) (by decide)
  have s3 := sum_nonneg (fun x : Pr => x.2 * (bot : Int)) ps fun x hx => (part_bound (h.good.w0 x hx) (h.w1 x hx) h.b1).1
  have e2 : sumW (ps.map (wt (bot : Int))) = (ps.map fun x : Pr => x.2 * (bot : Int)).sum := by
    unfold sumW
    rw [List.map_map]
    rfl
  refine ⟨⟨fun y hy => ?_, fun y hy => ?_⟩, s0, small_of ?_, fun y hy => small_of ?_, small_of ?_, by rw [List.length_map]; exact n1⟩
  · obtain ⟨x, hx, rfl⟩ := List.mem_map.mp hy
    exact (part_bound (h.good.w0 x hx) (h.w1 x hx) h.b1).1
  · obtain ⟨x, hx, rfl⟩ := List.mem_map.mp hy
    exact h.good.l0 x hx
  · have : (ps.map f).sum ≤ 4000 * 10000000000 := Int.le_trans s1 (Int.mul_le_mul_of_nonneg_right (by omega) (by decide))
    omega
  · obtain ⟨x, hx, rfl⟩ := List.mem_map.mp hy
    have a := h.good.l0 x hx
    have b := h.l1 x hx
    show (lim x).natAbs < _
    omega
  · rw [e2]
    have : (ps.map fun x : Pr => x.2 * (bot : Int)).sum ≤ 4000 * 10000000000 := Int.le_trans s2 (Int.mul_le_mul_of_nonneg_right (by omega) (by decide))
    omega
end
theorem fm_zip_at {α β γ δ : Type} (f : α → β) (g : α → γ) (F : β → γ → Option δ) : ∀ l : List α, (((l.map f).zip (l.map g)).filterMap fun p => F p.1 p.2) = l.filterMap fun x => F (f x) (g x)
  | [] => rfl
  | x :: r => by
    rw [List.map_cons, List.map_cons, List.zip_cons_cons, List.filterMap_cons, List.filterMap_cons, fm_zip_at f g F r]
theorem fm_opt {α β : Type} (p : α → Bool) (f : α → β) : ∀ l : List α, (l.filterMap fun x => if p x = true then some (f x) else none) = (l.filter p).map f
  | [] => rfl
  | x :: r => by
    rw [List.filterMap_cons, fm_opt p f r, List.filter_cons]
    cases p x <;> rfl
theorem filter_nil_any {α : Type} (p : α → Bool) : ∀ l : List α, (l.filter p = []) ↔ l.any p = false := fun l => by
  rw [List.filter_eq_nil_iff, List.any_eq_false]
theorem rep_flat (n : Nat) (v : V) : (List.replicate n [v]).flatten = List.replicate n v := by
  induction n with
  | zero => rfl
  | succ n ih =>
    rw [List.replicate_succ, List.flatten_cons, ih]
    rfl
section
variable {P : Program} {w : World} {K : PySem.W.Frag} {mg : Str → Option Value} {base : Heap}
theorem ok_level (T : Txt K mg) : Ok P w K mg base CX0 "_law_level" s_level 3 ["_law_source_here"] spLevel := by
  have O_next := ok_next (P := P) (w := w) (base := base) T
  have O_shared := ok_shared (P := P) (w := w) (base := base) T
  refine T.h_level.ok sc_level (fun vs H Q E h => ?_) (fun f cdv A outer s H vs Q E hr h => ?_)
  · obtain ⟨p, rfl, _⟩ := h; rfl
  obtain ⟨p, rfl, hs, q⟩ := h
  refine ⟨_, (pss_cons (ps_set (i := 1) sc_level.nd rfl (by first | exact Or.inl rfl | exact Or.inr rfl) (callO O_next (hr.mono (by decide)) (by rfl) (pa_cons (pv 0) (pa_cons (pe_ix ix_list (pe_lst (pa_cons pe_int (pa_cons pe_int (pa_cons (pe_op op_pow pe_int pe_int) pa_nil)))) (callO O_next (hr.mono (by decide)) (by rfl) (pa_cons (pv 0) (pa_cons pe_int pa_nil))) (fun _ _ => rfl)) pa_nil))))
      (pss_cons (ps_set (i := 2) sc_level.nd rfl (by first | exact Or.inl rfl | exact Or.inr rfl) (pe_op op_add pe_int (callO O_next (hr.mono (by decide)) (by rfl) (pa_cons (pv 0) (pa_cons (pe_ix ix_list (pe_lst (pa_cons pe_int (pa_cons pe_int (pa_cons pe_int (pa_cons (pe_op op_pow pe_int pe_int) pa_nil))))) (callO O_next (hr.mono (by decide)) (by rfl) (pa_cons (pv 0) (pa_cons pe_int pa_nil))) (fun _ _ => rfl)) pa_nil)))))
      (pss_cons (ps_set (i := 3) sc_level.nd rfl (by first | exact Or.inl rfl | exact Or.inr rfl) (callO O_shared (hr.mono (by decide)) (by rfl) (pa_cons (pv 1) (pa_cons (pv 2) pa_nil))))
      (pss_one (ps_ret (pe_tup (pa_cons (pe_op op_fdivW (pv 1) (pv 3)) (pa_cons (pe_op op_fdivW (pv 2) (pv 3)) pa_nil)))))))), ?_⟩
  refine ⟨_, rfl, _, _, rfl, rfl, ⟨by decide, by decide, by decide⟩, (by show 3 ≤ sizeLine; decide), fun l1 n1 => ?_⟩
  refine ⟨_, rfl, p, 3, rfl, by decide, by decide, hs.keep n1, fun r1 H1 a1 b1 s1 o1 => ?_⟩
  obtain ⟨m, ha, hm⟩ := pick (ns := [5, 900, 10 ^ (6 : Int).toNat]) a1 b1 (fun m => 0 < m ∧ m ≤ 1000000) (by decide)
  refine ⟨l1, _, _, _, rfl, rfl, .of (o1 _ _ upd_same (hs.ne_new n1)), ha, p, m, rfl, hm.1, by omega, s1, fun top H2 a2 b2 s2 o2 => ?_⟩
  refine ⟨_, rfl, _, _, rfl, rfl, ⟨by decide, by decide, by decide⟩, (by show 4 ≤ sizeLine; decide), fun l3 n3 => ?_⟩
  refine ⟨_, rfl, p, 4, rfl, by decide, by decide, s2.keep n3, fun r3 H3 a3 b3 s3 o3 => ?_⟩
  obtain ⟨m2, ha2, hm2⟩ := pick (ns := [1, 4, 900, 10 ^ (6 : Int).toNat]) a3 b3 (fun m => 0 < m ∧ m ≤ 1000000) (by decide)
  refine ⟨l3, _, _, _, rfl, rfl, .of (o3 _ _ upd_same (s2.ne_new n3)), ha2, p, m2, rfl, hm2.1, by omega, s3, fun bt H4 a4 b4 s4 o4 => ⟨_, _, rfl, rfl, ?_⟩⟩
  have e1 : (top.toNat : Int) = top := Int.toNat_of_nonneg a2
  have e2 : ((1 + bt).toNat : Int) = 1 + bt := Int.toNat_of_nonneg (by omega)
  refine ⟨_, rfl, _, rfl, top.toNat, (1 + bt).toNat, by rw [e1, e2]; rfl, ?_⟩
  have g0 : 0 < Nat.gcd top.toNat (1 + bt).toNat := Nat.gcd_pos_of_pos_right _ (by omega)
  have gl : Nat.gcd top.toNat (1 + bt).toNat ≤ (1 + bt).toNat := Nat.gcd_le_right _ (by omega)
  have gd : CDivW top (Nat.gcd top.toNat (1 + bt).toNat : Nat) := wide_div (b := 100) (by omega) (by omega) (by decide) (by decide)
  have gd2 : CDivW (1 + bt) (Nat.gcd top.toNat (1 + bt).toNat : Nat) := wide_div (b := 100) (by omega) (by omega) (by decide) (by decide)
  refine ⟨_, rfl, _, rfl, _, _, rfl, rfl, gd, _, rfl, _, rfl, _, _, rfl, rfl, gd2, (by show 2 ≤ sizeLine; decide), fun t nt => ?_⟩
  have tp : t ≠ p := s4.ne_new nt
  have o : Off p H H4 := (((off_new n1).trans o1).trans o2).trans (((off_new n3).trans o3).trans o4)
  refine q t (top.toNat / Nat.gcd top.toNat (1 + bt).toNat) ((1 + bt).toNat / Nat.gcd top.toNat (1 + bt).toNat) _ (o.back nt tp) tp ?_ ?_ ?_ ?_ ?_ (s4.keep nt) (o.trans (off_new nt))
  · exact Nat.lt_of_le_of_lt (Nat.div_le_self _ _) (by omega)
  · exact Nat.div_pos gl g0
  · exact Nat.le_trans (Nat.div_le_self _ _) (by omega)
  · exact Nat.gcd_div_gcd_div_gcd_of_pos_right (by omega)
  · rw [upd_same, Int.natCast_ediv, Int.natCast_ediv, e1, e2]
theorem ok_bounds (T : Txt K mg) : Ok P w K mg base CX0 "_law_bounds" s_bounds 3 ["_law_source_here", "_law_parts"] spBounds := by
  have O_next := ok_next (P := P) (w := w) (base := base) T
  refine T.h_bounds.ok sc_bounds (fun vs H Q E h => ?_) (fun f cdv A outer s H vs Q E hr h => ?_)
  · obtain ⟨p, _, _, rfl, _⟩ := h; rfl
  obtain ⟨p, pa, ns, rfl, hs, hpp, hpa, h0, hl, q⟩ := h
  refine ⟨_, (pss_cons (ps_set (i := 2) sc_bounds.nd rfl (by first | exact Or.inl rfl | exact Or.inr rfl) (pe_lst pa_nil))
      (pss_cons (ps_set (i := 3) sc_bounds.nd rfl (by first | exact Or.inl rfl | exact Or.inr rfl) (pe_ix ix_list (pe_lst (pa_cons pe_int (pa_cons (pe_op op_pow pe_int pe_int) (pa_cons (pe_op op_mul pe_int (pe_op op_pow pe_int pe_int)) pa_nil)))) (callO O_next (hr.mono (by decide)) (by rfl) (pa_cons (pv 0) (pa_cons pe_int pa_nil))) (fun _ _ => rfl)))
      (pss_cons (ps_for PassesOwn.never rfl (pi_list (pv 1)) (pg_name (i := 4) sc_bounds.nd rfl (by first | exact Or.inl rfl | exact Or.inr rfl))
      (pss_cons (ps_set (i := 5) sc_bounds.nd rfl (by first | exact Or.inl rfl | exact Or.inr rfl) (callO O_next (hr.mono (by decide)) (by rfl) (pa_cons (pv 0) (pa_cons (pv 3) pa_nil))))
      (pss_cons (ps_set (i := 6) sc_bounds.nd rfl (by first | exact Or.inl rfl | exact Or.inr rfl) (pe_lst (pa_cons pe_int (pa_cons (pv 4) (pa_cons (pe_op op_add (pv 4) pe_int) (pa_cons (pe_callB (call_max2 rfl) (by rfl) T.m_max (by decide +kernel) (pa_cons pe_int (pa_cons (pe_op op_sub (pv 4) pe_int) pa_nil))) (pa_cons (pv 5) (pa_cons (pv 5) pa_nil))))))))
      (pss_one (ps_expr (pe_bm PySem.F.plainAttrs_list PySem.F.slot_list_append PySem.F.type_list_append mt_append (pv 2) (pa_cons (pe_callB (call_min2 rfl) (by rfl) T.m_min (by decide +kernel) (pa_cons (pe_op op_mul pe_int (pe_op op_pow pe_int pe_int)) (pa_cons (pe_ix ix_list (pv 6) (callO O_next (hr.mono (by decide)) (by rfl) (pa_cons (pv 0) (pa_cons pe_int pa_nil))) (fun _ _ => rfl)) pa_nil))) pa_nil)))))))
      (pss_one (ps_ret (pv 2)))))), ?_⟩
  refine ⟨(by show 0 ≤ sizeLine; decide), fun S nS => ?_⟩
  have hSp := hs.ne_new nS
  refine ⟨_, _, rfl, rfl, ⟨by decide, by decide, by decide⟩, _, _, rfl, rfl, ⟨by decide, by decide, by decide⟩, _, _, rfl, rfl, .inl ⟨by decide, by decide⟩, (by show 3 ≤ sizeLine; decide), fun l1 n1 => ?_⟩
  refine ⟨_, rfl, p, 3, rfl, by decide, by decide, (hs.keep nS).keep n1, fun r1 H1 a1 b1 s1 o1 => ?_⟩
  obtain ⟨far, ha, hm⟩ := pick (ns := [20, 10 ^ (6 : Int).toNat, 5 * 10 ^ (9 : Int).toNat]) a1 b1 (fun m => 0 < m ∧ m ≤ 5000000000) (by decide)
  refine ⟨l1, _, _, _, rfl, rfl, .of (o1 _ _ upd_same ((hs.keep nS).ne_new n1)), ha, ?_⟩
  have o10 : Off p H H1 := ((off_new nS).trans (off_new n1)).trans o1
  have hS1 : H1 S = some (.lst []) := o1 _ _ (same_upd n1 _ _ upd_same) hSp
  have hpa1 := o10 _ _ hpa hpp
  have hSpa : pa ≠ S := ne_of_none hpa nS
  refine ⟨_, rfl, pa, rfl, ⟨_, .of hpa1⟩, for_list (K := K) (a := pa) (xs := ns.map V.int) (fun i σ H' => ∃ (v4 v5 v6 : Option V) (bs : List Int), σ = [some (.ref p), some (.ref pa), some (.ref S), some (.int far), v4, v5, v6] ∧ H' S = some (.lst (bs.map V.int)) ∧ bs.length = i ∧ (∀ n ∈ bs, 0 ≤ n ∧ n ≤ 5000000000) ∧ Src H' p ∧ (∀ b o, H1 b = some o → b ≠ p → b ≠ S → H' b = some o))
    ⟨none, none, none, [], rfl, hS1, rfl, (fun n hn => by cases hn), s1, fun b o h _ _ => h⟩ (fun i σ H' _ h => by obtain ⟨_, _, _, _, _, _, _, _, _, o⟩ := h; exact .of (o _ _ hpa1 hpp hSpa)) ?_ ?_⟩
  · rintro i y σ H' hi ⟨v4, v5, v6, bs, rfl, eS, el, hb, s2, o2⟩
    obtain ⟨z, rfl, hz⟩ := int_at hi
    have hil : i < ns.length := (List.getElem?_eq_some_iff.mp hz).1
    have z0 := h0 z (List.mem_of_getElem? hz)
    refine ⟨_, rfl, _, rfl, p, far, rfl, hm.1, by omega, s2, fun one H3 a3 b3 s3 o3 => ?_⟩
    refine ⟨_, rfl, _, rfl, _, _, rfl, rfl, _, rfl, _, _, rfl, rfl, _, _, rfl, _, rfl, _, rfl, (by show 6 ≤ sizeLine; decide), fun l4 n4 => ?_⟩
    have hS4 : (upd H3 l4 (.lst [.int 0, .int z, .int (z + 1), .int (if z - 1 > 0 then z - 1 else 0), .int one, .int one])) S = some (.lst (bs.map V.int)) := same_upd n4 _ _ (o3 _ _ eS hSp)
    refine ⟨_, rfl, .inl ⟨rfl, _, .of hS4⟩, _, _, rfl, rfl, ⟨by decide, by decide, by decide⟩, _, _, rfl, rfl, .inl ⟨by decide, by decide⟩, _, rfl, _, rfl, p, 6, rfl, by decide, by decide, s3.keep n4, fun r5 H5 a5 b5 s5 o5 => ?_⟩
    have hl4 : l4 ≠ p := s3.ne_new n4
    obtain ⟨m, ha5, hm5⟩ := pick (ns := [0, z, z + 1, if z - 1 > 0 then z - 1 else 0, one, one]) a5 b5 (fun m => 0 ≤ m) (by
      intro n hn
      simp only [List.mem_cons, List.not_mem_nil, or_false] at hn
      rcases hn with rfl | rfl | rfl | rfl | rfl | rfl
      · omega
      · omega
      · omega
      · split <;> omega
      · omega
      · omega)
    have hS5 := o5 _ _ hS4 hSp
    refine ⟨l4, _, _, _, rfl, rfl, .of (o5 _ _ upd_same hl4), ha5, _, _, rfl, S, _, _, rfl, rfl, hS5, ?_, ?_⟩
    · rw [List.length_map]
      exact big (by omega)
    refine ⟨_, _, _, bs ++ [if m < 5 * 10 ^ (9 : Int).toNat then m else 5 * 10 ^ (9 : Int).toNat], rfl, ?_, ?_, ?_, ?_, ?_⟩
    · rw [upd_same, List.map_append]
      rfl
    · rw [List.length_append, el]
      rfl
    · intro n hn
      rcases List.mem_append.mp hn with h | h
      · exact hb n h
      · rw [List.mem_singleton.mp h]
        have : (5 * 10 ^ (9 : Int).toNat : Int) = 5000000000 := by decide
        split <;> omega
    · obtain ⟨a, b, c, e⟩ := s5
      exact ⟨a, b, c, by rw [upd_ne hSp.symm]; exact e⟩
    · intro b o hb' hbp hbS
      rw [upd_ne hbS]
      exact o5 _ _ (same_upd n4 _ _ (o3 _ _ (o2 _ _ hb' hbp hbS) hbp)) hbp
  · rintro σ H' ⟨v4, v5, v6, bs, rfl, eS, el, hb, s2, o2⟩
    rw [List.length_map] at el
    refine ⟨_, rfl, q S bs H' nS hSp el hb eS s2 fun b o h hbp => o2 _ _ (o10 _ _ h hbp) hbp (ne_of_none h nS)⟩
end

section
variable {P : Program} {w : World} {K : PySem.W.Frag} {mg : Str → Option Value} {base : Heap}
theorem ok_dealt_right (T : Txt K mg) : Ok P w K mg base CX0 "_law_dealt_right" s_dealt_right 6 ["_law_level_here", "_law_parts", "_law_caps", "_law_weights"] spDR := by
  have O_p_dealt := ok_dealt (P := P) (w := w) (base := base) T
  refine T.h_dealt_right.ok sc_dealt_right (fun vs H Q E h => ?_) (fun f cdv A outer s H vs Q E hr h => ?_)
  · obtain ⟨_, _, _, _, _, _, _, rfl, _⟩ := h; rfl
  obtain ⟨t, pa, ca, wa, top, bot, ps, rfl, ls, q⟩ := h
  have n1 := ls.n1
  have fb := fnd_bound ls
  refine ⟨_, (pss_cons (ps_set (i := 4) sc_dealt_right.nd rfl (by first | exact Or.inl rfl | exact Or.inr rfl) (pe_lst pa_nil))
      (pss_cons (ps_for PassesOwn.never rfl (pi_zip (by rfl) T.m_zip (pa_cons (pv 1) (pa_cons (pv 2) pa_nil))) (pg_tup rfl (pgs_cons (pg_name (i := 5) sc_dealt_right.nd rfl (by first | exact Or.inl rfl | exact Or.inr rfl)) (pgs_cons (pg_name (i := 6) sc_dealt_right.nd rfl (by first | exact Or.inl rfl | exact Or.inr rfl)) pgs_nil)))
      (pss_one (ps_if (pt_cmpR op_isN (pv 6) pe_non (nomark _))
      (pss_one (ps_expr (pe_bm PySem.F.plainAttrs_list PySem.F.slot_list_append PySem.F.type_list_append mt_append (pv 4) (pa_cons (pv 5) pa_nil))))
      (pss_one (ps_expr (pe_bm PySem.F.plainAttrs_list PySem.F.slot_list_append PySem.F.type_list_append mt_append (pv 4) (pa_cons (pe_callB (call_min2 rfl) (by rfl) T.m_min (by decide +kernel) (pa_cons (pv 6) (pa_cons (pv 5) pa_nil))) pa_nil)))))))
      (pss_cons (ps_set (i := 7) sc_dealt_right.nd rfl (by first | exact Or.inl rfl | exact Or.inr rfl) (pe_tup (pa_cons (pv 0) (pa_cons (pv 4) pa_nil))))
      (Evl.pss_cut (ps_if (pt_cmpR (op_eqD hr.units) (pe_lc (own := [("_law_cap", 6), ("_law_part", 5)]) (g := gTup K 2 (gCons (gName 6) (gCons (gName 5) gNil))) (by rfl) sc_dealt_right.nd (pi_zip (by rfl) T.m_zip (pa_cons (pv 2) (pa_cons (pv 1) pa_nil))) (blkOk_by (own := [("_law_cap", 6), ("_law_part", 5)]) (N := n_dealt_right) (sc := defScope s_dealt_right) (by decide +kernel)) (fun _ _ _ _ _ => (pg_tup rfl (pgs_cons (pg_name (i := 6) sc_dealt_right.nd rfl (by first | exact Or.inl rfl | exact Or.inr rfl)) (pgs_cons (pg_name (i := 5) sc_dealt_right.nd rfl (by first | exact Or.inl rfl | exact Or.inr rfl)) pgs_nil)))) (fun _ _ _ _ _ => (pts_one (PW.pt (pw_and (pt_cmpR op_gt (pv 5) pe_int (nomark _)) (pw_and1 (PW.pt (pw_or (pt_cmpR op_isN (pv 6) pe_non (nomark _)) (pw_or1 (pt_cmpR op_gt (pv 6) (pv 5) (nomark _)))))))))) (fun _ _ _ _ _ => (pv 6))) (pe_lst pa_nil) (nomark _))
      (pss_one (ps_set (i := 7) sc_dealt_right.nd rfl (by first | exact Or.inl rfl | exact Or.inr rfl) (pe_tup (pa_cons pe_non (pa_cons (pv 4) pa_nil)))))
      pss_nil)
      (Evl.pss_cut (ps_if (pt_cmpR op_eq (pe_ix ix_tup (pv 0) pe_int (fun _ _ => rfl)) pe_int (nomark _))
      (pss_cons (ps_setLc (i := 8) (own := [("_law_cap", 6), ("_law_weight", 9)]) (g := gTup K 2 (gCons (gName 6) (gCons (gName 9) gNil))) (by rfl) sc_dealt_right.nd rfl rfl (sw_true rfl rfl rfl (by decide +kernel)) (pi_zip (by rfl) T.m_zip (pa_cons (pv 2) (pa_cons (pv 3) pa_nil))) (blkOk_by (own := [("_law_cap", 6), ("_law_weight", 9)]) (N := n_dealt_right) (sc := defScope s_dealt_right) (by decide +kernel)) (fun _ _ _ _ _ => (pg_tup rfl (pgs_cons (pg_name (i := 6) sc_dealt_right.nd rfl (by first | exact Or.inl rfl | exact Or.inr rfl)) (pgs_cons (pg_name (i := 9) sc_dealt_right.nd rfl (by first | exact Or.inl rfl | exact Or.inr rfl)) pgs_nil)))) (fun _ _ _ _ _ => (pts_one (pt_cmpR op_gt (pv 9) pe_int (nomark _)))) (fun _ _ _ _ _ => (pv 6)))
      (pss_one (ps_set (i := 7) sc_dealt_right.nd rfl (by first | exact Or.inl rfl | exact Or.inr rfl) (pe_tup (pa_cons (pe_ix ix_list (pe_lst (pa_cons (pe_tup (pa_cons pe_int (pa_cons pe_int pa_nil))) (pa_cons pe_non pa_nil))) (pe_callTy call_int1 (by rfl) T.m_int (by decide +kernel) (pa_cons (pe_callB (cr_all rfl) (by rfl) T.m_all (by decide +kernel) (pa_cons (pe_lc (own := [("_law_cap", 6)]) (by rfl) sc_dealt_right.nd (pi_list (pv 8)) (blkOk_by (own := [("_law_cap", 6)]) (N := n_dealt_right) (sc := defScope s_dealt_right) (by decide +kernel)) (fun _ _ _ _ _ => (pg_name (i := 6) sc_dealt_right.nd rfl (by first | exact Or.inl rfl | exact Or.inr rfl))) (fun _ _ _ _ _ => pts_nil) (fun _ _ _ _ _ => (pe_cmpR op_eq (pv 6) pe_int (nomark _)))) pa_nil)) pa_nil)) (fun _ _ => rfl)) (pa_cons (pe_op op_rep (pe_lst (pa_cons pe_int pa_nil)) (pe_callB call_len (by rfl) T.m_len (by decide +kernel) (pa_cons (pv 1) pa_nil))) pa_nil))))))
      pss_nil)
      (pss_one (ps_ret (pe_cmpR (op_eqD hr.units) (callO O_p_dealt (hr.mono (by decide)) (by rfl) (pa_cons (pe_callB (cr_sum rfl) (by rfl) T.m_sum (by decide +kernel) (pa_cons (pv 4) pa_nil)) (pa_cons (pe_callTy call_list_of (by rfl) T.m_list (by decide +kernel) (pa_cons (pv 2) pa_nil)) (pa_cons (pe_callTy call_list_of (by rfl) T.m_list (by decide +kernel) (pa_cons (pv 3) pa_nil)) pa_nil)))) (pv 7) (nomark _))))))))), ?_⟩
  refine ⟨(by show 0 ≤ sizeLine; decide), fun F nF => ?_⟩
  have s1 := same_upd (o := .lst []) nF
  have eF : (upd H F (.lst [])) F = some (.lst []) := upd_same
  generalize upd H F (.lst []) = H1 at s1 eF ⊢
  have l1 := ls.same s1
  have hlen : ps.length = min (ps.map fun x => V.int (x.2 * (top : Int))).length (ps.map fun x => ov x.1).length := by
    rw [List.length_map, List.length_map]
    omega
  refine ⟨_, rfl, _, rfl, pa, ca, _, _, rfl, .of l1.ep, .of l1.ec, for_it (L2.walk_zip (xs := ps.map fun x => V.int (x.2 * (top : Int))) (ys := ps.map fun x => ov x.1) hlen)
    (fun i σ H' => ∃ v5 v6 v7 v8 v9, σ = [some (.ref t), some (.ref pa), some (.ref ca), some (.ref wa), some (.ref F), v5, v6, v7, v8, v9] ∧ H' F = some (.lst (((ps.take i).map (fnd (top : Int))).map V.int)) ∧ Same H H')
    ⟨none, none, none, none, none, rfl, eF, s1⟩ (fun i σ H' _ h => by
      obtain ⟨_, _, _, _, _, _, _, o⟩ := h
      exact ⟨.of (ls.same o).ep, .of (ls.same o).ec⟩) ?_ ?_⟩
  · rintro i y σ H' H'' hi ⟨v5, v6, v7, v8, v9, rfl, hF, o⟩ ⟨Tt, x, z, rfl, nT, rfl, hx, hz⟩
    replace hx : (ps.map fun x => V.int (x.2 * (top : Int)))[i]? = some x := hx
    replace hz : (ps.map fun x => ov x.1)[i]? = some z := hz
    have e1 : ps[i]? = some ps[i] := List.getElem?_eq_getElem hi
    rw [List.getElem?_map, e1] at hx
    rw [List.getElem?_map, e1] at hz
    cases hx
    cases hz
    have hF2 := same_upd (o := .tup [.int (ps[i].2 * (top : Int)), ov ps[i].1]) nT _ _ hF
    have fin : ∀ v, v = V.int (fnd (top : Int) ps[i]) →
        (upd (upd H' Tt (.tup [.int (ps[i].2 * (top : Int)), ov ps[i].1])) F (.lst (((ps.take i).map (fnd (top : Int))).map V.int ++ [v]))) F = some (.lst (((ps.take (i + 1)).map (fnd (top : Int))).map V.int)) ∧ Same H (upd (upd H' Tt (.tup [.int (ps[i].2 * (top : Int)), ov ps[i].1])) F (.lst (((ps.take i).map (fnd (top : Int))).map V.int ++ [v]))) := fun v hv => by
      refine ⟨?_, same_mut nF (o.trans (same_upd nT))⟩
      rw [upd_same, List.take_add_one, e1, List.map_append, List.map_append, hv]
      rfl
    refine ⟨Tt, _, rfl, .of upd_same, rfl, _, _, rfl, _, _, rfl, rfl, ?_⟩
    have hlt : (((ps.take i).map (fnd (top : Int))).map V.int).length < sizeLine := by
      rw [List.length_map, List.length_map, List.length_take]
      exact big (by omega)
    cases hc : ps[i] with
    | mk c u =>
      rw [hc] at fin hF2
      cases c with
      | none => exact ⟨_, rfl, rfl, _, rfl, iteT ⟨_, rfl, .inl ⟨rfl, _, .of hF2⟩, _, rfl, F, _, _, rfl, rfl, hF2, hlt, _, _, _, _, _, rfl, fin _ rfl⟩⟩
      | some c =>
        refine ⟨_, rfl, rfl, _, rfl, iteF ⟨_, rfl, .inl ⟨rfl, _, .of hF2⟩, _, rfl, _, rfl, _, _, rfl, F, _, _, rfl, rfl, hF2, hlt, _, _, _, _, _, rfl, fin _ rfl⟩⟩
  rintro σ H2 ⟨v5, v6, v7, v8, v9, rfl, hF, s2⟩
  rw [List.take_length] at hF
  have l2 := ls.same s2
  refine ⟨_, rfl, _, rfl, (by show 2 ≤ sizeLine; decide), fun Du nDu => ?_⟩
  have s3 := same_upd (o := .tup [.ref t, .ref F]) nDu
  have eDu : (upd H2 Du (.tup [.ref t, .ref F])) Du = some (.tup [.ref t, .ref F]) := upd_same
  generalize upd H2 Du (.tup [.ref t, .ref F]) = H3 at s3 eDu ⊢
  have l3 := l2.same s3
  have hF3 : H3 F = some (.lst ((ps.map (fnd (top : Int))).map V.int)) := s3 _ _ hF
  refine ⟨fun σ H' => ∃ (Dv : Addr) (lvv : V) (lv : Option (Int × Int)) (v5 v6 v8 v9 : Option V), σ = [some (.ref t), some (.ref pa), some (.ref ca), some (.ref wa), some (.ref F), v5, v6, some (.ref Dv), v8, v9] ∧ Same H3 H' ∧ H' Dv = some (.tup [lvv, .ref F]) ∧ LvAt H' lvv lv ∧ (top ≠ 0 → lv = if ps.any (above (top : Int)) = true then some ((top : Int), (bot : Int)) else none), ?_, ?_⟩
  · refine ⟨_, rfl, _, rfl, ca, pa, _, _, rfl, .of l3.ec, .of l3.ep, fun D nD => lcF_zip (K := K) (as := ps) (bs := ps) (fun x => ov x.1) (fun x => V.int (x.2 * (top : Int))) (fun x y => if (decide (0 < y.2 * (top : Int)) && above (top : Int) x) = true then some x.1 else none) ov (.of l3.ec) (.of l3.ep) nD (by omega) ?_ ?_⟩
    · intro i x y H' A' B' hx hy sm ka kb
      rw [hx] at hy
      cases hy
      have xm := List.mem_of_getElem? hx
      have w0 := ls.good.w0 x xm
      refine ⟨rfl, _, rfl, _, _, rfl, rfl, _, rfl, ite2 (fun e => ?_) (fun e => ?_)⟩
      · have h1 : 0 < x.2 * (top : Int) := of_decide_eq_true e
        have h2 : 0 < x.2 := by
          rcases Int.lt_or_le 0 x.2 with z | z
          · exact z
          · have : x.2 = 0 := by omega
            rw [this, Int.zero_mul] at h1
            omega
        obtain ⟨c, u⟩ := x
        cases c with
        | none =>
          refine ⟨_, rfl, rfl, _, rfl, iteT (iteT ⟨_, rfl, ka none _ ?_ (Same.refl _)⟩)⟩
          rw [if_pos]
          unfold above
          rw [decide_eq_true h1, decide_eq_true h2]
          rfl
        | some c =>
          refine ⟨_, rfl, rfl, _, rfl, iteF ⟨_, rfl, _, rfl, _, _, rfl, rfl, _, rfl, ite2 (fun e2 => ?_) (fun e2 => ?_)⟩⟩
          · refine ⟨_, rfl, ka (some c) _ ?_ (Same.refl _)⟩
            rw [if_pos]
            unfold above
            rw [decide_eq_true h1, decide_eq_true h2]
            exact e2
          · refine kb _ ?_ (Same.refl _)
            rw [if_neg]
            unfold above
            rw [decide_eq_true h1, decide_eq_true h2]
            exact e2
      · refine iteF (kb _ ?_ (Same.refl _))
        rw [if_neg]
        intro z
        rw [Bool.and_eq_true] at z
        exact e z.1
    intro H4 s4 e4
    rw [fm_zip_self (fun (x y : Pr) => if (decide (0 < y.2 * (top : Int)) && above (top : Int) x) = true then some x.1 else none) ps, fm_opt (fun x : Pr => decide (0 < x.2 * (top : Int)) && above (top : Int) x) (fun x => x.1)] at e4
    refine ⟨(by show 0 ≤ sizeLine; decide), fun Em nEm => ?_⟩
    have s5 := same_upd (o := .lst []) nEm
    have e5 : (upd H4 Em (.lst [])) Em = some (.lst (([] : List Int).map V.int)) := upd_same
    generalize upd H4 Em (.lst []) = H5 at s5 e5 ⊢
    refine ⟨datO _, datI [], dp_O (s5 _ _ e4), dp_ints (.of e5), shaped_O _, shaped_ints _, _, rfl, ?_⟩
    rw [eqv_O_nil]
    have l5 := l3.same (s4.trans s5)
    have hF5 : H5 F = some (.lst ((ps.map (fnd (top : Int))).map V.int)) := s5 _ _ (s4 _ _ (s3 _ _ hF))
    have s05 : Same H H5 := (s2.trans s3).trans (s4.trans s5)
    have eq1 : ∀ _ : top ≠ 0, ((ps.filter fun x => decide (0 < x.2 * (top : Int)) && above (top : Int) x).map fun x => x.1) = [] ↔ ps.any (above (top : Int)) = false := fun ht => by
      rw [List.map_eq_nil_iff, filter_nil_any]
      have : (ps.any fun x => decide (0 < x.2 * (top : Int)) && above (top : Int) x) = ps.any (above (top : Int)) := by
        congr 1
        funext x
        cases ha : above (top : Int) x with
        | false => simp
        | true =>
          unfold above at ha
          rw [Bool.and_eq_true] at ha
          have h2 : 0 < x.2 := of_decide_eq_true ha.1
          rw [decide_eq_true (Int.mul_pos h2 (by omega))]
          rfl
      rw [this]
    refine ite2 (fun e => ?_) (fun e => ?_)
    · have en := of_decide_eq_true e
      refine ⟨_, rfl, (by show 2 ≤ sizeLine; decide), fun Dn nDn => ?_⟩
      refine ⟨Dn, .non, none, _, _, _, _, rfl, (s4.trans s5).trans (same_upd nDn), upd_same, rfl, fun ht => ?_⟩
      rw [(eq1 ht).mp en, if_neg (by decide)]
    · refine ⟨Du, .ref t, some ((top : Int), (bot : Int)), _, _, _, _, rfl, s4.trans s5, s5 _ _ (s4 _ _ eDu), ⟨t, rfl, l5.et⟩, fun ht => ?_⟩
      rw [if_pos]
      cases ha : ps.any (above (top : Int)) with
      | true => rfl
      | false => exact absurd (decide_eq_true ((eq1 ht).mpr ha)) e
  rintro σ H6 ⟨Dv, lvv, lv, v5, v6, v8, v9, rfl, s6, eDv, eLv, hlv⟩
  have l6 := l3.same s6
  have hF6 := s6 _ _ hF3
  refine ⟨fun σ H' => ∃ (Dv F2 : Addr) (lvv : V) (v5 v6 v8 v9 : Option V), σ = [some (.ref t), some (.ref pa), some (.ref ca), some (.ref wa), some (.ref F), v5, v6, some (.ref Dv), v8, v9] ∧ Same H6 H' ∧ H' Dv = some (.tup [lvv, .ref F2]) ∧ H' F2 = some (.lst ((ps.map (fnd (top : Int))).map V.int)) ∧ LvAt H' lvv (if ps.any (above (top : Int)) = true then some ((top : Int), (bot : Int)) else none), ?_, ?_⟩
  · refine ⟨_, rfl, t, _, _, _, rfl, rfl, .of l6.et, atI_nat (j := 0) rfl, rfl, _, rfl, ite2 (fun e => ?_) (fun e => ?_)⟩
    · have t0 : top = 0 := by
        have := V.int.inj (of_decide_eq_true e)
        omega
      have b1 : bot = 1 := by
        have := ls.cop
        rw [t0, Nat.gcd_zero_left] at this
        exact this
      refine ⟨_, rfl, _, rfl, ca, wa, _, _, rfl, .of l6.ec, .of l6.ew, fun D nD => lcF_zip (K := K) (as := ps) (bs := ps) (fun x => ov x.1) (fun x => V.int (x.2 * (bot : Int))) (fun x y => if (decide (0 < y.2 * (bot : Int))) = true then some x.1 else none) ov (.of l6.ec) (.of l6.ew) nD (by omega) ?_ ?_⟩
      · intro i x y H' A' B' hx hy sm ka kb
        rw [hx] at hy
        cases hy
        refine ⟨rfl, _, rfl, _, _, rfl, rfl, _, rfl, ite2 (fun e => ?_) (fun e => ?_)⟩
        · exact ⟨_, rfl, ka _ _ (if_pos e) (Same.refl _)⟩
        · exact kb _ (if_neg e) (Same.refl _)
      intro H7 s7 e7
      rw [fm_zip_self (fun (x y : Pr) => if (decide (0 < y.2 * (bot : Int))) = true then some x.1 else none) ps, fm_opt (fun x : Pr => decide (0 < x.2 * (bot : Int))) (fun x => x.1)] at e7
      refine ⟨(by show 2 ≤ sizeLine; decide), fun t8 n8 => ⟨(by show 2 ≤ sizeLine; decide), fun l9 n9 => ?_⟩⟩
      have s8 := same_upd (o := .tup [.int 0, .int 1]) n8
      have e8 : (upd H7 t8 (.tup [.int 0, .int 1])) t8 = some (.tup [.int 0, .int 1]) := upd_same
      generalize upd H7 t8 (.tup [.int 0, .int 1]) = H8 at s8 e8 n9 ⊢
      have s9 := same_upd (o := .lst [.ref t8, .non]) n9
      have e9 : (upd H8 l9 (.lst [.ref t8, .non])) l9 = some (.lst [.ref t8, .non]) := upd_same
      generalize upd H8 l9 (.lst [.ref t8, .non]) = H9 at s9 e9 ⊢
      have e79 := s9 _ _ (s8 _ _ e7)
      refine ⟨_, rfl, D, rfl, ⟨_, .of e79⟩, fun E10 n10 => lcF_list (K := K) (as := (ps.filter fun x => decide (0 < x.2 * (bot : Int))).map fun x => x.1) ov (fun c => some (decide (ov c = V.int 0))) V.bl (.of e79) n10 (by
        rw [List.length_map]
        exact Nat.le_trans (List.length_filter_le _ _) (by omega)) ?_ ?_⟩
      · intro i x H' A' B' hx sm ka kb
        refine ⟨rfl, yes_if ⟨_, rfl, ?_, ka _ _ rfl (Same.refl _)⟩⟩
        cases x <;> rfl
      intro H10 s10 e10
      rw [fm_some] at e10
      have hall : ((((ps.filter fun x => decide (0 < x.2 * (bot : Int))).map fun x => x.1).map fun c => decide (ov c = V.int 0)).all id) = !ps.any (above (top : Int)) := by
        rw [List.map_map, List.all_map]
        have : ∀ x ∈ ps, above (top : Int) x = (decide (0 < x.2 * (bot : Int)) && !decide (ov x.1 = V.int 0)) := fun x hx => by
          have l0 := ls.good.l0 x hx
          obtain ⟨c, u⟩ := x
          unfold above
          rw [t0, b1]
          show (decide (0 < u) && _) = (decide (0 < u * ((1 : Nat) : Int)) && _)
          rw [show ((1 : Nat) : Int) = 1 from rfl, Int.mul_one]
          congr 1
          cases c with
          | none => rfl
          | some c =>
            have l1 : 0 ≤ c := l0
            show decide (u * ((0 : Nat) : Int) < c) = !decide (V.int c = V.int 0)
            rw [show ((0 : Nat) : Int) = 0 from rfl, Int.mul_zero]
            by_cases hc : c = 0
            · rw [hc]
              rfl
            · rw [decide_eq_true (by omega), decide_eq_false fun z => hc (V.int.inj z)]
              rfl
        rw [Bool.eq_iff_iff]
        simp only [List.all_eq_true, List.mem_filter, Bool.not_eq_true', List.any_eq_false]
        constructor
        · intro h x hx z
          rw [this x hx] at z
          simp only [Bool.and_eq_true] at z
          have := h x ⟨hx, z.1⟩
          simp only [Function.comp, id] at this
          rw [this] at z
          simp at z
        · intro h x hx
          have := this x hx.1
          simp only [Function.comp, id]
          have h2 := h x hx.1
          rw [this, hx.2] at h2
          simpa using h2
      have eps : ps.map (fnd (top : Int)) = List.replicate ps.length 0 := by
        rw [List.eq_replicate_iff]
        refine ⟨List.length_map _, fun b hb => ?_⟩
        obtain ⟨x, hx, rfl⟩ := List.mem_map.mp hb
        have l0 := ls.good.l0 x hx
        obtain ⟨c, u⟩ := x
        rw [t0]
        cases c with
        | none => exact Int.mul_zero u
        | some c =>
          have l1 : 0 ≤ c := l0
          show (if u * ((0 : Nat) : Int) < c then u * ((0 : Nat) : Int) else c) = 0
          rw [show ((0 : Nat) : Int) = 0 from rfl, Int.mul_zero]
          split <;> omega
      refine ⟨E10, _, rfl, .of e10, .inr ⟨_, rfl, ?_⟩⟩
      rw [hall]
      have s610 : Same H6 H10 := ((s7.trans s8).trans s9).trans s10
      obtain ⟨lx, hix, hlx⟩ : ∃ lx : V, atI [V.ref t8, V.non] (if (!ps.any (above (top : Int))) = true then 1 else 0) = some lx ∧ LvAt H10 lx (if ps.any (above (top : Int)) = true then some ((top : Int), (bot : Int)) else none) := by
        cases ha : ps.any (above (top : Int)) with
        | true => exact ⟨.ref t8, rfl, t8, rfl, by rw [t0, b1]; exact s10 _ _ (s9 _ _ e8)⟩
        | false => exact ⟨.non, rfl, rfl⟩
      refine ⟨l9, _, _, _, rfl, rfl, .of (s10 _ _ e9), hix, (by show 1 ≤ sizeLine; decide), fun l11 n11 => ?_⟩
      have s11 := same_upd (o := .lst [.int 0]) n11
      have l11' := (l6.same s610).same s11
      refine ⟨_, rfl, _, _, rfl, .inl ⟨_, .of l11'.ep, rfl⟩, l11, _, [.int 0], rfl, rfl, upd_same, ?_, ?_, ?_, fun l12 n12 => ⟨(by show 2 ≤ sizeLine; decide), fun d13 n13 => ?_⟩⟩
      · omega
      · rw [List.length_map]
        omega
      · rw [List.length_map, Int.toNat_natCast]
        exact bigl (by simp; omega)
      refine ⟨d13, l12, lx, _, _, _, _, rfl, ((s610.trans s11).trans (same_upd n12)).trans (same_upd n13), upd_same, ?_, lvSame ((s11.trans (same_upd n12)).trans (same_upd n13)) hlx⟩
      refine same_upd n13 _ _ ?_
      rw [upd_same, rep_flat, List.length_map, Int.toNat_natCast, eps, List.map_replicate]
    · have ht : top ≠ 0 := fun z => e (by rw [z]; exact decide_eq_true rfl)
      refine ⟨Dv, F, lvv, _, _, _, _, rfl, Same.refl _, eDv, hF6, ?_⟩
      rw [← hlv ht]
      exact eLv
  rintro σ Hx ⟨Dw, F2, lv2v, w5, w6, w8, w9, rfl, sx, eDw, hF2, eLw⟩
  have lx := l6.same sx
  have s0x : Same H Hx := ((s2.trans s3).trans s6).trans sx
  refine ⟨_, rfl, F, _, rfl, .of (sx _ _ hF6), _, rfl, ca, _, rfl, .inl (.of lx.ec), fun c1 nc1 => ⟨_, rfl, wa, _, rfl, .inl (.of (same_upd nc1 _ _ lx.ew)), fun w1 nw1 => ?_⟩⟩
  have sc := same_upd (o := .lst (ps.map fun x => ov x.1)) nc1
  have sw := same_upd (o := .lst (ps.map fun x => .int (x.2 * (bot : Int)))) nw1
  refine ⟨(ps.map (fnd (top : Int))).sum, c1, w1, ps.map (wt (bot : Int)), rfl, ?_, ?_, fits_known ls fb, fun tt pp lvv lv2 parts H' nt np dl et el ep sm => ?_⟩
  · rw [List.map_map]
    exact sw _ _ upd_same
  · rw [List.map_map]
    exact upd_same
  · obtain ⟨h1, h2⟩ := known_cap ls.b0 ls.cop ls.good dl
    have sx' := (sc.trans sw).trans sm
    refine ⟨_, rfl, datT lv2 parts, datT _ (ps.map (fnd (top : Int))), dp_T et el ep, dp_T (sx' _ _ eDw) (lvSame sx' eLw) (sx' _ _ hF2), shaped_T _ _, shaped_T _ _, ?_⟩
    rw [eqv_T, decide_eq_true ⟨h2, h1⟩]
    exact q _ (s0x.trans sx')
end

theorem zip_fst_map {α β γ : Type} (f : α → γ) : ∀ (as : List α) (bs : List β), as.length = bs.length → ((as.zip bs).map fun x => f x.1) = as.map f
  | [], [], _ => rfl
  | a :: r, b :: q, h => by
    rw [List.zip_cons_cons, List.map_cons, List.map_cons, zip_fst_map f r q (by simpa using h)]
theorem zip_snd_map {α β γ : Type} (f : β → γ) : ∀ (as : List α) (bs : List β), as.length = bs.length → ((as.zip bs).map fun x => f x.2) = bs.map f
  | [], [], _ => rfl
  | a :: r, b :: q, h => by
    rw [List.zip_cons_cons, List.map_cons, List.map_cons, zip_snd_map f r q (by simpa using h)]
section
variable {P : Program} {w : World} {K : PySem.W.Frag} {mg : Str → Option Value} {base : Heap}
theorem ok_levelled_right (T : Txt K mg) : Ok P w K mg base CX0 "_law_levelled_right" s_levelled_right 6 ["_law_level_here", "_law_parts", "_law_floors", "_law_weights"] spLR := by
  have O_p_levelled := ok_levelled (P := P) (w := w) (base := base) T
  refine T.h_levelled_right.ok sc_levelled_right (fun vs H Q E h => ?_) (fun f cdv A outer s H vs Q E hr h => ?_)
  · obtain ⟨_, _, _, _, _, _, _, rfl, _⟩ := h; rfl
  obtain ⟨t, pa, ca, wa, top, bot, ps, rfl, ls, hk, q⟩ := h
  have n1 := ls.n1
  have fb := fndF_bound ls
  have eci : ∀ {H'}, Lists H' t pa ca wa top bot ps → H' ca = some (.lst (ps.map fun x => V.int (lim x))) := fun l => by
    rw [l.ec, ovs_known hk, List.map_map]
    rfl
  refine ⟨_, (pss_cons (ps_setLc (i := 4) (own := [("_law_floor", 5), ("_law_part", 6)]) (g := gTup K 2 (gCons (gName 5) (gCons (gName 6) gNil))) (by rfl) sc_levelled_right.nd rfl rfl (sw_true rfl rfl rfl (by decide +kernel)) (pi_zip (by rfl) T.m_zip (pa_cons (pv 2) (pa_cons (pv 1) pa_nil))) (blkOk_by (own := [("_law_floor", 5), ("_law_part", 6)]) (N := n_levelled_right) (sc := defScope s_levelled_right) (by decide +kernel)) (fun _ _ _ _ _ => (pg_tup rfl (pgs_cons (pg_name (i := 5) sc_levelled_right.nd rfl (by first | exact Or.inl rfl | exact Or.inr rfl)) (pgs_cons (pg_name (i := 6) sc_levelled_right.nd rfl (by first | exact Or.inl rfl | exact Or.inr rfl)) pgs_nil)))) (fun _ _ _ _ _ => pts_nil) (fun _ _ _ _ _ => (pe_callB (call_max2 rfl) (by rfl) T.m_max (by decide +kernel) (pa_cons (pv 5) (pa_cons (pv 6) pa_nil)))))
      (pss_cons (ps_set (i := 7) sc_levelled_right.nd rfl (by first | exact Or.inl rfl | exact Or.inr rfl) (pe_tup (pa_cons (pv 0) (pa_cons (pv 4) pa_nil))))
      (Evl.pss_cut (ps_if (pt_cmpR (op_eqD hr.units) (pe_lc (own := [("_law_floor", 5), ("_law_part", 6)]) (g := gTup K 2 (gCons (gName 5) (gCons (gName 6) gNil))) (by rfl) sc_levelled_right.nd (pi_zip (by rfl) T.m_zip (pa_cons (pv 2) (pa_cons (pv 1) pa_nil))) (blkOk_by (own := [("_law_floor", 5), ("_law_part", 6)]) (N := n_levelled_right) (sc := defScope s_levelled_right) (by decide +kernel)) (fun _ _ _ _ _ => (pg_tup rfl (pgs_cons (pg_name (i := 5) sc_levelled_right.nd rfl (by first | exact Or.inl rfl | exact Or.inr rfl)) (pgs_cons (pg_name (i := 6) sc_levelled_right.nd rfl (by first | exact Or.inl rfl | exact Or.inr rfl)) pgs_nil)))) (fun _ _ _ _ _ => (pts_one (pt_cmpR op_gt (pv 6) (pv 5) (nomark _)))) (fun _ _ _ _ _ => (pv 5))) (pe_lst pa_nil) (nomark _))
      (pss_one (ps_set (i := 7) sc_levelled_right.nd rfl (by first | exact Or.inl rfl | exact Or.inr rfl) (pe_tup (pa_cons pe_non (pa_cons (pe_callTy call_list_of (by rfl) T.m_list (by decide +kernel) (pa_cons (pv 2) pa_nil)) pa_nil)))))
      pss_nil)
      (pss_one (ps_ret (pe_cmpR (op_eqD hr.units) (callO O_p_levelled (hr.mono (by decide)) (by rfl) (pa_cons (pe_callB (cr_sum rfl) (by rfl) T.m_sum (by decide +kernel) (pa_cons (pv 4) pa_nil)) (pa_cons (pe_callTy call_list_of (by rfl) T.m_list (by decide +kernel) (pa_cons (pv 2) pa_nil)) (pa_cons (pe_callTy call_list_of (by rfl) T.m_list (by decide +kernel) (pa_cons (pv 3) pa_nil)) pa_nil)))) (pv 7) (nomark _))))))), ?_⟩
  refine ⟨_, rfl, _, rfl, ca, pa, _, _, rfl, .of ls.ec, .of ls.ep, fun F nF => lcF_zip (K := K) (as := ps) (bs := ps) (fun x => V.int (lim x)) (fun x => V.int (x.2 * (top : Int))) (fun x _ => some (fndF (top : Int) x)) V.int (.of (eci ls)) (.of ls.ep) nF (by omega) ?_ ?_⟩
  · intro i x y H' A' B' hx hy sm ka kb
    rw [hx] at hy
    cases hy
    refine ⟨rfl, yes_if ⟨_, rfl, _, rfl, _, _, rfl, ka _ _ rfl (Same.refl _)⟩⟩
  intro H1 s1 eF
  rw [fm_zip_self (fun (x _ : Pr) => some (fndF (top : Int) x)) ps, fm_some] at eF
  have l1 := ls.same s1
  refine ⟨_, rfl, _, rfl, (by show 2 ≤ sizeLine; decide), fun Du nDu => ?_⟩
  have s3 := same_upd (o := .tup [.ref t, .ref F]) nDu
  have eDu : (upd H1 Du (.tup [.ref t, .ref F])) Du = some (.tup [.ref t, .ref F]) := upd_same
  generalize upd H1 Du (.tup [.ref t, .ref F]) = H3 at s3 eDu ⊢
  have l3 := l1.same s3
  have hF3 := s3 _ _ eF
  refine ⟨fun σ H' => ∃ (Dv F2 : Addr) (lvv : V) (v5 v6 : Option V), σ = [some (.ref t), some (.ref pa), some (.ref ca), some (.ref wa), some (.ref F), v5, v6, some (.ref Dv)] ∧ Same H3 H' ∧ H' Dv = some (.tup [lvv, .ref F2]) ∧ H' F2 = some (.lst ((ps.map (fndF (top : Int))).map V.int)) ∧ LvAt H' lvv (if ps.any (fun x => decide (x.2 * (top : Int) > lim x)) = true then some ((top : Int), (bot : Int)) else none), ?_, ?_⟩
  · refine ⟨_, rfl, _, rfl, ca, pa, _, _, rfl, .of l3.ec, .of l3.ep, fun D nD => lcF_zip (K := K) (as := ps) (bs := ps) (fun x => V.int (lim x)) (fun x => V.int (x.2 * (top : Int))) (fun x y => if decide (lim x < y.2 * (top : Int)) = true then some (lim x) else none) V.int (.of (eci l3)) (.of l3.ep) nD (by omega) ?_ ?_⟩
    · intro i x y H' A' B' hx hy sm ka kb
      refine ⟨rfl, _, rfl, _, rfl, _, _, rfl, rfl, _, rfl, ite2 (fun e => ?_) (fun e => ?_)⟩
      · exact ⟨_, rfl, ka _ _ (if_pos e) (Same.refl _)⟩
      · exact kb _ (if_neg e) (Same.refl _)
    intro H4 s4 e4
    rw [fm_zip_self (fun (x y : Pr) => if decide (lim x < y.2 * (top : Int)) = true then some (lim x) else none) ps, fm_opt (fun x : Pr => decide (lim x < x.2 * (top : Int))) lim] at e4
    refine ⟨(by show 0 ≤ sizeLine; decide), fun Em nEm => ?_⟩
    have s5 := same_upd (o := .lst []) nEm
    have e5 : (upd H4 Em (.lst [])) Em = some (.lst (([] : List Int).map V.int)) := upd_same
    generalize upd H4 Em (.lst []) = H5 at s5 e5 ⊢
    refine ⟨datI _, datI [], dp_ints (.of (s5 _ _ e4)), dp_ints (.of e5), shaped_ints _, shaped_ints _, _, rfl, ?_⟩
    rw [eqv_datI]
    have eq1 : ((ps.filter fun x => decide (lim x < x.2 * (top : Int))).map lim) = [] ↔ ps.any (fun x => decide (x.2 * (top : Int) > lim x)) = false := by
      rw [List.map_eq_nil_iff, filter_nil_any]
    have l5 := l3.same (s4.trans s5)
    refine ite2 (fun e => ?_) (fun e => ?_)
    · have en := eq1.mp (of_decide_eq_true e)
      refine ⟨_, rfl, ca, _, rfl, .inl (.of (eci l5)), fun F2 nF2 => ⟨(by show 2 ≤ sizeLine; decide), fun Dn nDn => ?_⟩⟩
      refine ⟨Dn, F2, .non, _, _, rfl, ((s4.trans s5).trans (same_upd nF2)).trans (same_upd nDn), upd_same, same_upd nDn _ _ ?_, ?_⟩
      · rw [upd_same, List.map_map]
        congr 2
        refine List.map_congr_left fun x hx => ?_
        show V.int (lim x) = V.int (fndF (top : Int) x)
        unfold fndF
        rw [if_neg]
        intro z
        exact List.any_eq_false.mp en x hx (decide_eq_true z)
      · rw [en, if_neg (by decide)]
        rfl
    · refine ⟨Du, F, .ref t, _, _, rfl, s4.trans s5, s5 _ _ (s4 _ _ eDu), s5 _ _ (s4 _ _ hF3), ?_⟩
      rw [if_pos]
      · exact ⟨t, rfl, l5.et⟩
      · cases ha : ps.any (fun x => decide (x.2 * (top : Int) > lim x)) with
        | true => rfl
        | false => exact absurd (decide_eq_true (eq1.mpr ha)) e
  rintro σ Hx ⟨Dw, F2, lv2v, w5, w6, rfl, sx, eDw, hF2, eLw⟩
  have lx := l3.same sx
  have s0x : Same H Hx := (s1.trans s3).trans sx
  refine ⟨_, rfl, F, _, rfl, .of (sx _ _ hF3), _, rfl, ca, _, rfl, .inl (.of lx.ec), fun c1 nc1 => ⟨_, rfl, wa, _, rfl, .inl (.of (same_upd nc1 _ _ lx.ew)), fun w1 nw1 => ?_⟩⟩
  have sc := same_upd (o := .lst (ps.map fun x => ov x.1)) nc1
  have sw := same_upd (o := .lst (ps.map fun x => .int (x.2 * (bot : Int)))) nw1
  refine ⟨(ps.map (fndF (top : Int))).sum, c1, w1, ps.map (wt (bot : Int)), rfl, ?_, ?_, ?_, fits_known ls fb, fun tt pp lvv lv2 parts H' nt np dl et el ep sm => ?_⟩
  · rw [List.map_map]
    exact sw _ _ upd_same
  · rw [List.map_map]
    exact upd_same
  · intro y hy
    obtain ⟨x, hx, rfl⟩ := List.mem_map.mp hy
    exact hk x hx
  · obtain ⟨h1, h2⟩ := known_flo ls.b0 ls.cop ls.good dl
    have sx' := (sc.trans sw).trans sm
    refine ⟨_, rfl, datT lv2 parts, datT _ (ps.map (fndF (top : Int))), dp_T et el ep, dp_T (sx' _ _ eDw) (lvSame sx' eLw) (sx' _ _ hF2), shaped_T _ _, shaped_T _ _, ?_⟩
    rw [eqv_T, decide_eq_true ⟨h2, h1⟩]
    exact q _ (s0x.trans sx')
theorem ok_law {f : Addr} {fd : FuncData} (F : Fun K "law" "law" s_law f fd) (T : Txt K mg) : FnOk P w K mg base CX0 7 f fd ["_law_script"] (spLaw K) := by
  have O_cell_at := ok_cell_at (P := P) (w := w) (base := base) T
  have O_source := ok_source (P := P) (w := w) (base := base) T
  have O_next := ok_next (P := P) (w := w) (base := base) T
  have O_level := ok_level (P := P) (w := w) (base := base) T
  have O_bounds := ok_bounds (P := P) (w := w) (base := base) T
  have O_dealt_right := ok_dealt_right (P := P) (w := w) (base := base) T
  have O_levelled_right := ok_levelled_right (P := P) (w := w) (base := base) T
  refine F.ok sc_law (fun vs H Q E h => ?_) (fun cdv A outer s H vs Q E hr h => ?_)
  · obtain ⟨a, ns, rfl, _⟩ := h; rfl
  obtain ⟨a, ns, rfl, hS, hlen, k⟩ := h
  refine ⟨_, (pss_cons (ps_for PassesOwn.never rfl (pi_list (pe_op op_cat (pe_lst (pa_cons (callO O_cell_at (hr.mono (by decide)) (by rfl) (pa_cons (pv 0) (pa_cons pe_int pa_nil))) pa_nil)) (pe_slice sl_list (pv 0) (po_some pe_int) (po_some pe_int)))) (pg_name (i := 1) sc_law.nd rfl (by first | exact Or.inl rfl | exact Or.inr rfl))
      (pss_cons (ps_set (i := 2) sc_law.nd rfl (by first | exact Or.inl rfl | exact Or.inr rfl) (callO O_source (hr.mono (by decide)) (by rfl) (pa_cons (pv 1) pa_nil)))
      (pss_cons (ps_set (i := 3) sc_law.nd rfl (by first | exact Or.inl rfl | exact Or.inr rfl) (callO O_level (hr.mono (by decide)) (by rfl) (pa_cons (pv 2) pa_nil)))
      (pss_cons (ps_set (i := 4) sc_law.nd rfl (by first | exact Or.inl rfl | exact Or.inr rfl) (callO O_next (hr.mono (by decide)) (by rfl) (pa_cons (pv 2) (pa_cons (pe_ix ix_list (pe_lst (pa_cons pe_int (pa_cons pe_int (pa_cons pe_int pa_nil)))) (callO O_next (hr.mono (by decide)) (by rfl) (pa_cons (pv 2) (pa_cons pe_int pa_nil))) (fun _ _ => rfl)) pa_nil))))
      (pss_cons (ps_set (i := 5) sc_law.nd rfl (by first | exact Or.inl rfl | exact Or.inr rfl) (pe_ix ix_list (pe_lst (pa_cons pe_int (pa_cons pe_int (pa_cons (pe_op op_pow pe_int pe_int) pa_nil)))) (callO O_next (hr.mono (by decide)) (by rfl) (pa_cons (pv 2) (pa_cons pe_int pa_nil))) (fun _ _ => rfl)))
      (pss_cons (ps_setLc (i := 6) (own := [("_law_k", 7)]) (by rfl) sc_law.nd rfl rfl (sw_true rfl rfl rfl (by decide +kernel)) (pi_range1 (by rfl) T.m_range (pa_cons (pv 4) pa_nil)) (blkOk_by (own := [("_law_k", 7)]) (N := n_law) (sc := defScope s_law) (by decide +kernel)) (fun _ _ _ _ _ => (pg_name (i := 7) sc_law.nd rfl (by first | exact Or.inl rfl | exact Or.inr rfl))) (fun _ _ _ _ _ => pts_nil) (fun _ _ _ _ _ => (callO O_next (hr.mono (by decide)) (by rfl) (pa_cons (pv 2) (pa_cons (pv 5) pa_nil)))))
      (pss_cons (ps_setLc (i := 8) (own := [("_law_unit", 9)]) (te := (tOp _ (tVar 9) (tOp (rIxT K) (tVar 3) _))) (by rfl) sc_law.nd rfl rfl (sw_true rfl rfl rfl (by decide +kernel)) (pi_list (pv 6)) (blkOk_by (own := [("_law_unit", 9)]) (N := n_law) (sc := defScope s_law) (by decide +kernel)) (fun _ _ _ _ _ => (pg_name (i := 9) sc_law.nd rfl (by first | exact Or.inl rfl | exact Or.inr rfl))) (fun _ _ _ _ _ => pts_nil) (fun _ _ _ _ _ => (pe_op op_mul (pv 9) (pe_ix ix_tup (pv 3) pe_int (fun _ _ => rfl)))))
      (pss_cons (ps_setLc (i := 10) (own := [("_law_unit", 9)]) (te := (tOp _ (tVar 9) (tOp (rIxT K) (tVar 3) _))) (by rfl) sc_law.nd rfl rfl (sw_true rfl rfl rfl (by decide +kernel)) (pi_list (pv 6)) (blkOk_by (own := [("_law_unit", 9)]) (N := n_law) (sc := defScope s_law) (by decide +kernel)) (fun _ _ _ _ _ => (pg_name (i := 9) sc_law.nd rfl (by first | exact Or.inl rfl | exact Or.inr rfl))) (fun _ _ _ _ _ => pts_nil) (fun _ _ _ _ _ => (pe_op op_mul (pv 9) (pe_ix ix_tup (pv 3) pe_int (fun _ _ => rfl)))))
      (pss_cons (ps_set (i := 11) sc_law.nd rfl (by first | exact Or.inl rfl | exact Or.inr rfl) (callO O_bounds (hr.mono (by decide)) (by rfl) (pa_cons (pv 2) (pa_cons (pv 10) pa_nil))))
      (pss_cons (ps_setLc (i := 12) (own := [("_law_bound", 13)]) (te := (tOp (rIxL K) (tLst (tCons (tVar 13) (tCons _ tNil))) (tOp _ (tCall _ _ _ (tCons (tVar 2) (tCons _ tNil))) _))) (by rfl) sc_law.nd rfl rfl (sw_true rfl rfl rfl (by decide +kernel)) (pi_list (pv 11)) (blkOk_by (own := [("_law_bound", 13)]) (N := n_law) (sc := defScope s_law) (by decide +kernel)) (fun _ _ _ _ _ => (pg_name (i := 13) sc_law.nd rfl (by first | exact Or.inl rfl | exact Or.inr rfl))) (fun _ _ _ _ _ => pts_nil) (fun _ _ _ _ _ => (pe_ix ix_list (pe_lst (pa_cons (pv 13) (pa_cons pe_non pa_nil))) (pe_op op_fdiv (callO O_next (hr.mono (by decide)) (by rfl) (pa_cons (pv 2) (pa_cons pe_int pa_nil))) pe_int) (fun _ _ => rfl))))
      (pss_cons (ps_if (pt_not (pt_val (callO O_dealt_right (hr.mono (by decide)) (by rfl) (pa_cons (pv 3) (pa_cons (pv 10) (pa_cons (pv 12) (pa_cons (pv 8) pa_nil)))))))
      (pss_one (ps_ret pe_bl))
      pss_nil)
      (pss_one (ps_if (pt_not (pt_val (callO O_levelled_right (hr.mono (by decide)) (by rfl) (pa_cons (pv 3) (pa_cons (pv 10) (pa_cons (pv 11) (pa_cons (pv 8) pa_nil)))))))
      (pss_one (ps_ret pe_bl))
      pss_nil)))))))))))))
      (pss_one (ps_ret pe_bl))), ?_⟩
  refine cells_for rfl hS hlen fun L zs HB hL sB => ?_
  refine for_list (K := K) (a := L) (xs := zs.map V.int) (fun i σ H2 => (∃ v1 v2 v3 v4 v5 v6 v7 v8 v9 v10 v11 v12 v13, σ = [some (.ref a), v1, v2, v3, v4, v5, v6, v7, v8, v9, v10, v11, v12, v13]) ∧ Same HB H2)
    ⟨⟨none, none, none, none, none, none, none, none, none, none, none, none, none, rfl⟩, .refl _⟩ (fun i σ H2 _ h2 => .of (h2.2 _ _ hL)) ?_ (fun σ H2 _ => k H2)
  rintro i y σ H2 hi ⟨⟨v1, v2, v3, v4, v5, v6, v7, v8, v9, v10, v11, v12, v13, rfl⟩, sm⟩
  obtain ⟨z, rfl, _⟩ := int_at hi
  refine ⟨_, rfl, z, rfl, fun p H3 np s3 sm3 => ?_⟩
  refine ⟨_, rfl, p, rfl, s3, fun t top bot H4 nt tp t1 b0 b1 cop et s4 o4 => ?_⟩
  refine ⟨_, rfl, (by show 3 ≤ sizeLine; decide), fun l5 n5 => ?_⟩
  refine ⟨_, rfl, p, 3, rfl, by decide, by decide, s4.keep n5, fun r5 H5 a5 b5 s5 o5 => ?_⟩
  obtain ⟨m, ha, hm⟩ := pick (ns := [4, 12, 41]) a5 b5 (fun m => 0 < m ∧ m ≤ 41) (by decide)
  refine ⟨l5, _, _, _, rfl, rfl, .of (o5 _ _ upd_same (s4.ne_new n5)), ha, p, m, rfl, hm.1, by omega, s5, fun many H6 a6 b6 s6 o6 => ?_⟩
  refine ⟨_, _, rfl, rfl, ⟨by decide, by decide, by decide⟩, (by show 3 ≤ sizeLine; decide), fun l7 n7 => ?_⟩
  refine ⟨_, rfl, p, 3, rfl, by decide, by decide, s6.keep n7, fun r7 H7 a7 b7 s7 o7 => ?_⟩
  obtain ⟨far, ha7, hm7⟩ := pick (ns := [2, 9, 10 ^ (4 : Int).toNat]) a7 b7 (fun m => 0 < m ∧ m ≤ 10000) (by decide)
  refine ⟨l7, _, _, _, rfl, rfl, .of (o7 _ _ upd_same (s6.ne_new n7)), ha7, ?_⟩
  have o37 : Off p H4 H7 := (((off_new n5).trans o5).trans o6).trans ((off_new n7).trans o7)
  have et7 := o37 _ _ et tp
  -- the units
  refine ⟨_, rfl, _, rfl, by omega, by omega, fun U nU => lcD (walk_range (lo := 0) (n := many.toNat)) (p := p) V.int (fun i x => x = V.int (0 + (i : Int))) (fun _ _ _ _ h => h) (fun _ r => 0 ≤ r ∧ r < far) s7 nU (by omega) (fun _ _ => trivial) ?_ ?_⟩
  · rintro i x H' A' hi rfl sH o kA
    exact ⟨rfl, _, rfl, _, rfl, p, far, rfl, hm7.1, by omega, sH, fun r H'' r0 r1 s'' o'' => kA r H'' ⟨r0, r1⟩ s'' o''⟩
  intro H8 us hUp ulen uR eU s8 o8
  have uB : ∀ u ∈ us, 0 ≤ u ∧ u < 10000 := fun u hu => by
    obtain ⟨i, hi⟩ := List.getElem?_of_mem hu
    have := uR i u hi
    omega
  have et8 := o8 _ _ et7 tp
  -- the weights
  refine ⟨_, rfl, U, rfl, ⟨_, .of eU⟩, fun Wa nW => lcF_list (K := K) (as := us) V.int (fun u => some (u * (bot : Int))) V.int (.of eU) nW (by omega) ?_ ?_⟩
  · intro i u H' A' B' hu sm' ka kb
    have ub := uB u (List.mem_of_getElem? hu)
    exact ⟨rfl, yes_if ⟨_, rfl, _, rfl, t, _, _, _, rfl, rfl, .of (sm' _ _ et8), atI_nat (j := 1) rfl, _, _, rfl, rfl, .inl ⟨by omega, by omega⟩, ka _ _ rfl (Same.refl _)⟩⟩
  intro H9 s9 eW
  rw [fm_some] at eW
  have eU9 := s9 _ _ eU
  have et9 := s9 _ _ et8
  refine ⟨_, rfl, U, rfl, ⟨_, .of eU9⟩, fun Pa nP => lcF_list (K := K) (as := us) V.int (fun u => some (u * (top : Int))) V.int (.of eU9) nP (by omega) ?_ ?_⟩
  · intro i u H' A' B' hu sm' ka kb
    have ub := uB u (List.mem_of_getElem? hu)
    exact ⟨rfl, yes_if ⟨_, rfl, _, rfl, t, _, _, _, rfl, rfl, .of (sm' _ _ et9), atI_nat (j := 0) rfl, _, _, rfl, rfl, .inl ⟨by omega, by omega⟩, ka _ _ rfl (Same.refl _)⟩⟩
  intro H10 s10 eP
  rw [fm_some] at eP
  have hPp : Pa ≠ p := (s8.same s9).ne_new nP
  have hWp : Wa ≠ p := s8.ne_new nW
  have src10 : Src H10 p := (s8.same s9).same s10
  refine ⟨_, rfl, _, rfl, p, Pa, us.map (fun u => u * (top : Int)), rfl, src10, hPp, eP, ?_, ?_, fun Bo bs H11 nB hBp blen hb eB s11 o11 => ?_⟩
  · intro n hn
    obtain ⟨u, hu, rfl⟩ := List.mem_map.mp hn
    exact Int.mul_nonneg (uB u hu).1 (by omega)
  · rw [List.length_map]
    omega
  rw [List.length_map] at blen
  -- the caps
  refine ⟨_, rfl, Bo, rfl, ⟨_, .of eB⟩, fun Ca nC => lcD (walk_list (K := K) (a := Bo) (xs := bs.map V.int)) (p := p) ov (fun i x => (bs.map V.int)[i]? = some x) (fun _ _ _ _ h => h) (fun i c => c = none ∨ c = bs[i]?) s11 nC (by rw [List.length_map]; omega) (fun H' o => .of (o _ _ eB hBp)) ?_ ?_⟩
  · rintro i x H' A' hi hx sH o kA
    obtain ⟨b, rfl, hb'⟩ := int_at hx
    refine ⟨rfl, _, rfl, (by show 2 ≤ sizeLine; decide), fun l12 n12 => ?_⟩
    refine ⟨_, rfl, p, 4, rfl, by decide, by decide, sH.keep n12, fun r H'' r0 r1 s'' o'' => ⟨_, _, rfl, rfl, ⟨by decide, by decide⟩, ?_⟩⟩
    have hl12 : l12 ≠ p := sH.ne_new n12
    have oo : Off p H' H'' := (off_new n12).trans o''
    rcases (show r / 3 = 0 ∨ r / 3 = 1 by omega) with e | e
    · refine ⟨l12, [.int b, .non], _, .int b, rfl, rfl, .of (o'' _ _ upd_same hl12), by rw [e]; rfl, kA (some b) H'' (.inr hb'.symm) s'' oo⟩
    · refine ⟨l12, [.int b, .non], _, .non, rfl, rfl, .of (o'' _ _ upd_same hl12), by rw [e]; rfl, kA none H'' (.inl rfl) s'' oo⟩
  intro H12 cs hCp clen cR eC s12 o12
  rw [List.length_map] at clen
  have o10 : Off p H10 H12 := o11.trans o12
  have eP12 := o10 _ _ eP hPp
  have eW12 := o10 _ _ (s10 _ _ eW) hWp
  have et12 := o10 _ _ (s10 _ _ et9) tp
  have lcu : cs.length = us.length := by omega
  have lbu : (bs.map some).length = us.length := by rw [List.length_map]; omega
  have zm : ∀ {β : Type} (l : List β) (x : β × Int), x ∈ l.zip us → x.1 ∈ l ∧ x.2 ∈ us := fun l x hx => ⟨(List.of_mem_zip (show (x.1, x.2) ∈ l.zip us from hx)).1, (List.of_mem_zip (show (x.1, x.2) ∈ l.zip us from hx)).2⟩
  have cB : ∀ c ∈ cs, 0 ≤ c.getD 0 ∧ c.getD 0 ≤ 5000000000 := fun c hc => by
    obtain ⟨i, hi⟩ := List.getElem?_of_mem hc
    rcases cR i c hi with rfl | e
    · exact ⟨by decide, by decide⟩
    · cases eb : bs[i]? with
      | none => rw [e, eb]; exact ⟨by decide, by decide⟩
      | some b => rw [e, eb]; exact hb b (List.mem_of_getElem? eb)
  have ls1 : Lists H12 t Pa Ca Wa top bot (cs.zip us) := by
    refine ⟨et12, ?_, ?_, ?_, t1, b0, b1, cop, ⟨fun x hx => (uB _ (zm _ x hx).2).1, fun x hx => (cB _ (zm _ x hx).1).1⟩, fun x hx => (cB _ (zm _ x hx).1).2, fun x hx => Int.le_of_lt (uB _ (zm _ x hx).2).2, by rw [List.length_zip]; omega⟩
    · rw [zip_snd_map (fun u => V.int (u * (top : Int))) cs us lcu, eP12, List.map_map]
      rfl
    · rw [zip_fst_map ov cs us lcu]
      exact eC
    · rw [zip_snd_map (fun u => V.int (u * (bot : Int))) cs us lcu, eW12, List.map_map]
      rfl
  refine ⟨_, rfl, _, rfl, _, rfl, _, rfl, t, Pa, Ca, Wa, top, bot, cs.zip us, rfl, ls1, fun H13 s13 => ⟨true, rfl, iteF ?_⟩⟩
  have ls2 : Lists H13 t Pa Bo Wa top bot ((bs.map some).zip us) := by
    refine ⟨s13 _ _ et12, ?_, ?_, ?_, t1, b0, b1, cop, ⟨fun x hx => (uB _ (zm _ x hx).2).1, fun x hx => ?_⟩, fun x hx => ?_, fun x hx => Int.le_of_lt (uB _ (zm _ x hx).2).2, by rw [List.length_zip]; omega⟩
    · rw [zip_snd_map (fun u => V.int (u * (top : Int))) (bs.map some) us lbu, s13 _ _ eP12, List.map_map]
      rfl
    · rw [zip_fst_map ov (bs.map some) us lbu, s13 _ _ (o12 _ _ eB hBp), List.map_map]
      rfl
    · rw [zip_snd_map (fun u => V.int (u * (bot : Int))) (bs.map some) us lbu, s13 _ _ eW12, List.map_map]
      rfl
    · obtain ⟨b, hb', e⟩ := List.mem_map.mp (zm _ x hx).1
      unfold lim
      rw [← e]
      exact (hb b hb').1
    · obtain ⟨b, hb', e⟩ := List.mem_map.mp (zm _ x hx).1
      unfold lim
      rw [← e]
      exact (hb b hb').2
  refine ⟨_, rfl, _, rfl, _, rfl, _, rfl, t, Pa, Bo, Wa, top, bot, (bs.map some).zip us, rfl, ls2, fun x hx => ?_, fun H14 s14 => ⟨true, rfl, iteF ?_⟩⟩
  · obtain ⟨b, hb', e⟩ := List.mem_map.mp (zm _ x hx).1
    rw [← e]
    simp
  refine ⟨⟨_, _, _, _, _, _, _, _, _, _, _, _, _, rfl⟩, fun b o hb' => ?_⟩
  have hbp : b ≠ p := ne_of_none (sm _ _ hb') np
  exact s14 _ _ (s13 _ _ (o10 _ _ (s10 _ _ (s9 _ _ (o8 _ _ (o37 _ _ (o4 _ _ (sm3 _ _ (sm _ _ hb')) hbp) hbp) hbp))) hbp))
end

theorem all_mk {l : PySem.W.OpenLaw} {w : World} {K : PySem.W.Frag} {h : Heap} {mg : Str → Option Value} {fa : Addr} (X : K.In h) (G : h.Ns mainGlobals mg) (hfa : mg "law" = some (.ref fa))
    {f0 f1 f2 f3 f4 f5 f6 f7 f8 f9 f10 f11 f12 f13 f14 f15 f16 f17 f18 f19 f20 f21 f22 : Addr} {od0 an0 od1 an1 od2 an2 od3 an3 od4 an4 od5 an5 od6 an6 od7 an7 od8 an8 od9 an9 od10 an10 od11 an11 od12 an12 od13 an13 od14 an14 od15 an15 od16 an16 od17 an17 od18 an18 od19 an19 od20 an20 od21 an21 od22 an22 : Option Addr} {sl0 sl1 sl2 sl3 sl4 sl5 sl6 sl7 sl8 sl9 sl10 sl11 sl12 sl13 sl14 sl15 sl16 sl17 sl18 sl19 sl20 sl21 sl22 : Array (Option Value)}
    {oc0 kV0 dc0 pm0 cd0 ct0 oc1 kV1 dc1 pm1 cd1 ct1 oc2 kV2 dc2 pm2 cd2 ct2 oc3 kV3 dc3 pm3 cd3 ct3 oc4 kV4 dc4 pm4 cd4 ct4 oc5 kV5 dc5 pm5 cd5 ct5 oc6 kV6 dc6 pm6 cd6 ct6 oc7 kV7 dc7 pm7 cd7 ct7 oc8 kV8 dc8 pm8 cd8 ct8 oc9 kV9 dc9 pm9 cd9 ct9 oc10 kV10 dc10 pm10 cd10 ct10 oc11 kV11 dc11 pm11 cd11 ct11 oc12 kV12 dc12 pm12 cd12 ct12 oc13 kV13 dc13 pm13 cd13 ct13 oc14 kV14 dc14 pm14 cd14 ct14 oc15 kV15 dc15 pm15 cd15 ct15 oc16 kV16 dc16 pm16 cd16 ct16 oc17 kV17 dc17 pm17 cd17 ct17 oc18 kV18 dc18 pm18 cd18 ct18 oc19 kV19 dc19 pm19 cd19 ct19 oc20 kV20 dc20 pm20 cd20 ct20 oc21 kV21 dc21 pm21 cd21 ct21 oc22 kV22 dc22 pm22 cd22 ct22 : Value}
    (a0 : PySem.W.nsIn K mainGlobals "is_whole" = some (some (.ref f0))) (l0 : K.lookup f0 = some ⟨oc0, od0, .func (PySem.W.fnOf "is_whole" "is_whole" (defArgs s_p_is_whole) (defBody s_p_is_whole) (defScope s_p_is_whole) .none kV0 dc0 pm0 an0 cd0 ct0), sl0⟩) (c0 : PySem.W.codeIn K cd0 "is_whole" = true) (k0 : PySem.W.keepIn K (.ref f0) = true)
    (a1 : PySem.W.nsIn K mainGlobals "is_count" = some (some (.ref f1))) (l1 : K.lookup f1 = some ⟨oc1, od1, .func (PySem.W.fnOf "is_count" "is_count" (defArgs s_p_is_count) (defBody s_p_is_count) (defScope s_p_is_count) .none kV1 dc1 pm1 an1 cd1 ct1), sl1⟩) (c1 : PySem.W.codeIn K cd1 "is_count" = true) (k1 : PySem.W.keepIn K (.ref f1) = true)
    (a2 : PySem.W.nsIn K mainGlobals "dealt" = some (some (.ref f2))) (l2 : K.lookup f2 = some ⟨oc2, od2, .func (PySem.W.fnOf "dealt" "dealt" (defArgs s_p_dealt) (defBody s_p_dealt) (defScope s_p_dealt) .none kV2 dc2 pm2 an2 cd2 ct2), sl2⟩) (c2 : PySem.W.codeIn K cd2 "dealt" = true) (k2 : PySem.W.keepIn K (.ref f2) = true)
    (a3 : PySem.W.nsIn K mainGlobals "levelled" = some (some (.ref f3))) (l3 : K.lookup f3 = some ⟨oc3, od3, .func (PySem.W.fnOf "levelled" "levelled" (defArgs s_p_levelled) (defBody s_p_levelled) (defScope s_p_levelled) .none kV3 dc3 pm3 an3 cd3 ct3), sl3⟩) (c3 : PySem.W.codeIn K cd3 "levelled" = true) (k3 : PySem.W.keepIn K (.ref f3) = true)
    (a4 : PySem.W.nsIn K mainGlobals "refuse_no_list" = some (some (.ref f4))) (l4 : K.lookup f4 = some ⟨oc4, od4, .func (PySem.W.fnOf "refuse_no_list" "refuse_no_list" (defArgs s_p_refuse_no_list) (defBody s_p_refuse_no_list) (defScope s_p_refuse_no_list) .none kV4 dc4 pm4 an4 cd4 ct4), sl4⟩) (c4 : PySem.W.codeIn K cd4 "refuse_no_list" = true) (k4 : PySem.W.keepIn K (.ref f4) = true)
    (a5 : PySem.W.nsIn K mainGlobals "refuse_no_counts" = some (some (.ref f5))) (l5 : K.lookup f5 = some ⟨oc5, od5, .func (PySem.W.fnOf "refuse_no_counts" "refuse_no_counts" (defArgs s_p_refuse_no_counts) (defBody s_p_refuse_no_counts) (defScope s_p_refuse_no_counts) .none kV5 dc5 pm5 an5 cd5 ct5), sl5⟩) (c5 : PySem.W.codeIn K cd5 "refuse_no_counts" = true) (k5 : PySem.W.keepIn K (.ref f5) = true)
    (a6 : PySem.W.nsIn K mainGlobals "refuse_no_weights" = some (some (.ref f6))) (l6 : K.lookup f6 = some ⟨oc6, od6, .func (PySem.W.fnOf "refuse_no_weights" "refuse_no_weights" (defArgs s_p_refuse_no_weights) (defBody s_p_refuse_no_weights) (defScope s_p_refuse_no_weights) .none kV6 dc6 pm6 an6 cd6 ct6), sl6⟩) (c6 : PySem.W.codeIn K cd6 "refuse_no_weights" = true) (k6 : PySem.W.keepIn K (.ref f6) = true)
    (a7 : PySem.W.nsIn K mainGlobals "by_level" = some (some (.ref f7))) (l7 : K.lookup f7 = some ⟨oc7, od7, .func (PySem.W.fnOf "by_level" "by_level" (defArgs s_p_by_level) (defBody s_p_by_level) (defScope s_p_by_level) .none kV7 dc7 pm7 an7 cd7 ct7), sl7⟩) (c7 : PySem.W.codeIn K cd7 "by_level" = true) (k7 : PySem.W.keepIn K (.ref f7) = true)
    (a8 : PySem.W.nsIn K mainGlobals "unbound" = some (some (.ref f8))) (l8 : K.lookup f8 = some ⟨oc8, od8, .func (PySem.W.fnOf "unbound" "unbound" (defArgs s_p_unbound) (defBody s_p_unbound) (defScope s_p_unbound) .none kV8 dc8 pm8 an8 cd8 ct8), sl8⟩) (c8 : PySem.W.codeIn K cd8 "unbound" = true) (k8 : PySem.W.keepIn K (.ref f8) = true)
    (a9 : PySem.W.nsIn K mainGlobals "cap_binds" = some (some (.ref f9))) (l9 : K.lookup f9 = some ⟨oc9, od9, .func (PySem.W.fnOf "cap_binds" "cap_binds" (defArgs s_p_cap_binds) (defBody s_p_cap_binds) (defScope s_p_cap_binds) .none kV9 dc9 pm9 an9 cd9 ct9), sl9⟩) (c9 : PySem.W.codeIn K cd9 "cap_binds" = true) (k9 : PySem.W.keepIn K (.ref f9) = true)
    (a10 : PySem.W.nsIn K mainGlobals "floor_binds" = some (some (.ref f10))) (l10 : K.lookup f10 = some ⟨oc10, od10, .func (PySem.W.fnOf "floor_binds" "floor_binds" (defArgs s_p_floor_binds) (defBody s_p_floor_binds) (defScope s_p_floor_binds) .none kV10 dc10 pm10 an10 cd10 ct10), sl10⟩) (c10 : PySem.W.codeIn K cd10 "floor_binds" = true) (k10 : PySem.W.keepIn K (.ref f10) = true)
    (a11 : PySem.W.nsIn K mainGlobals "running_parts" = some (some (.ref f11))) (l11 : K.lookup f11 = some ⟨oc11, od11, .func (PySem.W.fnOf "running_parts" "running_parts" (defArgs s_p_running_parts) (defBody s_p_running_parts) (defScope s_p_running_parts) .none kV11 dc11 pm11 an11 cd11 ct11), sl11⟩) (c11 : PySem.W.codeIn K cd11 "running_parts" = true) (k11 : PySem.W.keepIn K (.ref f11) = true)
    (a12 : PySem.W.nsIn K mainGlobals "in_lowest_terms" = some (some (.ref f12))) (l12 : K.lookup f12 = some ⟨oc12, od12, .func (PySem.W.fnOf "in_lowest_terms" "in_lowest_terms" (defArgs s_p_in_lowest_terms) (defBody s_p_in_lowest_terms) (defScope s_p_in_lowest_terms) .none kV12 dc12 pm12 an12 cd12 ct12), sl12⟩) (c12 : PySem.W.codeIn K cd12 "in_lowest_terms" = true) (k12 : PySem.W.keepIn K (.ref f12) = true)
    (a13 : PySem.W.nsIn K mainGlobals "_law_cell_at" = some (some (.ref f13))) (l13 : K.lookup f13 = some ⟨oc13, od13, .func (PySem.W.fnOf "_law_cell_at" "_law_cell_at" (defArgs s_cell_at) (defBody s_cell_at) (defScope s_cell_at) .none kV13 dc13 pm13 an13 cd13 ct13), sl13⟩) (c13 : PySem.W.codeIn K cd13 "_law_cell_at" = true) (k13 : PySem.W.keepIn K (.ref f13) = true)
    (a14 : PySem.W.nsIn K mainGlobals "_law_mixed" = some (some (.ref f14))) (l14 : K.lookup f14 = some ⟨oc14, od14, .func (PySem.W.fnOf "_law_mixed" "_law_mixed" (defArgs s_mixed) (defBody s_mixed) (defScope s_mixed) .none kV14 dc14 pm14 an14 cd14 ct14), sl14⟩) (c14 : PySem.W.codeIn K cd14 "_law_mixed" = true) (k14 : PySem.W.keepIn K (.ref f14) = true)
    (a15 : PySem.W.nsIn K mainGlobals "_law_source" = some (some (.ref f15))) (l15 : K.lookup f15 = some ⟨oc15, od15, .func (PySem.W.fnOf "_law_source" "_law_source" (defArgs s_source) (defBody s_source) (defScope s_source) .none kV15 dc15 pm15 an15 cd15 ct15), sl15⟩) (c15 : PySem.W.codeIn K cd15 "_law_source" = true) (k15 : PySem.W.keepIn K (.ref f15) = true)
    (a16 : PySem.W.nsIn K mainGlobals "_law_next" = some (some (.ref f16))) (l16 : K.lookup f16 = some ⟨oc16, od16, .func (PySem.W.fnOf "_law_next" "_law_next" (defArgs s_next) (defBody s_next) (defScope s_next) .none kV16 dc16 pm16 an16 cd16 ct16), sl16⟩) (c16 : PySem.W.codeIn K cd16 "_law_next" = true) (k16 : PySem.W.keepIn K (.ref f16) = true)
    (a17 : PySem.W.nsIn K mainGlobals "_law_shared" = some (some (.ref f17))) (l17 : K.lookup f17 = some ⟨oc17, od17, .func (PySem.W.fnOf "_law_shared" "_law_shared" (defArgs s_shared) (defBody s_shared) (defScope s_shared) .none kV17 dc17 pm17 an17 cd17 ct17), sl17⟩) (c17 : PySem.W.codeIn K cd17 "_law_shared" = true) (k17 : PySem.W.keepIn K (.ref f17) = true)
    (a18 : PySem.W.nsIn K mainGlobals "_law_level" = some (some (.ref f18))) (l18 : K.lookup f18 = some ⟨oc18, od18, .func (PySem.W.fnOf "_law_level" "_law_level" (defArgs s_level) (defBody s_level) (defScope s_level) .none kV18 dc18 pm18 an18 cd18 ct18), sl18⟩) (c18 : PySem.W.codeIn K cd18 "_law_level" = true) (k18 : PySem.W.keepIn K (.ref f18) = true)
    (a19 : PySem.W.nsIn K mainGlobals "_law_bounds" = some (some (.ref f19))) (l19 : K.lookup f19 = some ⟨oc19, od19, .func (PySem.W.fnOf "_law_bounds" "_law_bounds" (defArgs s_bounds) (defBody s_bounds) (defScope s_bounds) .none kV19 dc19 pm19 an19 cd19 ct19), sl19⟩) (c19 : PySem.W.codeIn K cd19 "_law_bounds" = true) (k19 : PySem.W.keepIn K (.ref f19) = true)
    (a20 : PySem.W.nsIn K mainGlobals "_law_dealt_right" = some (some (.ref f20))) (l20 : K.lookup f20 = some ⟨oc20, od20, .func (PySem.W.fnOf "_law_dealt_right" "_law_dealt_right" (defArgs s_dealt_right) (defBody s_dealt_right) (defScope s_dealt_right) .none kV20 dc20 pm20 an20 cd20 ct20), sl20⟩) (c20 : PySem.W.codeIn K cd20 "_law_dealt_right" = true) (k20 : PySem.W.keepIn K (.ref f20) = true)
    (a21 : PySem.W.nsIn K mainGlobals "_law_levelled_right" = some (some (.ref f21))) (l21 : K.lookup f21 = some ⟨oc21, od21, .func (PySem.W.fnOf "_law_levelled_right" "_law_levelled_right" (defArgs s_levelled_right) (defBody s_levelled_right) (defScope s_levelled_right) .none kV21 dc21 pm21 an21 cd21 ct21), sl21⟩) (c21 : PySem.W.codeIn K cd21 "_law_levelled_right" = true) (k21 : PySem.W.keepIn K (.ref f21) = true)
    (a22 : PySem.W.nsIn K mainGlobals "law" = some (some (.ref f22))) (l22 : K.lookup f22 = some ⟨oc22, od22, .func (PySem.W.fnOf "law" "law" (defArgs s_law) (defBody s_law) (defScope s_law) .none kV22 dc22 pm22 an22 cd22 ct22), sl22⟩) (c22 : PySem.W.codeIn K cd22 "law" = true) (k22 : PySem.W.keepIn K (.ref f22) = true)
    (z_isinstance : PySem.W.nsIn K mainGlobals "isinstance" = some none)
    (z_int : PySem.W.nsIn K mainGlobals "int" = some none)
    (z_bool : PySem.W.nsIn K mainGlobals "bool" = some none)
    (z_len : PySem.W.nsIn K mainGlobals "len" = some none)
    (z_zip : PySem.W.nsIn K mainGlobals "zip" = some none)
    (z_sum : PySem.W.nsIn K mainGlobals "sum" = some none)
    (z_list : PySem.W.nsIn K mainGlobals "list" = some none)
    (z_enumerate : PySem.W.nsIn K mainGlobals "enumerate" = some none)
    (z_max : PySem.W.nsIn K mainGlobals "max" = some none)
    (z_min : PySem.W.nsIn K mainGlobals "min" = some none)
    (z_all : PySem.W.nsIn K mainGlobals "all" = some none)
    (z_range : PySem.W.nsIn K mainGlobals "range" = some none) :
    ∃ fd : FuncData, (∀ (s : Shared) (v : Value), BindsTo s fd ⟨[v], []⟩ [("_law_script", v)]) ∧ ∀ base : Heap, K.In base → base.Ns mainGlobals mg → FnOk l.prog w K mg base CX0 7 fa fd ["_law_script"] (spLaw K) := by
  have e := hfa.symm.trans (PySem.W.mg_of X G a22)
  cases e
  have H0 : Has K mg "is_whole" s_p_is_whole ["thing"] := has_mk (fun_mk (st := s_p_is_whole) l0 c0 k0) (PySem.W.mg_of X G a0) (fun _ _ _ _ _ _ us hl => match us, hl with | [_], _ => rfl)
  have H1 : Has K mg "is_count" s_p_is_count ["thing"] := has_mk (fun_mk (st := s_p_is_count) l1 c1 k1) (PySem.W.mg_of X G a1) (fun _ _ _ _ _ _ us hl => match us, hl with | [_], _ => rfl)
  have H2 : Has K mg "dealt" s_p_dealt ["total", "caps", "weights"] := has_mk (fun_mk (st := s_p_dealt) l2 c2 k2) (PySem.W.mg_of X G a2) (fun _ _ _ _ _ _ us hl => match us, hl with | [_, _, _], _ => rfl)
  have H3 : Has K mg "levelled" s_p_levelled ["total", "floors", "weights"] := has_mk (fun_mk (st := s_p_levelled) l3 c3 k3) (PySem.W.mg_of X G a3) (fun _ _ _ _ _ _ us hl => match us, hl with | [_, _, _], _ => rfl)
  have H4 : Has K mg "refuse_no_list" s_p_refuse_no_list ["thing"] := has_mk (fun_mk (st := s_p_refuse_no_list) l4 c4 k4) (PySem.W.mg_of X G a4) (fun _ _ _ _ _ _ us hl => match us, hl with | [_], _ => rfl)
  have H5 : Has K mg "refuse_no_counts" s_p_refuse_no_counts ["things"] := has_mk (fun_mk (st := s_p_refuse_no_counts) l5 c5 k5) (PySem.W.mg_of X G a5) (fun _ _ _ _ _ _ us hl => match us, hl with | [_], _ => rfl)
  have H6 : Has K mg "refuse_no_weights" s_p_refuse_no_weights ["weights", "many"] := has_mk (fun_mk (st := s_p_refuse_no_weights) l6 c6 k6) (PySem.W.mg_of X G a6) (fun _ _ _ _ _ _ us hl => match us, hl with | [_, _], _ => rfl)
  have H7 : Has K mg "by_level" s_p_by_level ["total", "limits", "weights", "binds"] := has_mk (fun_mk (st := s_p_by_level) l7 c7 k7) (PySem.W.mg_of X G a7) (fun _ _ _ _ _ _ us hl => match us, hl with | [_, _, _, _], _ => rfl)
  have H8 : Has K mg "unbound" s_p_unbound ["total", "limits", "weights", "binds"] := has_mk (fun_mk (st := s_p_unbound) l8 c8 k8) (PySem.W.mg_of X G a8) (fun _ _ _ _ _ _ us hl => match us, hl with | [_, _, _, _], _ => rfl)
  have H9 : Has K mg "cap_binds" s_p_cap_binds ["cap", "weight", "top", "bottom"] := has_mk (fun_mk (st := s_p_cap_binds) l9 c9 k9) (PySem.W.mg_of X G a9) (fun _ _ _ _ _ _ us hl => match us, hl with | [_, _, _, _], _ => rfl)
  have H10 : Has K mg "floor_binds" s_p_floor_binds ["floor", "weight", "top", "bottom"] := has_mk (fun_mk (st := s_p_floor_binds) l10 c10 k10) (PySem.W.mg_of X G a10) (fun _ _ _ _ _ _ us hl => match us, hl with | [_, _, _, _], _ => rfl)
  have H11 : Has K mg "running_parts" s_p_running_parts ["room", "weights"] := has_mk (fun_mk (st := s_p_running_parts) l11 c11 k11) (PySem.W.mg_of X G a11) (fun _ _ _ _ _ _ us hl => match us, hl with | [_, _], _ => rfl)
  have H12 : Has K mg "in_lowest_terms" s_p_in_lowest_terms ["top", "bottom"] := has_mk (fun_mk (st := s_p_in_lowest_terms) l12 c12 k12) (PySem.W.mg_of X G a12) (fun _ _ _ _ _ _ us hl => match us, hl with | [_, _], _ => rfl)
  have H13 : Has K mg "_law_cell_at" s_cell_at ["_law_script", "_law_k"] := has_mk (fun_mk (st := s_cell_at) l13 c13 k13) (PySem.W.mg_of X G a13) (fun _ _ _ _ _ _ us hl => match us, hl with | [_, _], _ => rfl)
  have H14 : Has K mg "_law_mixed" s_mixed ["_law_cell", "_law_k"] := has_mk (fun_mk (st := s_mixed) l14 c14 k14) (PySem.W.mg_of X G a14) (fun _ _ _ _ _ _ us hl => match us, hl with | [_, _], _ => rfl)
  have H15 : Has K mg "_law_source" s_source ["_law_cell"] := has_mk (fun_mk (st := s_source) l15 c15 k15) (PySem.W.mg_of X G a15) (fun _ _ _ _ _ _ us hl => match us, hl with | [_], _ => rfl)
  have H16 : Has K mg "_law_next" s_next ["_law_source_here", "_law_many"] := has_mk (fun_mk (st := s_next) l16 c16 k16) (PySem.W.mg_of X G a16) (fun _ _ _ _ _ _ us hl => match us, hl with | [_, _], _ => rfl)
  have H17 : Has K mg "_law_shared" s_shared ["_law_one", "_law_other"] := has_mk (fun_mk (st := s_shared) l17 c17 k17) (PySem.W.mg_of X G a17) (fun _ _ _ _ _ _ us hl => match us, hl with | [_, _], _ => rfl)
  have H18 : Has K mg "_law_level" s_level ["_law_source_here"] := has_mk (fun_mk (st := s_level) l18 c18 k18) (PySem.W.mg_of X G a18) (fun _ _ _ _ _ _ us hl => match us, hl with | [_], _ => rfl)
  have H19 : Has K mg "_law_bounds" s_bounds ["_law_source_here", "_law_parts"] := has_mk (fun_mk (st := s_bounds) l19 c19 k19) (PySem.W.mg_of X G a19) (fun _ _ _ _ _ _ us hl => match us, hl with | [_, _], _ => rfl)
  have H20 : Has K mg "_law_dealt_right" s_dealt_right ["_law_level_here", "_law_parts", "_law_caps", "_law_weights"] := has_mk (fun_mk (st := s_dealt_right) l20 c20 k20) (PySem.W.mg_of X G a20) (fun _ _ _ _ _ _ us hl => match us, hl with | [_, _, _, _], _ => rfl)
  have H21 : Has K mg "_law_levelled_right" s_levelled_right ["_law_level_here", "_law_parts", "_law_floors", "_law_weights"] := has_mk (fun_mk (st := s_levelled_right) l21 c21 k21) (PySem.W.mg_of X G a21) (fun _ _ _ _ _ _ us hl => match us, hl with | [_, _, _, _], _ => rfl)
  have T : Txt K mg := ⟨H0, H1, H2, H3, H4, H5, H6, H7, H8, H9, H10, H11, H12, H13, H14, H15, H16, H17, H18, H19, H20, H21, PySem.W.mg_none_of X G z_isinstance, PySem.W.mg_none_of X G z_int, PySem.W.mg_none_of X G z_bool, PySem.W.mg_none_of X G z_len, PySem.W.mg_none_of X G z_zip, PySem.W.mg_none_of X G z_sum, PySem.W.mg_none_of X G z_list, PySem.W.mg_none_of X G z_enumerate, PySem.W.mg_none_of X G z_max, PySem.W.mg_none_of X G z_min, PySem.W.mg_none_of X G z_all, PySem.W.mg_none_of X G z_range⟩
  exact ⟨_, fun s v => .of_eq rfl, fun base _ _ => ok_law (fun_mk (st := s_law) l22 c22 k22) T⟩
end K05
open PySem PySem.W PyProof.Rows
set_option maxRecDepth 100000 in
set_option maxHeartbeats 0 in
theorem PySem.Challenge.cw_nestlaid_k05_levels_that_are_known_holds : PySem.Challenge.rw_nestlaid_k05_levels_that_are_known.Holds := by
  w_on; o_law; k_head; (case hw => w_witness2)
  k_fill
  refine L2.walk_of (l := PySem.Challenge.rw_nestlaid_k05_levels_that_are_known) (n := 63) (k := 7) (x := "_law_script") (CX := fun _ => L2.CX0) (sp := fun w => K05.spLaw _) rfl (by decide) rfl ⟨rfl, by decide, by decide⟩ (fun w h Y => PySem.W.kIn_of Y) ?F (fun _ _ a ns hl _ hS => ⟨a, ns, rfl, hS, hl, fun _ => rfl⟩) (fun _ _ _ _ _ h => h)
  case F =>
    intro w mg fa h KX G hmg
    refine' K05.all_mk KX G hmg ?a0 ?l0 ?c0 ?k0 ?a1 ?l1 ?c1 ?k1 ?a2 ?l2 ?c2 ?k2 ?a3 ?l3 ?c3 ?k3 ?a4 ?l4 ?c4 ?k4 ?a5 ?l5 ?c5 ?k5 ?a6 ?l6 ?c6 ?k6 ?a7 ?l7 ?c7 ?k7 ?a8 ?l8 ?c8 ?k8 ?a9 ?l9 ?c9 ?k9 ?a10 ?l10 ?c10 ?k10 ?a11 ?l11 ?c11 ?k11 ?a12 ?l12 ?c12 ?k12 ?a13 ?l13 ?c13 ?k13 ?a14 ?l14 ?c14 ?k14 ?a15 ?l15 ?c15 ?k15 ?a16 ?l16 ?c16 ?k16 ?a17 ?l17 ?c17 ?k17 ?a18 ?l18 ?c18 ?k18 ?a19 ?l19 ?c19 ?k19 ?a20 ?l20 ?c20 ?k20 ?a21 ?l21 ?c21 ?k21 ?a22 ?l22 ?c22 ?k22 ?z_isinstance ?z_int ?z_bool ?z_len ?z_zip ?z_sum ?z_list ?z_enumerate ?z_max ?z_min ?z_all ?z_range
    (case a0 => k_is); (case l0 => k_is); (case c0 => k_is); (case k0 => k_is)
    (case a1 => k_is); (case l1 => k_is); (case c1 => k_is); (case k1 => k_is)
    (case a2 => k_is); (case l2 => k_is); (case c2 => k_is); (case k2 => k_is)
    (case a3 => k_is); (case l3 => k_is); (case c3 => k_is); (case k3 => k_is)
    (case a4 => k_is); (case l4 => k_is); (case c4 => k_is); (case k4 => k_is)
    (case a5 => k_is); (case l5 => k_is); (case c5 => k_is); (case k5 => k_is)
    (case a6 => k_is); (case l6 => k_is); (case c6 => k_is); (case k6 => k_is)
    (case a7 => k_is); (case l7 => k_is); (case c7 => k_is); (case k7 => k_is)
    (case a8 => k_is); (case l8 => k_is); (case c8 => k_is); (case k8 => k_is)
    (case a9 => k_is); (case l9 => k_is); (case c9 => k_is); (case k9 => k_is)
    (case a10 => k_is); (case l10 => k_is); (case c10 => k_is); (case k10 => k_is)
    (case a11 => k_is); (case l11 => k_is); (case c11 => k_is); (case k11 => k_is)
    (case a12 => k_is); (case l12 => k_is); (case c12 => k_is); (case k12 => k_is)
    (case a13 => k_is); (case l13 => k_is); (case c13 => k_is); (case k13 => k_is)
    (case a14 => k_is); (case l14 => k_is); (case c14 => k_is); (case k14 => k_is)
    (case a15 => k_is); (case l15 => k_is); (case c15 => k_is); (case k15 => k_is)
    (case a16 => k_is); (case l16 => k_is); (case c16 => k_is); (case k16 => k_is)
    (case a17 => k_is); (case l17 => k_is); (case c17 => k_is); (case k17 => k_is)
    (case a18 => k_is); (case l18 => k_is); (case c18 => k_is); (case k18 => k_is)
    (case a19 => k_is); (case l19 => k_is); (case c19 => k_is); (case k19 => k_is)
    (case a20 => k_is); (case l20 => k_is); (case c20 => k_is); (case k20 => k_is)
    (case a21 => k_is); (case l21 => k_is); (case c21 => k_is); (case k21 => k_is)
    (case a22 => k_is); (case l22 => k_is); (case c22 => k_is); (case k22 => k_is)
    (case z_isinstance => k_is); (case z_int => k_is); (case z_bool => k_is); (case z_len => k_is)
    (case z_zip => k_is); (case z_sum => k_is); (case z_list => k_is); (case z_enumerate => k_is)
    (case z_max => k_is); (case z_min => k_is); (case z_all => k_is); (case z_range => k_is)
